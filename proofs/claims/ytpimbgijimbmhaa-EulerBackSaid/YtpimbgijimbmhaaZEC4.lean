/-
  The walk of cut.
-/
import Derived.Test.YtpimbgijimbmhaaZEC3
namespace Go.Proofs.Ytpimbgijimbmhaa
open Go.RowKit Go.Maps
set_option linter.unusedVariables false

theorem next_at {M : RM SV} {a : Nat} {X : List Nat} (h : M.Ok) (ha : 1 ≤ a ∧ a ≤ M.own.length) (hr : M.rowOf a = a :: X) (hX : X ≠ []) : M.atA (a : Int) 1 = (nextOf M a : Int) ∧ 1 ≤ nextOf M a ∧ nextOf M a ≤ M.own.length := by
  cases X with
  | nil => exact absurd rfl hX
  | cons x X =>
    have e := atA_ok (M := M) (i := 1) ha (by rw [hr]; simp)
    have hn : nextOf M a = x := by unfold nextOf; rw [hr]; rfl
    refine ⟨e, ?_⟩
    rw [hn]
    exact row_known h (row_mem h ha).1 (by rw [hr]; simp)

set_option maxRecDepth 100000 in
set_option maxHeartbeats 4000000 in
theorem cut_any (w : World) (f g : Nat) (S : Nat → Prop) (M : RM SV) (hr : Rp w g S M) (c1 c2 c3 c4 : Value) (hf : Blk w f 73 #[.pointer (some ⟨g, 0, none⟩), c1, c2, c3, c4]) (p0 p1 : Nat) (k0 : 1 ≤ p0 ∧ p0 ≤ M.own.length) (k1 : 1 ≤ p1 ∧ p1 ≤ M.own.length) {xs X Y : List Nat} {R : List (List Nat)} (L : CutOutM M xs R p0 p1 X Y) :
    Calls Try.prog 47 #[.pointer (some ⟨f, 0, none⟩), .agg #[.int .i64 (p0 : Int), .int .i64 (p1 : Int)]] w fun e w' => e = .returned (.tuple #[]) ∧ Turn w g S (cutM M p0 p1) w' := by
  obtain ⟨p, hp⟩ : ∃ p, p = w.heap.size := ⟨_, rfl⟩
  obtain ⟨W, hW⟩ : ∃ x, x = w.alloc (.cells #[.int .i64 (p0 : Int), .int .i64 (p1 : Int)] 79) := ⟨_, rfl⟩
  have hb : Below w.heap.size w W := by rw [hW]; exact (Below.refl _ _).alloc (Nat.le_refl _) _
  have HP := Lib.hid hp
  have HW := Lib.hid hW
  have B0 : Hid (Blk W p 79 #[.int .i64 (p0 : Int), .int .i64 (p1 : Int)]) := Lib.hid (by rw [hW, hp]; exact Blk.new _ _ _)
  have R0 := Lib.hid (hr.below hb)
  have F0 := Lib.hid (hf.below hb hf.lt)
  have M0 : Hid (Mod S w W) := Lib.hid (Mod.of_below hb S)
  have N0 : Hid (∀ k, S k → S k ∨ w.heap.size ≤ k) := Lib.hid (fun k hk => .inl hk)
  obtain ⟨Ma, ha⟩ : ∃ x, x = turnM M p0 := ⟨_, rfl⟩
  obtain ⟨Mb, hb2⟩ : ∃ x, x = Ma.cut p1 := ⟨_, rfl⟩
  obtain ⟨x, hx⟩ : ∃ x, x = nextOf Mb p0 := ⟨_, rfl⟩
  obtain ⟨Mc, hc⟩ : ∃ q, q = Mb.cut x := ⟨_, rfl⟩
  obtain ⟨y, hy⟩ : ∃ y, y = nextOf Mc p1 := ⟨_, rfl⟩
  obtain ⟨Md, hd⟩ : ∃ q, q = Mc.cut y := ⟨_, rfl⟩
  have hlm : cutM M p0 p1 = Md := by rw [hd, hy, hc, hx, hb2, ha]; rfl
  have la : Ma.own.length = M.own.length := by rw [ha, turn_own]
  have lb : Mb.own.length = M.own.length := by rw [hb2]; exact la
  have lc : Mc.own.length = M.own.length := by rw [hc]; exact lb
  have hX : X ≠ [] := L.ok.ne X (L.rows.mem_iff.2 (by simp))
  have hY : Y ≠ [] := L.ok.ne Y (L.rows.mem_iff.2 (by simp))
  have n0 := next_at (M := Mb) (a := p0) (X := X) (by rw [hb2, ha]; exact L.ok2) (by rw [lb]; exact k0) (by rw [hb2, ha]; exact L.row0) hX
  rw [← hx] at n0
  have n1 := next_at (M := Mc) (a := p1) (X := Y) (by rw [hc, hx, hb2, ha]; exact L.ok3) (by rw [lc]; exact k1) (by rw [hc, hx, hb2, ha]; exact L.row1) hY
  rw [← hy] at n1
  have K0 := Lib.hid k0
  have J1 : Hid (Ma.cutA (p1 : Int) = Mb) := Lib.hid (by rw [cutA_ok (by rw [la]; exact k1), hb2])
  have A0 : Hid (Mb.atA (p0 : Int) 1 = (x : Int)) := Lib.hid n0.1
  have J2 : Hid (Mb.cutA (x : Int) = Mc) := Lib.hid (by rw [cutA_ok n0.2, hc])
  have A1 : Hid (Mc.atA (p1 : Int) 1 = (y : Int)) := Lib.hid n1.1
  have J3 : Hid (Mc.cutA (y : Int) = Md) := Lib.hid (by rw [cutA_ok n1.2, hd])
  have E1 := Lib.hid ha
  rw [hlm]
  have HI0 := run_idx0
  have HI1 := run_idx1
  clear L hr hf hb hp hW hlm ha hb2 hx hc hy hd la lb lc hX hY n0 n1 k0 k1
  go_enter Try.func47, Try.ntmps47
  go_upto_region 1 with fail
  rw [← HW.out]
  try simp only [← HP.out]
  have q1 := B0.out.cell 0
  go_wp2_with fail
  clear q1
  refine (turn_any W f g S M R0.out c1 c2 c3 c4 F0.out p0 K0.out).mono ?_
  rw [← E1.out]
  rintro e w1 ⟨rfl, t1⟩
  obtain ⟨S1, r1, m1, n1⟩ := t1
  have R1 := Lib.hid r1
  have F1 := Lib.hid (F0.out.mod m1 (R0.out.other F0.out (by decide) (by decide) (by decide)))
  have B1 := Lib.hid (B0.out.mod m1 (R0.out.other B0.out (by decide) (by decide) (by decide)))
  have M1 : Hid (Mod S w w1) := Lib.hid (M0.out.trans m1 (fun k hk hs => (N0.out k hs).resolve_right (by omega)))
  have N1 : Hid (∀ k, S1 k → S k ∨ w.heap.size ≤ k) := Lib.hid (fun k hk => (n1 k hk).elim (N0.out k) (fun h => .inr (Nat.le_trans M0.out.size h)))
  clear r1 m1 n1
  have X1 := boxL_of F1.out B1.out
  have HX1 := Lib.hid X1
  obtain ⟨q0, q1, q2⟩ := X1
  go_wp2_with fail
  have HD1 : Hid (BoxL f g p p0 p1 w1.drew) := Lib.hid HX1.out
  have RD := Lib.hid (R1.out.below ((Below.refl _ _).drew))
  have FD := Lib.hid (F1.out.drew)
  have BD := Lib.hid (B1.out.drew)
  have MD := Lib.hid (M1.out.drew)
  go_region_held3 (fun w' => w'.cell? ⟨f, 0, none⟩ = some (.pointer (some ⟨g, 0, none⟩)) ∧ w'.cell? ⟨p, 0, none⟩ = some (.int .i64 (p0 : Int)) ∧ w'.cell? ⟨p, 1, none⟩ = some (.int .i64 (p1 : Int))) (first | with_reducible exact HD1.out.all | with_reducible exact HC1.out.all | fail)
    ((go_at_call 66; refine (rCut _ g S1 Ma RD.out (p1 : Int)).mono ?_; rw [J1.out]; rintro e w2 ⟨rfl, t2⟩; obtain ⟨S2, r2, m2, n2⟩ := t2; have R2 := Lib.hid r2; have F2 := Lib.hid (FD.out.mod m2 (RD.out.other FD.out (by decide) (by decide) (by decide))); have B2 := Lib.hid (BD.out.mod m2 (RD.out.other BD.out (by decide) (by decide) (by decide))); have M2 : Hid (Mod S w w2) := Lib.hid (MD.out.trans m2 (fun k hk hs => (N1.out k hs).resolve_right (by omega))); have N2 : Hid (∀ k, S2 k → S k ∨ w.heap.size ≤ k) := Lib.hid (fun k hk => (n2 k hk).elim (N1.out k) (fun h => .inr (Nat.le_trans MD.out.size h))); have HC1 : Hid (BoxL f g p p0 p1 w2) := Lib.hid (boxL_of F2.out B2.out); clear r2 m2 n2))
  clear q0 q1 q2
  obtain ⟨q0, q1, q2⟩ := HC1.out
  go_wp2_with fail
  clear q0 q1 q2
  go_loopw [20] (fun i wr => ∃ (S3 : Nat → Prop) (M3 : RM SV), ((i = .int .i64 0 ∧ M3 = Mb) ∨ (i = .int .i64 1 ∧ M3 = Mc) ∨ (i = .int .i64 2 ∧ M3 = Md)) ∧ Hid (Rp wr g S3 M3) ∧ Hid (Blk wr f 73 #[.pointer (some ⟨g, 0, none⟩), c1, c2, c3, c4]) ∧ Hid (Mod S w wr) ∧ Hid (∀ k, S3 k → S k ∨ w.heap.size ≤ k)) (fun i _ => 2 - (intOf i).toNat)
  case atStart => exact ⟨S2, Mb, .inl ⟨rfl, rfl⟩, R2, F2, M2, N2⟩
  case round =>
    obtain ⟨S3, M3, hor, R3, F3, M3', N3⟩ := hrel
    rcases hor with ⟨rfl, rfl⟩ | ⟨rfl, rfl⟩ | ⟨rfl, rfl⟩
    · have a0 : wr.cell? ⟨f, 0, none⟩ = _ := F3.out.cell 0
      go_wp2_with fail
      refine (rAt wr g S3 M3 R3.out (p0 : Int) 1).mono ?_
      rw [A0.out]
      generalize M3.atE (p0 : Int) 1 = ez
      rintro e w4 ⟨rfl, t4⟩
      have R4 := Lib.hid (R3.out.below t4)
      have F4 := Lib.hid (F3.out.below t4 F3.out.lt)
      have M4 : Hid (Mod S w w4) := Lib.hid (M3'.out.trans' (Mod.of_below t4 S))
      have N4 := N3
      clear a0
      have a0 : w4.cell? ⟨f, 0, none⟩ = _ := F4.out.cell 0
      go_wp2_with fail
      refine (rCut w4 g S3 M3 R4.out (x : Int)).mono ?_
      rw [J2.out]
      rintro e w5 ⟨rfl, t5⟩
      obtain ⟨S5, r5, m5, n5⟩ := t5
      have R5 := Lib.hid r5
      have F5 := Lib.hid (F4.out.mod m5 (R4.out.other F4.out (by decide) (by decide) (by decide)))
      have M5 : Hid (Mod S w w5) := Lib.hid (M4.out.trans m5 (fun k hk hs => (N4.out k hs).resolve_right (by omega)))
      have N5 : Hid (∀ k, S5 k → S k ∨ w.heap.size ≤ k) := Lib.hid (fun k hk => (n5 k hk).elim (N4.out k) (fun h => .inr (Nat.le_trans M4.out.size h)))
      clear r5 m5 n5 t4 a0
      go_wp2_with fail
      go_roundw
      case rel => exact ⟨S5, Mc, .inr (.inl ⟨rfl, rfl⟩), R5, F5, M5, N5⟩
      case measure => simp [intOf]
    · have a0 : wr.cell? ⟨f, 0, none⟩ = _ := F3.out.cell 0
      go_wp2_with fail
      refine (rAt wr g S3 M3 R3.out (p1 : Int) 1).mono ?_
      rw [A1.out]
      generalize M3.atE (p1 : Int) 1 = ez
      rintro e w4 ⟨rfl, t4⟩
      have R4 := Lib.hid (R3.out.below t4)
      have F4 := Lib.hid (F3.out.below t4 F3.out.lt)
      have M4 : Hid (Mod S w w4) := Lib.hid (M3'.out.trans' (Mod.of_below t4 S))
      have N4 := N3
      clear a0
      have a0 : w4.cell? ⟨f, 0, none⟩ = _ := F4.out.cell 0
      go_wp2_with fail
      refine (rCut w4 g S3 M3 R4.out (y : Int)).mono ?_
      rw [J3.out]
      rintro e w5 ⟨rfl, t5⟩
      obtain ⟨S5, r5, m5, n5⟩ := t5
      have R5 := Lib.hid r5
      have F5 := Lib.hid (F4.out.mod m5 (R4.out.other F4.out (by decide) (by decide) (by decide)))
      have M5 : Hid (Mod S w w5) := Lib.hid (M4.out.trans m5 (fun k hk hs => (N4.out k hs).resolve_right (by omega)))
      have N5 : Hid (∀ k, S5 k → S k ∨ w.heap.size ≤ k) := Lib.hid (fun k hk => (n5 k hk).elim (N4.out k) (fun h => .inr (Nat.le_trans M4.out.size h)))
      clear r5 m5 n5 t4 a0
      go_wp2_with fail
      go_roundw
      case rel => exact ⟨S5, Md, .inr (.inr ⟨rfl, rfl⟩), R5, F5, M5, N5⟩
      case measure => simp [intOf]
    · go_wp2_with fail
      go_end0
      exact ⟨rfl, S3, R3.out, M3'.out, N3.out⟩

end Go.Proofs.Ytpimbgijimbmhaa
