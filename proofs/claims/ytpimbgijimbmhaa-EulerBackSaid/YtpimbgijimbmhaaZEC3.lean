/-
  The walk of link.
-/
import Derived.Test.YtpimbgijimbmhaaZEC1
namespace Go.Proofs.Ytpimbgijimbmhaa
open Go.RowKit Go.Maps
set_option linter.unusedVariables false

/-- What a region reads of a forest and of a pair of places. -/
def BoxL (f g p p0 p1 : Nat) (w : World) : Prop := w.cell? ⟨f, 0, none⟩ = some (.pointer (some ⟨g, 0, none⟩)) ∧ w.cell? ⟨p, 0, none⟩ = some (.int .i64 (p0 : Int)) ∧ w.cell? ⟨p, 1, none⟩ = some (.int .i64 (p1 : Int))

theorem BoxL.all {f g p p0 p1 : Nat} {w : World} (h : BoxL f g p p0 p1 w) : w.cell? ⟨f, 0, none⟩ = some (.pointer (some ⟨g, 0, none⟩)) ∧ w.cell? ⟨p, 0, none⟩ = some (.int .i64 (p0 : Int)) ∧ w.cell? ⟨p, 1, none⟩ = some (.int .i64 (p1 : Int)) := h

theorem boxL_of {f g p p0 p1 : Nat} {w : World} {c1 c2 c3 c4 : Value} (h1 : Blk w f 73 #[.pointer (some ⟨g, 0, none⟩), c1, c2, c3, c4]) (h2 : Blk w p 79 #[.int .i64 (p0 : Int), .int .i64 (p1 : Int)]) : BoxL f g p p0 p1 w := ⟨h1.cell 0, h2.cell 0, h2.cell 1⟩

set_option maxRecDepth 100000 in
set_option maxHeartbeats 4000000 in
theorem link_any (w : World) (f g : Nat) (S : Nat → Prop) (M : RM SV) (hr : Rp w g S M) (c1 c2 c3 c4 : Value) (hf : Blk w f 73 #[.pointer (some ⟨g, 0, none⟩), c1, c2, c3, c4]) (a b p0 p1 : Nat) {xs ys Z1 Z2 : List Nat} {R : List (List Nat)} (L : LinkOut M xs ys R a b p0 p1 Z1 Z2) :
    Calls Try.prog 46 #[.pointer (some ⟨f, 0, none⟩), .int .i64 (a : Int), .int .i64 (b : Int), .agg #[.int .i64 (p0 : Int), .int .i64 (p1 : Int)]] w fun e w' => e = .returned (.tuple #[]) ∧ Turn w g S (linkM M a b p0 p1) w' := by
  obtain ⟨p, hp⟩ : ∃ p, p = w.heap.size := ⟨_, rfl⟩
  obtain ⟨W, hW⟩ : ∃ x, x = w.alloc (.cells #[.int .i64 (p0 : Int), .int .i64 (p1 : Int)] 79) := ⟨_, rfl⟩
  have hb : Below w.heap.size w W := by rw [hW]; exact (Below.refl _ _).alloc (Nat.le_refl _) _
  have HP := Lib.hid hp
  have HW := Lib.hid hW
  have B0 : Hid (Blk W p 79 #[.int .i64 (p0 : Int), .int .i64 (p1 : Int)]) := Lib.hid (by rw [hW, hp]; exact Blk.new _ _ _)
  have R0 := Lib.hid (hr.below hb)
  have F0 := Lib.hid (hf.below hb hf.lt)
  have M0 : Hid (Mod S w W) := Lib.hid (Mod.of_below hb S)
  have N0 : Hid (∀ k, S k → S k ∨ w.heap.size ≤ k) := Lib.hid (fun k hk => .inl hk)
  have HL := Lib.hid L
  obtain ⟨Ma, ha⟩ : ∃ x, x = turnM M a := ⟨_, rfl⟩
  obtain ⟨Mb, hb2⟩ : ∃ x, x = turnM Ma b := ⟨_, rfl⟩
  obtain ⟨Mc, hc⟩ : ∃ x, x = Mb.join a p0 := ⟨_, rfl⟩
  obtain ⟨Md, hd⟩ : ∃ x, x = Mc.join p0 b := ⟨_, rfl⟩
  obtain ⟨Me, he⟩ : ∃ x, x = Md.join b p1 := ⟨_, rfl⟩
  have hlm : linkM M a b p0 p1 = Me := by rw [he, hd, hc, hb2, ha]; rfl
  have lb : Ma.own.length = M.own.length := by rw [ha, turn_own]
  have lc : Mb.own.length = M.own.length := by rw [hb2, turn_own, lb]
  have ld : Mc.own.length = M.own.length := by rw [hc]; exact lc
  have le : Md.own.length = M.own.length := by rw [hd]; exact ld
  have K1 : Hid (1 ≤ a ∧ a ≤ M.own.length) := Lib.hid L.known.1
  have K2 : Hid (1 ≤ b ∧ b ≤ Ma.own.length) := Lib.hid (by rw [lb]; exact L.known.2.1)
  have J1 : Hid (Mb.joinA (a : Int) (p0 : Int) = Mc) := Lib.hid (by rw [joinA_ok (by rw [lc]; exact L.known.1) (by rw [lc]; exact L.known.2.2.1) (by rw [hb2, ha]; exact L.ne1), hc])
  have J2 : Hid (Mc.joinA (p0 : Int) (b : Int) = Md) := Lib.hid (by rw [joinA_ok (by rw [ld]; exact L.known.2.2.1) (by rw [ld]; exact L.known.2.1) (by rw [hc, hb2, ha]; exact L.ne2), hd])
  have J3 : Hid (Md.joinA (b : Int) (p1 : Int) = Me) := Lib.hid (by rw [joinA_ok (by rw [le]; exact L.known.2.1) (by rw [le]; exact L.known.2.2.2) (by rw [hd, hc, hb2, ha]; exact L.ne3), he])
  have E1 := Lib.hid ha
  have E2 := Lib.hid hb2
  rw [hlm]
  clear L hr hf hb hp hW hlm ha hb2 hc hd he lb lc ld le HL
  go_enter Try.func46, Try.ntmps46
  go_upto_region 1 with fail
  rw [← HW.out]
  try simp only [← HP.out]
  go_wp2_with fail
  refine (turn_any W f g S M R0.out c1 c2 c3 c4 F0.out a K1.out).mono ?_
  rw [← E1.out]
  rintro e w1 ⟨rfl, t1⟩
  obtain ⟨S1, r1, m1, n1⟩ := t1
  have R1 := Lib.hid r1
  have F1 := Lib.hid (F0.out.mod m1 (R0.out.other F0.out (by decide) (by decide) (by decide)))
  have B1 := Lib.hid (B0.out.mod m1 (R0.out.other B0.out (by decide) (by decide) (by decide)))
  have M1 : Hid (Mod S w w1) := Lib.hid (M0.out.trans m1 (fun k hk hs => (N0.out k hs).resolve_right (by omega)))
  have N1 : Hid (∀ k, S1 k → S k ∨ w.heap.size ≤ k) := Lib.hid (fun k hk => (n1 k hk).elim (N0.out k) (fun h => .inr (Nat.le_trans M0.out.size h)))
  clear r1 m1 n1
  go_wp2_with fail
  refine (turn_any w1 f g S1 Ma R1.out c1 c2 c3 c4 F1.out b K2.out).mono ?_
  rw [← E2.out]
  rintro e w2 ⟨rfl, t2⟩
  obtain ⟨S2, r2, m2, n2⟩ := t2
  have R2 := Lib.hid r2
  have F2 := Lib.hid (F1.out.mod m2 (R1.out.other F1.out (by decide) (by decide) (by decide)))
  have B2 := Lib.hid (B1.out.mod m2 (R1.out.other B1.out (by decide) (by decide) (by decide)))
  have M2 : Hid (Mod S w w2) := Lib.hid (M1.out.trans m2 (fun k hk hs => (N1.out k hs).resolve_right (by omega)))
  have N2 : Hid (∀ k, S2 k → S k ∨ w.heap.size ≤ k) := Lib.hid (fun k hk => (n2 k hk).elim (N1.out k) (fun h => .inr (Nat.le_trans M1.out.size h)))
  clear r2 m2 n2
  have X2 := boxL_of F2.out B2.out
  have HX2 := Lib.hid X2
  obtain ⟨q0, q1, q2⟩ := X2
  go_wp2_with fail
  have HD2 : Hid (BoxL f g p p0 p1 w2.drew) := Lib.hid HX2.out
  have RD2 := Lib.hid (R2.out.below ((Below.refl _ _).drew))
  have FD2 := Lib.hid (F2.out.drew)
  have BD2 := Lib.hid (B2.out.drew)
  have MD2 := Lib.hid (M2.out.drew)
  go_region_held3 (fun w' => w'.cell? ⟨f, 0, none⟩ = some (.pointer (some ⟨g, 0, none⟩)) ∧ w'.cell? ⟨p, 0, none⟩ = some (.int .i64 (p0 : Int)) ∧ w'.cell? ⟨p, 1, none⟩ = some (.int .i64 (p1 : Int))) (first | with_reducible exact HD2.out.all | with_reducible exact HC2.out.all | fail)
    ((go_at_call 65; refine (rJoin _ g S2 Mb RD2.out (a : Int) (p0 : Int)).mono ?_; rw [J1.out]; rintro e w3 ⟨rfl, t3⟩; obtain ⟨S3, r3, m3, n3⟩ := t3; have R3 := Lib.hid r3; have F3 := Lib.hid (FD2.out.mod m3 (RD2.out.other FD2.out (by decide) (by decide) (by decide))); have B3 := Lib.hid (BD2.out.mod m3 (RD2.out.other BD2.out (by decide) (by decide) (by decide))); have M3 : Hid (Mod S w w3) := Lib.hid (MD2.out.trans m3 (fun k hk hs => (N2.out k hs).resolve_right (by omega))); have N3 : Hid (∀ k, S3 k → S k ∨ w.heap.size ≤ k) := Lib.hid (fun k hk => (n3 k hk).elim (N2.out k) (fun h => .inr (Nat.le_trans MD2.out.size h))); have HC2 : Hid (BoxL f g p p0 p1 w3) := Lib.hid (boxL_of F3.out B3.out); clear r3 m3 n3))
  clear q0 q1 q2
  have X3 := boxL_of F3.out B3.out
  have HX3 := Lib.hid X3
  obtain ⟨q0, q1, q2⟩ := X3
  go_wp2_with fail
  have HD3 : Hid (BoxL f g p p0 p1 w3.drew) := Lib.hid HX3.out
  have RD3 := Lib.hid (R3.out.below ((Below.refl _ _).drew))
  have FD3 := Lib.hid (F3.out.drew)
  have BD3 := Lib.hid (B3.out.drew)
  have MD3 := Lib.hid (M3.out.drew)
  go_region_held3 (fun w' => w'.cell? ⟨f, 0, none⟩ = some (.pointer (some ⟨g, 0, none⟩)) ∧ w'.cell? ⟨p, 0, none⟩ = some (.int .i64 (p0 : Int)) ∧ w'.cell? ⟨p, 1, none⟩ = some (.int .i64 (p1 : Int))) (first | with_reducible exact HD3.out.all | with_reducible exact HC3.out.all | fail)
    ((go_at_call 65; refine (rJoin _ g S3 Mc RD3.out (p0 : Int) (b : Int)).mono ?_; rw [J2.out]; rintro e w4 ⟨rfl, t4⟩; obtain ⟨S4, r4, m4, n4⟩ := t4; have R4 := Lib.hid r4; have F4 := Lib.hid (FD3.out.mod m4 (RD3.out.other FD3.out (by decide) (by decide) (by decide))); have B4 := Lib.hid (BD3.out.mod m4 (RD3.out.other BD3.out (by decide) (by decide) (by decide))); have M4 : Hid (Mod S w w4) := Lib.hid (MD3.out.trans m4 (fun k hk hs => (N3.out k hs).resolve_right (by omega))); have N4 : Hid (∀ k, S4 k → S k ∨ w.heap.size ≤ k) := Lib.hid (fun k hk => (n4 k hk).elim (N3.out k) (fun h => .inr (Nat.le_trans MD3.out.size h))); have HC3 : Hid (BoxL f g p p0 p1 w4) := Lib.hid (boxL_of F4.out B4.out); clear r4 m4 n4))
  clear q0 q1 q2
  have X4 := boxL_of F4.out B4.out
  have HX4 := Lib.hid X4
  obtain ⟨q0, q1, q2⟩ := X4
  go_wp2_with fail
  have HD4 : Hid (BoxL f g p p0 p1 w4.drew) := Lib.hid HX4.out
  have RD4 := Lib.hid (R4.out.below ((Below.refl _ _).drew))
  have FD4 := Lib.hid (F4.out.drew)
  have BD4 := Lib.hid (B4.out.drew)
  have MD4 := Lib.hid (M4.out.drew)
  go_region_held3 (fun w' => w'.cell? ⟨f, 0, none⟩ = some (.pointer (some ⟨g, 0, none⟩)) ∧ w'.cell? ⟨p, 0, none⟩ = some (.int .i64 (p0 : Int)) ∧ w'.cell? ⟨p, 1, none⟩ = some (.int .i64 (p1 : Int))) (first | with_reducible exact HD4.out.all | with_reducible exact HC4.out.all | fail)
    ((go_at_call 65; refine (rJoin _ g S4 Md RD4.out (b : Int) (p1 : Int)).mono ?_; rw [J3.out]; rintro e w5 ⟨rfl, t5⟩; obtain ⟨S5, r5, m5, n5⟩ := t5; have R5 := Lib.hid r5; have F5 := Lib.hid (FD4.out.mod m5 (RD4.out.other FD4.out (by decide) (by decide) (by decide))); have B5 := Lib.hid (BD4.out.mod m5 (RD4.out.other BD4.out (by decide) (by decide) (by decide))); have M5 : Hid (Mod S w w5) := Lib.hid (MD4.out.trans m5 (fun k hk hs => (N4.out k hs).resolve_right (by omega))); have N5 : Hid (∀ k, S5 k → S k ∨ w.heap.size ≤ k) := Lib.hid (fun k hk => (n5 k hk).elim (N4.out k) (fun h => .inr (Nat.le_trans MD4.out.size h))); have HC4 : Hid (BoxL f g p p0 p1 w5) := Lib.hid (boxL_of F5.out B5.out); clear r5 m5 n5))
  clear q0 q1 q2
  go_wp2_with fail
  go_end0
  exact ⟨rfl, S5, R5.out, M5.out, N5.out⟩

end Go.Proofs.Ytpimbgijimbmhaa
