/-
  The walks of skeinref08's Used and Room at a row of items.
-/
import Derived.Test.YtdghanhpeekbhaaZQ6
namespace Go.Proofs.Ytdghanhpeekbhaa
open Go.RowKit Go.Maps
set_option linter.unusedVariables false

/-- A row of slices whose lengths are those of the texts L. -/
structure LenRow (w : World) (v : Value) (L : List (List Nat)) (ys : List Sl) : Prop where
  rk : RK encSl 1 w w.heap.size v ys
  len : ys.length = L.length
  at_ : ∀ (j : Nat) y l, ys[j]? = some y → L[j]? = some l → y.2.1 = l.length
/-- A row of texts that is new from B on. -/
structure NewTxt (w : World) (B : Nat) (v : Value) (L : List (List Nat)) (ys : List Sl) : Prop where
  ok : OK encSl 1 22 w B v ys
  len : ys.length = L.length
  at_ : ∀ (j : Nat) y l, ys[j]? = some y → L[j]? = some l → OB w B (slV y) l
/-- skeinref08's page. -/
def refPg (ls kd ex : Nat) (v : Value) : Value := .agg #[.int .i64 (ls : Int), .int .u8 (kd : Int), .int .u32 (ex : Int), v]
theorem LenRow.open_ {w : World} {v : Value} {L : List (List Nat)} {ys : List Sl} (h : LenRow w v L ys) : ∃ A c, v = .slice A L.length c ∧ Hid (∀ i (hi : i < L.length), ∃ b o, A = some ⟨b, o, none⟩ ∧ b < w.heap.size ∧ ∃ A2 c2, w.cell? ⟨b, o + i, none⟩ = some (.slice A2 L[i].length c2)) := by
  obtain ⟨A, c, e, _, _, _, HA⟩ := h.rk.open_
  refine ⟨A, c, by rw [e, h.len], Lib.hid fun i hi => ?_⟩
  have hiy : i < ys.length := by rw [h.len]; exact hi
  obtain ⟨b, o, rfl, hb, hx⟩ := HA.out i hiy
  have h1 := h.at_ i _ _ (List.getElem?_eq_getElem hiy) (List.getElem?_eq_getElem hi)
  refine ⟨b, o, rfl, hb, ys[i].1, ys[i].2.2, ?_⟩
  have := hx 0 _ rfl
  rw [← h1]
  simpa using this
set_option maxHeartbeats 1000000 in
theorem refUsed_row (w : World) (v : Value) (L : List (List Nat)) (ys : List Sl) (ls kd ex : Nat) (h : LenRow w v L ys) (hf : 18 + 2 * L.length + (L.map List.length).sum ≤ 512) :
    Calls Try.prog 65 #[refPg ls kd ex v] w fun e w' => e = .returned (.int .i64 ((18 + 2 * L.length + (L.map List.length).sum : Nat) : Int)) ∧ Below w.heap.size w w' := by
  obtain ⟨A, c, rfl, HC⟩ := h.open_
  obtain ⟨n, hn⟩ : ∃ n, n = L.length := ⟨_, rfl⟩
  obtain ⟨sm, hsm⟩ : ∃ sm, sm = (L.map List.length).sum := ⟨_, rfl⟩
  rw [← hn, ← hsm] at hf
  rw [← hn, ← hsm]
  obtain ⟨W, hW⟩ : ∃ W, W = w.alloc (.cells #[.int .i64 (ls : Int), .int .u8 (kd : Int), .int .u32 (ex : Int), .slice A n c] 32) := ⟨_, rfl⟩
  have hB : Blk W w.heap.size 32 #[.int .i64 (ls : Int), .int .u8 (kd : Int), .int .u32 (ex : Int), .slice A n c] := by rw [hW]; exact Blk.new _ _ _
  have hb : Below w.heap.size w W := by rw [hW]; exact (Below.refl _ _).alloc (Nat.le_refl _) _
  have c3 : W.cell? ⟨w.heap.size, 3, none⟩ = some (.slice A n c) := hB.cell 3
  have HB := Lib.hid hb
  have HN := Lib.hid hn
  have HSM := Lib.hid hsm
  have hmono : Hid (∀ k, sumTo L k ≤ sm) := Lib.hid fun k => by rw [HSM.out]; exact sumTo_mono
  unfold refPg
  clear h hn hsm hB hb
  go_enter Try.func65, Try.ntmps65
  go_wp2_with fail
  rw [← hW]
  clear hW
  go_loopw [3, 4] (fun x i wr => ∃ k t : Nat, k ≤ n ∧ i = .int .i64 (k : Int) ∧ x = .int .i64 (t : Int) ∧ t ≤ 512 ∧ Hid (t = 18 + 2 * k + sumTo L k) ∧ wr = W) (fun x i wr => n - (intOf i).toNat)
  case atStart => exact ⟨0, 18, Nat.zero_le _, rfl, rfl, by omega, Lib.hid (by simp [sumTo]), rfl⟩
  case round =>
    obtain ⟨k, t, hk, rfl, rfl, ht, HT, rfl⟩ := hrel
    by_cases hlt : k < n
    · have hkl : k < L.length := by rw [← HN.out]; exact hlt
      obtain ⟨b, o, rfl, hbw, A2, c2, hcell⟩ := HC.out k hkl
      have hcw : wr.cell? ⟨b, o + k, none⟩ = some (.slice A2 L[k].length c2) := (HB.out.cell (p := ⟨b, o + k, none⟩) hbw).trans hcell
      obtain ⟨m, hm⟩ : ∃ m, m = L[k].length := ⟨_, rfl⟩
      rw [← hm] at hcw
      have hs := sumTo_succ hkl
      rw [← hm] at hs
      have hm1 := hmono.out (k + 1)
      have HTT : Hid (t + 2 + m = 18 + 2 * (k + 1) + sumTo L (k + 1)) := Lib.hid (by have := HT.out; omega)
      have ht2 : t + 2 + m ≤ 512 := by have := HTT.out; omega
      have hw1 : IntKind.i64.wrap ((t : Int) + 2) = (t : Int) + 2 := by rw [IntKind.wrap_i64]; omega
      have hw2 : IntKind.i64.wrap ((t : Int) + 2 + (m : Int)) = (t : Int) + 2 + (m : Int) := by rw [IntKind.wrap_i64]; omega
      clear hm hs hm1 hcell
      go_wp2_with fail
      (try go_quiet (fail))
      (try go_wp2_with fail)
      go_roundw
      case rel => exact ⟨k + 1, t + 2 + m, by omega, by go_num, by first | rfl | go_num, by omega, HTT, by first | rfl | trivial⟩
      case measure => simp [intOf]; omega
    · obtain rfl : k = n := by omega
      have hend : t = 18 + 2 * k + sm := by have := HT.out; rw [HN.out, sumTo_all, ← HSM.out, ← HN.out] at this; exact this
      have HEND := Lib.hid hend
      clear hend
      go_wp2_with fail
      go_ret
      exact ⟨by rw [← HEND.out]; rfl, HB.out⟩

/-- What Room answers at a page of n items that takes u bytes. -/
def roomI (n u : Nat) : Int := if 100 ≤ n ∨ 510 < u then -1 else if 200 < 510 - u then 200 else ((510 - u : Nat) : Int)
set_option maxHeartbeats 1000000 in
theorem refRoom_row (w : World) (v : Value) (L : List (List Nat)) (ys : List Sl) (ls kd ex : Nat) (h : LenRow w v L ys) (hf : 18 + 2 * L.length + (L.map List.length).sum ≤ 512) :
    Calls Try.prog 34 #[refPg ls kd ex v] w fun e w' => e = .returned (.int .i64 (roomI L.length (18 + 2 * L.length + (L.map List.length).sum))) ∧ Below w.heap.size w w' := by
  have H := Lib.hid h
  have HF := Lib.hid hf
  obtain ⟨A, c, rfl, -⟩ := h.open_
  obtain ⟨n, hn⟩ : ∃ n, n = L.length := ⟨_, rfl⟩
  obtain ⟨u, hu⟩ : ∃ u, u = 18 + 2 * L.length + (L.map List.length).sum := ⟨_, rfl⟩
  rw [← hu] at hf ⊢
  rw [← hn] at H ⊢
  have hn500 : n ≤ 500 := by omega
  obtain ⟨W, hW⟩ : ∃ W, W = w.alloc (.cells #[.int .i64 (ls : Int), .int .u8 (kd : Int), .int .u32 (ex : Int), .slice A n c] 32) := ⟨_, rfl⟩
  have hB : Blk W w.heap.size 32 #[.int .i64 (ls : Int), .int .u8 (kd : Int), .int .u32 (ex : Int), .slice A n c] := by rw [hW]; exact Blk.new _ _ _
  have hb : Below w.heap.size w W := by rw [hW]; exact (Below.refl _ _).alloc (Nat.le_refl _) _
  have q0 : W.cell? ⟨w.heap.size, 0, none⟩ = some (.int .i64 (ls : Int)) := hB.cell 0
  have q1 : W.cell? ⟨w.heap.size, 1, none⟩ = some (.int .u8 (kd : Int)) := hB.cell 1
  have q2 : W.cell? ⟨w.heap.size, 2, none⟩ = some (.int .u32 (ex : Int)) := hB.cell 2
  have q3 : W.cell? ⟨w.heap.size, 3, none⟩ = some (.slice A n c) := hB.cell 3
  have h2 : LenRow W (.slice A n c) L ys := ⟨(H.out.rk.below hb).more hb.size, H.out.len, H.out.at_⟩
  have HR := Lib.hid (refUsed_row W (.slice A n c) L ys ls kd ex h2 HF.out)
  have HB := Lib.hid hb
  have HBL := Lib.hid hB
  have HU := Lib.hid hu
  have hw1 : IntKind.i64.wrap (512 - (u : Int)) = 512 - (u : Int) := by rw [IntKind.wrap_i64]; omega
  have hw2 : IntKind.i64.wrap (512 - (u : Int) - 2) = 510 - (u : Int) := by rw [IntKind.wrap_i64]; omega
  obtain ⟨ri, hri⟩ : ∃ ri, ri = roomI n u := ⟨_, rfl⟩
  rw [← hri]
  have HRI := Lib.hid hri
  unfold refPg at HR ⊢
  clear h hn hu hB hb h2 hri
  go_enter Try.func34, Try.ntmps34
  go_wp2_with fail
  rw [← hW]
  clear hW
  refine HR.out.mono ?_
  rintro e w1 ⟨rfl, hb1⟩
  rw [← HU.out]
  have c3 : w1.cell? ⟨w.heap.size, 3, none⟩ = some (.slice A n c) := (HBL.out.below hb1 HBL.out.lt).cell 3
  have HB1 : Hid (Below w.heap.size w w1) := HB.out.trans (hb1.mono HB.out.size)
  clear hb1 q0 q1 q2 q3
  by_cases h1 : 100 ≤ n
  · have h1i : (100 : Int) ≤ (n : Int) := by omega
    have h1d : decide ((100 : Int) ≤ (n : Int)) = true := by simpa using h1i
    have HR2 : Hid (ri = -1) := Lib.hid (by rw [HRI.out]; exact if_pos (.inl h1))
    go_wp2_with fail
    go_ret
    exact ⟨by rw [HR2.out]; rfl, HB1.out⟩
  · have h1i : ¬ (100 : Int) ≤ (n : Int) := by omega
    have h1d : decide ((100 : Int) ≤ (n : Int)) = false := by simpa using h1i
    by_cases h3 : 510 < u
    · have h3i : 510 - (u : Int) < 0 := by omega
      have HR2 : Hid (ri = -1) := Lib.hid (by rw [HRI.out]; exact if_pos (.inr h3))
      go_wp2_with fail
      go_ret
      exact ⟨by rw [HR2.out]; rfl, HB1.out⟩
    · have h3i : ¬ 510 - (u : Int) < 0 := by omega
      have h3d : decide (510 - (u : Int) < 0) = false := by simpa using h3i
      have HR3 : Hid (ri = if 200 < 510 - u then 200 else ((510 - u : Nat) : Int)) := Lib.hid (by rw [HRI.out]; exact if_neg (by omega))
      by_cases h4 : 200 < 510 - u
      · have h4i : (200 : Int) < 510 - (u : Int) := by omega
        have HR2 : Hid (ri = 200) := Lib.hid (by rw [HR3.out]; exact if_pos h4)
        go_wp2_with fail
        go_ret
        exact ⟨by rw [HR2.out]; rfl, HB1.out⟩
      · have h4i : ¬ (200 : Int) < 510 - (u : Int) := by omega
        have HR2 : Hid (ri = 510 - (u : Int)) := Lib.hid (by rw [HR3.out, if_neg h4]; omega)
        go_wp2_with fail
        go_ret
        exact ⟨by rw [HR2.out]; rfl, HB1.out⟩
theorem room_pg (m : PG) (hf : 18 + 2 * m.items.length + (m.items.map List.length).sum ≤ 512) : m.room = roomI m.items.length (18 + 2 * m.items.length + (m.items.map List.length).sum) := by
  unfold PG.room roomI PG.free
  repeat' split
  all_goals first | omega | rfl | (simp [PG.used, sumTo_all] at *; omega)
end Go.Proofs.Ytdghanhpeekbhaa
