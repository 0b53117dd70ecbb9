/-
  The walk of skeinlaw01.NumPuts.
-/
import Derived.Test.YtaboknjokdgjeaaM1
namespace Go.Proofs.Ytaboknjokdgjeaa
open Go.RowKit
set_option linter.unusedVariables false

/-- Three rows made one behind the other are apart, for Apart. -/
theorem apart3 (v3 v4 v5 : Value) (S : List Nat) (w2 w3 w4 w5 : World) (ho3 : OB w3 w2.heap.size v3 S) (hb3 : Below w2.heap.size w2 w3) (ho4 : OB w4 w3.heap.size v4 S) (hb4 : Below w3.heap.size w3 w4) (ho5 : OB w5 w4.heap.size v5 S) (hb5 : Below w4.heap.size w4 w5) (hl : S.length ≤ 140737488355200) :
    Calls Try.prog 14 #[v3, v4, v5] w5 fun e w' => e = .returned (.bool true) ∧ Below w2.heap.size w2 w' := by
  refine (apart_yes _ _ _ _ _ w2.heap.size ((ho3.below hb4).below hb5) ((ho4.base hb3.size).below hb5) (ho5.base (Nat.le_trans hb3.size hb4.size)) (ho3.asunder ho4 (Nat.le_refl _)) (ho3.asunder ho5 hb4.size) hl (Nat.le_trans hb3.size (Nat.le_trans hb4.size hb5.size))).mono ?_
  rintro e w6 ⟨rfl, hg6⟩
  exact ⟨rfl, ((hb3.trans (hb4.mono hb3.size)).trans (hb5.mono (Nat.le_trans hb3.size hb4.size))).grown hg6 (Nat.le_trans hb3.size (Nat.le_trans hb4.size hb5.size)) (fun k hk => (ho3.lt k hk).1)⟩

set_option maxRecDepth 100000 in
set_option maxHeartbeats 2000000 in
theorem numPuts_walk (ui : Int) (v : Int) (s : Value) (l : List Nat) (w : World) (hu : (Lit.int .u64 ui).wf = true) (hv : (Lit.int .i64 v).wf = true) (hs : RB w w.heap.size s l) (hl : l.length ≤ 140737488351232) :
    Calls Try.prog 3 #[.int .u64 ui, .int .i64 v, s] w fun e w' => e = .returned (.bool true) ∧ Below w.heap.size w w' := by
  obtain ⟨hv1, hv2⟩ := wf64 hv
  obtain ⟨hu1, hu2⟩ := wfu64 hu
  obtain ⟨u, rfl⟩ : ∃ u : Nat, ui = (u : Int) := ⟨ui.toNat, by omega⟩
  have HPU : Hid ((putL u).length ≤ 10) := putL_ten u (by omega)
  have HPV : Hid ((putL (foldN v)).length ≤ 10) := putL_ten _ (foldN_lt v hv1 hv2)
  have HPL : Hid ((putL l.length).length ≤ 10) := putL_ten _ (by omega)
  have HU2 : Hid (u ≤ 18446744073709551615) := by show _ ≤ _; omega
  have HV1 : Hid (-9223372036854775808 ≤ v ∧ v ≤ 9223372036854775807) := ⟨hv1, hv2⟩
  have HFV : Hid (foldN v ≤ 18446744073709551615) := by have := foldN_lt v hv1 hv2; show _ ≤ _; omega
  clear hu hv hv1 hv2 hu1 hu2
  have HS := Lib.hid hs
  obtain ⟨A, c, rfl, ha1, ha2, ha3, _⟩ := hs.open_
  clear hs
  go_enter Try.func3, Try.ntmps3
  go_wp2_with fail
  refine (alive1 w).mono ?_
  rintro e w1 ⟨rfl, hb1⟩
  have HS1 := Lib.hid (RBn' HS.out hb1)
  have HB1 := Lib.hid hb1
  clear hb1
  go_wp2_with fail
  refine (wide_any _ l w1 HS1.out (by omega)).mono ?_
  rintro e w2 ⟨vw, rfl, ho2, hb2⟩
  obtain ⟨g, cw, rfl, hg1, hg2, hg3, hg4, _, _⟩ := ho2.form (by simp [marks])
  have hwl : (l ++ marks).length = l.length + 64 := by simp [marks]
  rw [hwl] at ho2 hg3 ⊢
  have HO2 := Lib.hid ho2
  have HB2 : Hid (Below w.heap.size w w2) := HB1.out.trans (hb2.mono HB1.out.size)
  have HS2 := Lib.hid (RBn' HS1.out hb2)
  have HP2 : Hid (RB w2 w2.heap.size (.slice (some ⟨g, 0, none⟩) l.length cw) l) := (ho2.rb (Nat.le_refl _)).begin_
  clear ho2 hb2 hwl HS1 HB1 hg1 hg2 HS
  go_wp2_with fail
  have hi1 : (0 : Int) ≤ (l.length : Int) := by omega
  have hi2 : (l.length : Int) ≤ (cw : Int) := by omega
  have hi3 : l.length ≤ cw := by omega
  have tok1 : True := trivial
  go_region_held3 (fun _ => True) (exact trivial)
    (first
      | (go_at_call 15; have _t := tok1; refine (putText_any _ l _ (by exact HP2.out) (by omega)).mono ?_; rintro e w3 ⟨v3, rfl, ho3, hb3⟩; have HO3 := Lib.hid ho3; have HB3 := Lib.hid (below_undrew' hb3); clear tok1 _t ho3 hb3)
      | (go_at_call 15; refine (putText_any _ l _ (RBn' HP2.out HB3.out) (by omega)).mono ?_; rintro e w4 ⟨v4, rfl, ho4, hb4⟩; have HO4 := Lib.hid ho4; have HB4 := Lib.hid hb4; clear ho4 hb4)
      | (go_at_call 16; refine (rputText_any _ l _ (RBn' (RBn' HS2.out HB3.out) HB4.out) (by omega)).mono ?_; rintro e w5 ⟨v5, rfl, ho5, hb5⟩; have HO5 := Lib.hid ho5; have HB5 := Lib.hid hb5; clear ho5 hb5)
      | (go_at_call 14; refine (apart3 _ _ _ _ w2 _ _ _ HO3.out HB3.out HO4.out HB4.out HO5.out HB5.out (by have := HPL.out; rw [List.length_append]; omega)).mono ?_; rintro e w6 ⟨rfl, hb6⟩; have HB6 := Lib.hid hb6; clear hb6)
      | (go_at_call 17; refine (intact_yes _ _ l _ _ ((HO2.out.below HB6.out).rb (Nat.le_refl _)) (RBn' HS2.out HB6.out)).mono ?_; rintro e w7 ⟨rfl, n7, rfl⟩; have HB7 := Lib.hid (below_drewN' HB6.out n7)))
  have HW7 : Hid (Below w.heap.size w (w6.drewN n7)) := HB2.out.trans (HB7.out.mono HB2.out.size)
  clear HB7 HB6 HO3 HO4 HO5 HB3 HB4 HB5 HO2 HS2 HP2 HB2
  generalize w6.drewN n7 = W7 at HW7 ⊢
  go_wp2_with fail
  refine (put_any u W7 HPU).mono ?_
  rintro e x1 ⟨a1, rfl, oa1, ba1⟩
  have OA1 := Lib.hid oa1
  have BA1 := Lib.hid ba1
  clear oa1 ba1
  go_wp2_with fail
  refine (put_any u x1 HPU).mono ?_
  rintro e x2 ⟨a2, rfl, oa2, ba2⟩
  have OA2 := Lib.hid oa2
  have BA2 := Lib.hid ba2
  clear oa2 ba2
  go_wp2_with fail
  refine (rput_any u x2 HU2.out HPU).mono ?_
  rintro e x3 ⟨a3, rfl, oa3, ba3⟩
  have OA3 := Lib.hid oa3
  have BA3 := Lib.hid ba3
  clear oa3 ba3
  go_wp2_with fail
  refine (apart3 _ _ _ _ W7 _ _ _ OA1.out BA1.out OA2.out BA2.out OA3.out BA3.out (by have := HPU.out; omega)).mono ?_
  rintro e x4 ⟨rfl, bb4⟩
  have HX4 : Hid (Below w.heap.size w x4) := HW7.out.trans (bb4.mono HW7.out.size)
  clear bb4 OA1 BA1 OA2 BA2 OA3 BA3 HW7
  go_wp2_with fail
  refine (puts_any v x4 HV1.out.1 HV1.out.2 HPV).mono ?_
  rintro e y1 ⟨a1, rfl, oa1, ba1⟩
  have OA1 := Lib.hid oa1
  have BA1 := Lib.hid ba1
  clear oa1 ba1
  go_wp2_with fail
  refine (puts_any v y1 HV1.out.1 HV1.out.2 HPV).mono ?_
  rintro e y2 ⟨a2, rfl, oa2, ba2⟩
  have OA2 := Lib.hid oa2
  have BA2 := Lib.hid ba2
  clear oa2 ba2
  go_wp2_with fail
  refine (fold_any v y2 HV1.out.1 HV1.out.2).mono ?_
  rintro e y3 ⟨rfl, rfl⟩
  go_wp2_with fail
  refine (rput_any (foldN v) y2 HFV.out HPV).mono ?_
  rintro e y3 ⟨a3, rfl, oa3, ba3⟩
  have OA3 := Lib.hid oa3
  have BA3 := Lib.hid ba3
  clear oa3 ba3
  go_wp2_with fail
  refine (apart3 _ _ _ _ x4 _ _ _ OA1.out BA1.out OA2.out BA2.out OA3.out BA3.out (by have := HPV.out; omega)).mono ?_
  rintro e y4 ⟨rfl, bb4⟩
  go_wp2
  go_ret
  exact ⟨rfl, HX4.out.trans (bb4.mono HX4.out.size)⟩
end Go.Proofs.Ytaboknjokdgjeaa
