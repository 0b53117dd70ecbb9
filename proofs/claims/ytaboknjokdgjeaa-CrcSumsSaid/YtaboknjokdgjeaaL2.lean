/-
  The walk of skeinlaw02.CrcSums.
-/
import Derived.Test.YtaboknjokdgjeaaL1
namespace Go.Proofs.Ytaboknjokdgjeaa
open Go.RowKit
set_option linter.unusedVariables false

/-- A piece of a row of the call's own. -/
theorem OB.cut {w : World} {B g n cap : Nat} {l r : List Nat} (h : OB w B (.slice (some ⟨g, 0, none⟩) n cap) (l ++ r)) (k c' : Nat) (hk : k ≤ l.length) (hc : l.length - k ≤ c') (hc' : c' ≤ 9223372036854775807) :
    RB w w.heap.size (.slice (some ⟨g, k, none⟩) (l.length - k) c') (l.drop k) := by
  have h0 := (h.rb (Nat.le_refl _)).pre
  obtain ⟨h1, h2, A, c, hv, h3, h4, h5⟩ := h0
  injection hv with e1 e2 e3
  subst e1
  refine ⟨fun x hx => h1 x (List.mem_of_mem_drop hx), by rw [List.length_drop]; omega, some ⟨g, k, none⟩, c', by rw [List.length_drop], by rw [List.length_drop]; exact hc, hc', ?_⟩
  rcases h5 with h5 | ⟨b, off, hb0, hb, hcell⟩
  · left; rw [h5]; simp
  · injection hb0 with hb0
    injection hb0 with e4 e5
    subst e4
    subst e5
    refine .inr ⟨_, _, rfl, hb, fun j x hj => ?_⟩
    rw [List.getElem?_drop] at hj
    have := hcell (k + j) x hj
    simpa using this

theorem RP.three {W : World} {u u' u'' : Value} {t t' t'' : List Nat} {g B : Nat} (hg : g = W.heap.size) (hu : RB W B u t) (hu' : RB W B u' t') (hu'' : RB W B u'' t'') (hB : B ≤ W.heap.size) : RP (W.alloc (.cells #[u, u', u''] 23)) B g 0 [t, t', t''] := by
  intro i hi
  subst hg
  match i, hi with
  | 0, _ => exact ⟨u, by simp, hu.alloc hB _⟩
  | 1, _ => exact ⟨u', by simp, hu'.alloc hB _⟩
  | 2, _ => exact ⟨u'', by simp, hu''.alloc hB _⟩
theorem RB.nil (w : World) (B : Nat) : RB w B (.slice none 0 0) [] := ⟨by simp, by simp, none, 0, rfl, by simp, by simp, .inl rfl⟩

set_option maxHeartbeats 1000000 in
theorem crcSums_mid (v : Value) (l : List Nat) (k : Nat) (w : World) (hv : RB w w.heap.size v l) (hl : l.length ≤ 140737488351232) (hk : k ≤ l.length) :
    Calls Try.prog 8 #[v, .int .i64 (k : Int)] w fun e w' => e = .returned (.bool true) ∧ Below w.heap.size w w' := by
  have HV := Lib.hid hv
  obtain ⟨A, c, rfl, ha1, ha2, ha3, _⟩ := hv.open_
  clear hv
  go_enter Try.func8, Try.ntmps8
  go_wp2_with fail
  refine (alive2 w).mono ?_
  rintro e w1 ⟨rfl, hb1⟩
  have HV1 := Lib.hid (RBn HV.out hb1)
  have HB1 := Lib.hid hb1
  clear hb1
  go_wp2_with fail
  refine (wide_any _ l w1 HV1.out (by omega)).mono ?_
  rintro e w2 ⟨vw, rfl, ho2, hb2⟩
  obtain ⟨g, cw, rfl, hg1, hg2, hg3, hg4, _, _⟩ := ho2.form (by simp [marks])
  have hwl : (l ++ marks).length = l.length + 64 := by simp [marks]
  rw [hwl] at ho2 hg3 ⊢
  have HO2 := Lib.hid ho2
  have HB2 : Hid (Below w.heap.size w w2) := HB1.out.trans (hb2.mono HB1.out.size)
  have HV2 := Lib.hid (RBn HV1.out hb2)
  have HP2 : Hid (RB w2 w2.heap.size (.slice (some ⟨g, 0, none⟩) l.length cw) l) := (ho2.rb (Nat.le_refl _)).pre
  have HK2 : Hid (RB w2 w2.heap.size (.slice (some ⟨g, 0, none⟩) k cw) (l.take k)) := by
    have e : l.take k ++ (l.drop k ++ marks) = l ++ marks := by rw [← List.append_assoc, List.take_append_drop]
    have h := ho2.rb (Nat.le_refl _)
    rw [← e] at h
    have := h.pre
    rwa [List.length_take, Nat.min_eq_left hk] at this
  have HD2 : Hid (RB w2 w2.heap.size (.slice (some ⟨g, k, none⟩) (l.length - k) (cw - k)) (l.drop k)) := ho2.cut k _ hk (by omega) (by omega)
  have HW2 := Lib.hid (ho2.rb (B' := w2.heap.size) (Nat.le_refl _))
  have hz := HB2.out.size
  clear ho2 hb2 hwl HV1 HB1 hg1 hg2 HV
  go_wp2_with fail
  refine (sum2_any _ l w2 w2.heap.size HV2.out).mono ?_
  rintro e w3 ⟨rfl, rfl⟩
  go_wp2_with fail
  have hi1 : (0 : Int) ≤ (l.length : Int) := by omega
  have hi2 : (l.length : Int) ≤ (cw : Int) := by omega
  have hi3 : l.length ≤ cw := by omega
  have hi4 : (k : Int) ≤ (l.length : Int) := by omega
  have hi5 : (0 : Int) ≤ (k : Int) := by omega
  have hi6 : (k : Int) ≤ (cw : Int) := by omega
  have hi7 : ¬ cw = k := by omega
  have e1 : [l].flatten = l := by simp
  have e2 : [l.take k, [], l.drop k].flatten = l := by simp
  have E1 := Lib.hid e1
  have E2 := Lib.hid e2
  clear e1 e2
  generalize hs : crcSum l = s
  have HS := Lib.hid hs
  clear hs
  have tok1 : True := trivial
  go_region_held3 (fun _ => True) (exact trivial)
    (first
      | (go_at_call 38; have _t := tok1; refine (crcSum_any w2.heap.size 0 1 w2.heap.size [l] _ (by exact RP.one (w := w2) rfl (Below.refl _ _) HP2.out (Nat.le_refl _)) (by simp)).mono ?_; rw [E1.out, HS.out]; rintro e w4 ⟨rfl, rfl⟩; clear tok1 _t)
      | (go_at_call 38; refine (crcSum_any (w2.heap.size + 1) 0 3 w2.heap.size [l.take k, [], l.drop k] _ (by exact RP.three (by simp) (HK2.out.alloc (Nat.le_refl _) _) (RB.nil _ _) (HD2.out.alloc (Nat.le_refl _) _) (by simp)) (by simp)).mono ?_; rw [E2.out, HS.out]; rintro e w4 ⟨rfl, rfl⟩)
      | (go_at_call 17; refine (intact_yes _ _ l _ w2.heap.size (HW2.out.below (by go_grown)) (HV2.out.below (by go_grown))).mono ?_; rintro e w5 ⟨rfl, n, rfl⟩))
  go_wp2
  go_ret
  refine ⟨rfl, HB2.out.trans (below_drewN ?_ _)⟩
  go_grown

set_option maxHeartbeats 1000000 in
theorem crcSums_neg (v : Value) (l : List Nat) (cut : Int) (w : World) (hv : RB w w.heap.size v l) (hl : l.length ≤ 140737488351232) (hc : cut < 0) :
    Calls Try.prog 8 #[v, .int .i64 cut] w fun e w' => e = .returned (.bool true) ∧ Below w.heap.size w w' := by
  have HV := Lib.hid hv
  obtain ⟨A, c, rfl, ha1, ha2, ha3, _⟩ := hv.open_
  clear hv
  go_enter Try.func8, Try.ntmps8
  go_wp2_with fail
  refine (alive2 w).mono ?_
  rintro e w1 ⟨rfl, hb1⟩
  have HV1 := Lib.hid (RBn HV.out hb1)
  have HB1 := Lib.hid hb1
  clear hb1
  go_wp2_with fail
  refine (wide_any _ l w1 HV1.out (by omega)).mono ?_
  rintro e w2 ⟨vw, rfl, ho2, hb2⟩
  obtain ⟨g, cw, rfl, hg1, hg2, hg3, hg4, _, _⟩ := ho2.form (by simp [marks])
  have hwl : (l ++ marks).length = l.length + 64 := by simp [marks]
  rw [hwl] at ho2 hg3 ⊢
  have HO2 := Lib.hid ho2
  have HB2 : Hid (Below w.heap.size w w2) := HB1.out.trans (hb2.mono HB1.out.size)
  have HV2 := Lib.hid (RBn HV1.out hb2)
  have HP2 : Hid (RB w2 w2.heap.size (.slice (some ⟨g, 0, none⟩) l.length cw) l) := (ho2.rb (Nat.le_refl _)).pre
  have HK2 := HP2
  have HD2 : Hid (RB w2 w2.heap.size (.slice (some ⟨g, l.length, none⟩) 0 (cw - l.length)) []) := by
    have := ho2.cut l.length (cw - l.length) (Nat.le_refl _) (by omega) (by omega)
    rwa [Nat.sub_self, List.drop_length] at this
  have HW2 := Lib.hid (ho2.rb (B' := w2.heap.size) (Nat.le_refl _))
  have hz := HB2.out.size
  clear ho2 hb2 hwl HV1 HB1 hg1 hg2 HV
  go_wp2_with fail
  refine (sum2_any _ l w2 w2.heap.size HV2.out).mono ?_
  rintro e w3 ⟨rfl, rfl⟩
  go_wp2_with fail
  have hi1 : (0 : Int) ≤ (l.length : Int) := by omega
  have hi2 : (l.length : Int) ≤ (cw : Int) := by omega
  have hi3 : l.length ≤ cw := by omega
  have hi7 : ¬ cw = l.length := by omega
  have e1 : [l].flatten = l := by simp
  have e2 : [l, [], []].flatten = l := by simp
  have E1 := Lib.hid e1
  have E2 := Lib.hid e2
  clear e1 e2
  generalize hs : crcSum l = s
  have HS := Lib.hid hs
  clear hs
  have tok1 : True := trivial
  go_region_held3 (fun _ => True) (exact trivial)
    (first
      | (go_at_call 38; have _t := tok1; refine (crcSum_any w2.heap.size 0 1 w2.heap.size [l] _ (by exact RP.one (w := w2) rfl (Below.refl _ _) HP2.out (Nat.le_refl _)) (by simp)).mono ?_; rw [E1.out, HS.out]; rintro e w4 ⟨rfl, rfl⟩; clear tok1 _t)
      | (go_at_call 38; refine (crcSum_any (w2.heap.size + 1) 0 3 w2.heap.size [l, [], []] _ (by exact RP.three (by simp) (HK2.out.alloc (Nat.le_refl _) _) (RB.nil _ _) (HD2.out.alloc (Nat.le_refl _) _) (by simp)) (by simp)).mono ?_; rw [E2.out, HS.out]; rintro e w4 ⟨rfl, rfl⟩)
      | (go_at_call 17; refine (intact_yes _ _ l _ w2.heap.size (HW2.out.below (by go_grown)) (HV2.out.below (by go_grown))).mono ?_; rintro e w5 ⟨rfl, n, rfl⟩))
  go_wp2
  go_ret
  refine ⟨rfl, HB2.out.trans (below_drewN ?_ _)⟩
  go_grown

set_option maxHeartbeats 1000000 in
theorem crcSums_over (v : Value) (l : List Nat) (cut : Int) (w : World) (hv : RB w w.heap.size v l) (hl : l.length ≤ 140737488351232) (hc0 : 0 ≤ cut) (hc : (l.length : Int) < cut) :
    Calls Try.prog 8 #[v, .int .i64 cut] w fun e w' => e = .returned (.bool true) ∧ Below w.heap.size w w' := by
  have HV := Lib.hid hv
  obtain ⟨A, c, rfl, ha1, ha2, ha3, _⟩ := hv.open_
  clear hv
  go_enter Try.func8, Try.ntmps8
  go_wp2_with fail
  refine (alive2 w).mono ?_
  rintro e w1 ⟨rfl, hb1⟩
  have HV1 := Lib.hid (RBn HV.out hb1)
  have HB1 := Lib.hid hb1
  clear hb1
  go_wp2_with fail
  refine (wide_any _ l w1 HV1.out (by omega)).mono ?_
  rintro e w2 ⟨vw, rfl, ho2, hb2⟩
  obtain ⟨g, cw, rfl, hg1, hg2, hg3, hg4, _, _⟩ := ho2.form (by simp [marks])
  have hwl : (l ++ marks).length = l.length + 64 := by simp [marks]
  rw [hwl] at ho2 hg3 ⊢
  have HO2 := Lib.hid ho2
  have HB2 : Hid (Below w.heap.size w w2) := HB1.out.trans (hb2.mono HB1.out.size)
  have HV2 := Lib.hid (RBn HV1.out hb2)
  have HP2 : Hid (RB w2 w2.heap.size (.slice (some ⟨g, 0, none⟩) l.length cw) l) := (ho2.rb (Nat.le_refl _)).pre
  have HK2 := HP2
  have HD2 : Hid (RB w2 w2.heap.size (.slice (some ⟨g, l.length, none⟩) 0 (cw - l.length)) []) := by
    have := ho2.cut l.length (cw - l.length) (Nat.le_refl _) (by omega) (by omega)
    rwa [Nat.sub_self, List.drop_length] at this
  have HW2 := Lib.hid (ho2.rb (B' := w2.heap.size) (Nat.le_refl _))
  have hz := HB2.out.size
  clear ho2 hb2 hwl HV1 HB1 hg1 hg2 HV
  go_wp2_with fail
  refine (sum2_any _ l w2 w2.heap.size HV2.out).mono ?_
  rintro e w3 ⟨rfl, rfl⟩
  go_wp2_with fail
  have hi1 : (0 : Int) ≤ (l.length : Int) := by omega
  have hi2 : (l.length : Int) ≤ (cw : Int) := by omega
  have hi3 : l.length ≤ cw := by omega
  have hi7 : ¬ cw = l.length := by omega
  have e1 : [l].flatten = l := by simp
  have e2 : [l, [], []].flatten = l := by simp
  have E1 := Lib.hid e1
  have E2 := Lib.hid e2
  clear e1 e2
  generalize hs : crcSum l = s
  have HS := Lib.hid hs
  clear hs
  have tok1 : True := trivial
  go_region_held3 (fun _ => True) (exact trivial)
    (first
      | (go_at_call 38; have _t := tok1; refine (crcSum_any w2.heap.size 0 1 w2.heap.size [l] _ (by exact RP.one (w := w2) rfl (Below.refl _ _) HP2.out (Nat.le_refl _)) (by simp)).mono ?_; rw [E1.out, HS.out]; rintro e w4 ⟨rfl, rfl⟩; clear tok1 _t)
      | (go_at_call 38; refine (crcSum_any (w2.heap.size + 1) 0 3 w2.heap.size [l, [], []] _ (by exact RP.three (by simp) (HK2.out.alloc (Nat.le_refl _) _) (RB.nil _ _) (HD2.out.alloc (Nat.le_refl _) _) (by simp)) (by simp)).mono ?_; rw [E2.out, HS.out]; rintro e w4 ⟨rfl, rfl⟩)
      | (go_at_call 17; refine (intact_yes _ _ l _ w2.heap.size (HW2.out.below (by go_grown)) (HV2.out.below (by go_grown))).mono ?_; rintro e w5 ⟨rfl, n, rfl⟩))
  go_wp2
  go_ret
  refine ⟨rfl, HB2.out.trans (below_drewN ?_ _)⟩
  go_grown

theorem crcSums_walk (v : Value) (l : List Nat) (cut : Int) (w : World) (hv : RB w w.heap.size v l) (hl : l.length ≤ 140737488351232) (hcut : (Lit.int .i64 cut).wf = true) :
    Calls Try.prog 8 #[v, .int .i64 cut] w fun e w' => e = .returned (.bool true) ∧ Below w.heap.size w w' := by
  by_cases h1 : cut < 0
  · exact crcSums_neg v l cut w hv hl h1
  · by_cases h2 : (l.length : Int) < cut
    · exact crcSums_over v l cut w hv hl (by omega) h2
    · obtain ⟨k, rfl⟩ : ∃ k : Nat, cut = (k : Int) := ⟨cut.toNat, by omega⟩
      exact crcSums_mid v l k w hv hl (by omega)
end Go.Proofs.Ytaboknjokdgjeaa
