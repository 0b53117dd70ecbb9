/-
  The walk of skeinlaw01.NumGets.
-/
import Derived.Test.YtaboknjokdgjeaaL3
namespace Go.Proofs.Ytaboknjokdgjeaa
open Go.RowKit
set_option linter.unusedVariables false

theorem textA_err (l : List Nat) (at_ most : Int) (ru rn re : Nat) (hr : getA l at_ = (ru, rn, re)) (h0 : re ≠ 0) : textA l at_ most = ([], 0, re) := by
  unfold textA
  rw [hr]
  simp [h0]

theorem getText_any (v : Value) (l : List Nat) (at_ most : Int) (w : World) (hv : RB w w.heap.size v l) (hm1 : -9223372036854775808 ≤ most) (hm2 : most ≤ 9223372036854775807) (tl : List Nat) (tn te : Nat) (ht : textA l at_ most = (tl, tn, te)) :
    Calls Try.prog 24 #[v, .int .i64 at_, .int .i64 most] w fun e w' => ∃ v', e = .returned (.tuple #[v', .int .i64 (tn : Int), .int .i64 (te : Int)]) ∧ OB w' w.heap.size v' tl ∧ Below w.heap.size w w' := by
  obtain ⟨⟨ru, rn, re⟩, h⟩ : ∃ r, getA l at_ = r := ⟨_, rfl⟩
  by_cases h0 : re = 0
  · subst h0
    have := getText_ok v l at_ most w hv ru rn h hm1 hm2
    rw [ht] at this
    exact this
  · have h1 := textA_err l at_ most ru rn re h h0
    rw [h1] at ht
    obtain ⟨rfl, rfl, rfl⟩ : [] = tl ∧ 0 = tn ∧ re = te := by simpa using ht
    exact (getText_err v l at_ most w _ hv ru rn re h h0).mono fun e w' ⟨he, hw⟩ => ⟨_, he, OB.nil _ _, hw ▸ Below.refl _ _⟩
theorem rgetText_any (v : Value) (l : List Nat) (at_ most : Int) (w : World) (hv : RB w w.heap.size v l) (hm1 : -9223372036854775808 ≤ most) (hm2 : most ≤ 9223372036854775807) (tl : List Nat) (tn te : Nat) (ht : textA l at_ most = (tl, tn, te)) :
    Calls Try.prog 27 #[v, .int .i64 at_, .int .i64 most] w fun e w' => ∃ v', e = .returned (.tuple #[v', .int .i64 (tn : Int), .int .i64 (te : Int)]) ∧ OB w' w.heap.size v' tl ∧ Below w.heap.size w w' := by
  obtain ⟨⟨ru, rn, re⟩, h⟩ : ∃ r, getA l at_ = r := ⟨_, rfl⟩
  by_cases h0 : re = 0
  · subst h0
    have := rgetText_ok v l at_ most w hv ru rn h hm1 hm2
    rw [ht] at this
    exact this
  · have h1 := textA_err l at_ most ru rn re h h0
    rw [h1] at ht
    obtain ⟨rfl, rfl, rfl⟩ : [] = tl ∧ 0 = tn ∧ re = te := by simpa using ht
    exact (rgetText_err v l at_ most w _ hv ru rn re h h0).mono fun e w' ⟨he, hw⟩ => ⟨_, he, OB.nil _ _, hw ▸ Below.refl _ _⟩
theorem textA_le (l : List Nat) (at_ most : Int) : (textA l at_ most).1.length ≤ l.length := by
  unfold textA piece
  split
  · simp
  · split
    · simp
    · split
      · simp
      · simp only [List.length_drop, List.length_take]; omega

set_option maxRecDepth 100000 in
set_option maxHeartbeats 4000000 in
theorem numGets_walk (s : Value) (l : List Nat) (at_ most : Int) (w : World) (hs : RB w w.heap.size s l) (hl : l.length ≤ 140737488351232) (hat : (Lit.int .i64 at_).wf = true) (hmost : (Lit.int .i64 most).wf = true) :
    Calls Try.prog 4 #[s, .int .i64 at_, .int .i64 most] w fun e w' => e = .returned (.bool true) ∧ Below w.heap.size w w' := by
  have HM : Hid (-9223372036854775808 ≤ most ∧ most ≤ 9223372036854775807) := wf64 hmost
  obtain ⟨⟨ru, rn, re⟩, hg⟩ : ∃ r, getA l at_ = r := ⟨_, rfl⟩
  obtain ⟨⟨sv, sn, se⟩, hgs⟩ : ∃ r, getSA l at_ = r := ⟨_, rfl⟩
  obtain ⟨⟨tl, tn, te⟩, hgt⟩ : ∃ r, textA l at_ most = r := ⟨_, rfl⟩
  have HTL : Hid (tl.length ≤ l.length) := by have := textA_le l at_ most; rw [hgt] at this; exact this
  have HG := Lib.hid hg
  have HGS := Lib.hid hgs
  have HGT := Lib.hid hgt
  have HS := Lib.hid hs
  obtain ⟨A, c, rfl, ha1, ha2, ha3, _⟩ := hs.open_
  clear hs hat hmost hg hgs hgt
  go_enter Try.func4, Try.ntmps4
  go_wp2_with fail
  refine (alive1 w).mono ?_
  rintro e w1 ⟨rfl, hb1⟩
  have HS1 := Lib.hid (RBn' HS.out hb1)
  have HB1 := Lib.hid hb1
  clear hb1
  go_wp2_with fail
  refine (wide_any _ l w1 HS1.out (by omega)).mono ?_
  rintro e w2 ⟨vw, rfl, ho2, hb2⟩
  obtain ⟨g, cw, rfl, hg1, hg2, hg3, hg4, _, _⟩ := ho2.form (by simp [marks])
  have hwl : (l ++ marks).length = l.length + 64 := by simp [marks]
  rw [hwl] at ho2 hg3 ⊢
  have HO2 := Lib.hid ho2
  have HB2 : Hid (Below w.heap.size w w2) := HB1.out.trans (hb2.mono HB1.out.size)
  have HS2 := Lib.hid (RBn' HS1.out hb2)
  have HP2 : Hid (RB w2 w2.heap.size (.slice (some ⟨g, 0, none⟩) l.length cw) l) := (ho2.rb (Nat.le_refl _)).begin_
  clear ho2 hb2 hwl HS1 HB1 hg1 hg2 HS
  have hi2 : (l.length : Int) ≤ (cw : Int) := by omega
  have hi3 : l.length ≤ cw := by omega
  go_wp2_with fail
  refine (get_any _ l at_ w2 _ HP2.out ru rn re HG.out).mono ?_
  rintro e w3 ⟨rfl, rfl⟩
  go_wp2_with fail
  refine (gets_any _ l at_ w2 _ HP2.out sv sn se HGS.out).mono ?_
  rintro e w3 ⟨rfl, rfl⟩
  go_wp2_with fail
  refine (getText_any _ l at_ most w2 HP2.out HM.out.1 HM.out.2 tl tn te HGT.out).mono ?_
  rintro e w3 ⟨v3, rfl, ho3, hb3⟩
  have HO3 := Lib.hid ho3
  have HB3 := Lib.hid hb3
  clear ho3 hb3
  go_wp2_with fail
  refine (getText_any _ l at_ most w3 (RBn' HP2.out HB3.out) HM.out.1 HM.out.2 tl tn te HGT.out).mono ?_
  rintro e w4 ⟨v4, rfl, ho4, hb4⟩
  have HO4 := Lib.hid ho4
  have HB4 := Lib.hid hb4
  clear ho4 hb4
  go_wp2_with fail
  refine (rget_any _ l at_ w4 _ (RBn' (RBn' HS2.out HB3.out) HB4.out) ru rn re HG.out).mono ?_
  rintro e w5 ⟨rfl, rfl⟩
  go_wp2_with fail
  refine (rgets_any _ l at_ w4 _ (RBn' (RBn' HS2.out HB3.out) HB4.out) sv sn se HGS.out).mono ?_
  rintro e w5 ⟨rfl, rfl⟩
  go_wp2_with fail
  refine (rgetText_any _ l at_ most w4 (RBn' (RBn' HS2.out HB3.out) HB4.out) HM.out.1 HM.out.2 tl tn te HGT.out).mono ?_
  rintro e w5 ⟨v5, rfl, ho5, hb5⟩
  have HO5 := Lib.hid ho5
  have HB5 := Lib.hid hb5
  clear ho5 hb5
  go_wp2_with fail
  refine (apart3 _ _ _ _ w2 _ _ _ HO3.out HB3.out HO4.out HB4.out HO5.out HB5.out (by have := HTL.out; omega)).mono ?_
  rintro e w6 ⟨rfl, hb6⟩
  have HB6 := Lib.hid hb6
  clear hb6
  go_wp2_with fail
  refine (intact_yes _ _ l _ _ ((HO2.out.below HB6.out).rb (Nat.le_refl _)) (RBn' HS2.out HB6.out)).mono ?_
  rintro e w7 ⟨rfl, n7, rfl⟩
  go_wp2
  go_ret
  exact ⟨rfl, below_drewN' (HB2.out.trans (HB6.out.mono HB2.out.size)) n7⟩
end Go.Proofs.Ytaboknjokdgjeaa
