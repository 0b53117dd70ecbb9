/-
  The walk of skeinlaw02.CrcSeals.
-/
import Derived.Test.YtaboknjokdgjeaaR1
import Derived.Test.YtaboknjokdgjeaaC4
namespace Go.Proofs.Ytaboknjokdgjeaa
open Go.RowKit
set_option linter.unusedVariables false

/-- A slice's beginning. -/
theorem RB.pre {w : World} {B : Nat} {A : Option Addr} {n c : Nat} {l r : List Nat} (h : RB w B (.slice A n c) (l ++ r)) : RB w B (.slice A l.length c) l := by
  obtain ⟨h1, h2, A', c', hv, h3, h4, h5⟩ := h
  injection hv with e1 e2 e3
  subst e1
  subst e3
  rw [List.length_append] at h2 h3
  refine ⟨fun x hx => h1 x (by simp [hx]), by omega, A, c, rfl, by omega, h4, ?_⟩
  rcases h5 with h5 | ⟨b, off, rfl, hb, hc⟩
  · exact .inl (List.append_eq_nil_iff.1 h5).1
  · refine .inr ⟨b, off, rfl, hb, fun j x hj => hc j x ?_⟩
    have hjl := (List.getElem?_eq_some_iff.1 hj).1
    rw [List.getElem?_append_left hjl]
    exact hj

/-- Two rows that were made one behind the other lie apart. -/
theorem OB.apart {w1 w2 : World} {B1 B2 : Nat} {u v : Value} {l l' : List Nat} (hu : OB w1 B1 u l) (hv : OB w2 B2 v l') (hB : w1.heap.size ≤ B2) : v.ownBlock = none ∨ v.ownBlock ≠ u.ownBlock := by
  cases hvb : v.ownBlock with
  | none => exact .inl rfl
  | some b =>
    right
    intro h
    have h1 := (hv.lt b hvb).1
    have h2 := (hu.lt b h.symm).2
    omega

theorem RBn {W w' : World} {u : Value} {l : List Nat} (h : RB W W.heap.size u l) (hb : Below W.heap.size W w') : RB w' w'.heap.size u l := (h.below hb).more hb.size

theorem below_undrew {B : Nat} {w w' : World} (h : Below B w.drew w') : Below B w w' := ⟨h.os, h.tape, h.output, h.size, h.block⟩

theorem sealLen (l : List Nat) : (sumBytes (crcSum l) ++ l).length = l.length + 4 := by simp [sumBytes]

theorem open_any (v : Value) (l : List Nat) (w : World) (hv : RB w w.heap.size v l) :
    Calls Try.prog 41 #[v] w fun e w' => ∃ v', e = .returned (.tuple #[v', .bool (openOk l)]) ∧ OB w' w.heap.size v' (openL l) ∧ Below w.heap.size w w' := by
  by_cases h4 : 4 ≤ l.length
  · exact open_long v l w hv h4
  · have hok : openOk l = false := by unfold openOk; exact decide_eq_false (fun h => h4 h.1)
    rw [openL_eq, hok]
    exact (open_short v l w hv (by omega)).mono fun e w' ⟨he, hw⟩ => ⟨.slice none 0 0, he, OB.nil _ _, hw ▸ Below.refl _ _⟩

theorem openL_le (l : List Nat) : (openL l).length ≤ l.length := by
  rw [openL_eq]
  split
  · rw [List.length_drop]; omega
  · simp

set_option maxHeartbeats 2000000 in
theorem crcSeals_walk (v : Value) (l : List Nat) (w : World) (hv : RB w w.heap.size v l) (hl : l.length ≤ 140737488351232) :
    Calls Try.prog 9 #[v] w fun e w' => e = .returned (.bool true) ∧ Below w.heap.size w w' := by
  have HV := Lib.hid hv
  obtain ⟨A, c, rfl, ha1, ha2, ha3, _⟩ := hv.open_
  clear hv
  go_enter Try.func9, Try.ntmps9
  go_wp2_with fail
  refine (alive2 w).mono ?_
  rintro e w1 ⟨rfl, hb1⟩
  have HV1 := Lib.hid (RBn HV.out hb1)
  have HB1 := Lib.hid hb1
  clear hb1
  go_wp2_with fail
  refine (wide_any _ l w1 HV1.out (by omega)).mono ?_
  rintro e w2 ⟨vw, rfl, ho2, hb2⟩
  obtain ⟨g, cw, rfl, hg1, hg2, hg3, hg4, _, _⟩ := ho2.form (by simp [marks])
  have hwl : (l ++ marks).length = l.length + 64 := by simp [marks]
  rw [hwl] at ho2 hg3 ⊢
  have HO2 := Lib.hid ho2
  have HB2 : Hid (Below w.heap.size w w2) := HB1.out.trans (hb2.mono HB1.out.size)
  have HV2 := Lib.hid (RBn HV1.out hb2)
  have HP2 : Hid (RB w2 w2.heap.size (.slice (some ⟨g, 0, none⟩) l.length cw) l) := (ho2.rb (Nat.le_refl _)).pre
  have HG2 : Hid (g < w2.heap.size) := hg2
  clear ho2 hb2 hwl HV1 HB1 hg1 hg2 HV
  go_wp2_with fail
  have hi1 : (0 : Int) ≤ (l.length : Int) := by omega
  have hi2 : (l.length : Int) ≤ (cw : Int) := by omega
  have hi3 : l.length ≤ cw := by omega
  have tok1 : True := trivial
  go_region_held3 (fun _ => True) (exact trivial)
    (first
      | (go_at_call 39; have _t := tok1; refine (seal_any _ l _ (by exact HP2.out) (by omega)).mono ?_; rintro e w3 ⟨v3, rfl, ho3, hb3⟩; have HO3 := Lib.hid ho3; have HB3 := Lib.hid (below_undrew hb3); clear tok1 _t ho3 hb3)
      | (go_at_call 39; refine (seal_any _ l _ (RBn HP2.out HB3.out) (by omega)).mono ?_; rintro e w4 ⟨v4, rfl, ho4, hb4⟩; have HO4 := Lib.hid ho4; have HB4 := Lib.hid hb4; clear ho4 hb4)
      | (go_at_call 40; refine (seal2_any _ l _ (RBn (RBn HV2.out HB3.out) HB4.out) (by omega)).mono ?_; rintro e w5 ⟨v5, rfl, ho5, hb5⟩; have HO5 := Lib.hid ho5; have HB5 := Lib.hid hb5; clear ho5 hb5)
      | (go_at_call 14; refine (apart_yes _ _ _ _ _ w2.heap.size ((HO3.out.below HB4.out).below HB5.out) ((HO4.out.base HB3.out.size).below HB5.out) (HO5.out.base (Nat.le_trans HB3.out.size HB4.out.size)) (HO3.out.apart HO4.out (Nat.le_refl _)) (HO3.out.apart HO5.out HB4.out.size) (by rw [sealLen]; omega) (Nat.le_trans HB3.out.size (Nat.le_trans HB4.out.size HB5.out.size))).mono ?_; rintro e w6 ⟨rfl, hg6⟩; have HG6 := Lib.hid hg6; clear hg6))
  have HB5 : Hid (Below w2.heap.size w2 w5) := (HB3.out.trans (HB4.out.mono HB3.out.size)).trans (HB5.out.mono (Nat.le_trans HB3.out.size HB4.out.size))
  have HB6 : Hid (Below w2.heap.size w2 w6) := HB5.out.grown HG6.out HB5.out.size (fun k hk => (HO3.out.lt k hk).1)
  have HV6 := Lib.hid (RBn HV2.out HB6.out)
  have HP6 := Lib.hid (RBn HP2.out HB6.out)
  have HW6 : Hid (OB w6 w1.heap.size _ (l ++ marks)) := HO2.out.below HB6.out
  have HV60 := HV6
  have HB := Lib.hid (HB2.out.trans (HB6.out.mono HB2.out.size))
  clear HB5 HB6 HG6 HO3 HO4 HO5 HB3 HB4 HV2 HP2 HO2 HB2
  go_wp2_with fail
  refine (open_any _ l w6 HP6.out).mono ?_
  rintro e w7 ⟨x7, rfl, ho7, hb7⟩
  have HO7 := Lib.hid ho7
  have HB7 := Lib.hid hb7
  have HV7 := Lib.hid (RBn HV6.out hb7)
  have HP7 := Lib.hid (RBn HP6.out hb7)
  have HBB7 := Lib.hid (HB.out.trans (hb7.mono HB.out.size))
  clear ho7 hb7 HV6 HP6
  go_wp2_with fail
  refine (open_any _ l w7 HP7.out).mono ?_
  rintro e w8 ⟨x8, rfl, ho8, hb8⟩
  have HO8 := Lib.hid ho8
  have HB8 := Lib.hid hb8
  have HV8 := Lib.hid (RBn HV7.out hb8)
  have HBB8 := Lib.hid (HBB7.out.trans (hb8.mono HBB7.out.size))
  clear ho8 hb8 HV7 HP7
  go_wp2_with fail
  refine (open2_any _ l w8 HV8.out (by omega)).mono ?_
  rintro e w9 ⟨x9, rfl, ho9, hb9⟩
  have HO9 := Lib.hid ho9
  have HB9 := Lib.hid hb9
  have HV9 := Lib.hid (RBn HV8.out hb9)
  have HBB9 := Lib.hid (HBB8.out.trans (hb9.mono HBB8.out.size))
  clear ho9 hb9 HV8
  have hle := openL_le l
  generalize openOk l = ok
  go_wp2_with fail
  refine (apart_yes _ _ _ _ _ w6.heap.size ((HO7.out.below HB8.out).below HB9.out) ((HO8.out.base HB7.out.size).below HB9.out) (HO9.out.base (Nat.le_trans HB7.out.size HB8.out.size)) (HO7.out.apart HO8.out (Nat.le_refl _)) (HO7.out.apart HO9.out HB8.out.size) (by omega) (Nat.le_trans HB7.out.size (Nat.le_trans HB8.out.size HB9.out.size))).mono ?_
  rintro e w10 ⟨rfl, hg10⟩
  have hb10 : Below w6.heap.size w6 w10 := ((HB7.out.trans (HB8.out.mono HB7.out.size)).trans (HB9.out.mono (Nat.le_trans HB7.out.size HB8.out.size))).grown hg10 (Nat.le_trans HB7.out.size (Nat.le_trans HB8.out.size HB9.out.size)) (fun k hk => (HO7.out.lt k hk).1)
  have HW10 : Hid (OB w10 w1.heap.size _ (l ++ marks)) := HW6.out.below hb10
  have HV10 : Hid (RB w10 w10.heap.size (.slice A l.length c) l) := RBn HV60.out hb10
  have HB10 : Hid (Below w.heap.size w w10) := HB.out.trans (hb10.mono HB.out.size)
  clear hg10 hb10
  go_wp2_with fail
  refine (intact_yes _ _ l w10 w10.heap.size (HW10.out.rb (Nat.le_refl _)) HV10.out).mono ?_
  rintro e w11 ⟨rfl, n, rfl⟩
  go_wp2
  go_ret
  exact ⟨rfl, below_drewN HB10.out n⟩
end Go.Proofs.Ytaboknjokdgjeaa
