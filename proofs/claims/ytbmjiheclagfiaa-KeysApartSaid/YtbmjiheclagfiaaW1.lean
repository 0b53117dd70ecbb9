/-
  The walk of skeinlaw04.KeysVersions.
-/
import Derived.Test.YtbmjiheclagfiaaA3
namespace Go.Proofs.Ytbmjiheclagfiaa
open Go.RowKit
set_option linter.unusedVariables false

/-- Three rows made one behind the other are apart, for Apart. -/
theorem apart3 (v3 v4 v5 : Value) (S : List Nat) (w2 w3 w4 w5 : World) (ho3 : OB w3 w2.heap.size v3 S) (hb3 : Below w2.heap.size w2 w3) (ho4 : OB w4 w3.heap.size v4 S) (hb4 : Below w3.heap.size w3 w4) (ho5 : OB w5 w4.heap.size v5 S) (hb5 : Below w4.heap.size w4 w5) (hl : S.length ≤ 140737488355200) :
    Calls Try.prog 16 #[v3, v4, v5] w5 fun e w' => e = .returned (.bool true) ∧ Below w2.heap.size w2 w' := by
  refine (apart_yes _ _ _ _ _ w2.heap.size ((ho3.below hb4).below hb5) ((ho4.base hb3.size).below hb5) (ho5.base (Nat.le_trans hb3.size hb4.size)) (ho3.apart ho4 (Nat.le_refl _)) (ho3.apart ho5 hb4.size) hl (Nat.le_trans hb3.size (Nat.le_trans hb4.size hb5.size))).mono ?_
  rintro e w6 ⟨rfl, hg6⟩
  exact ⟨rfl, ((hb3.trans (hb4.mono hb3.size)).trans (hb5.mono (Nat.le_trans hb3.size hb4.size))).grown hg6 (Nat.le_trans hb3.size (Nat.le_trans hb4.size hb5.size)) (fun k hk => (ho3.lt k hk).1)⟩

theorem versR_le (l : List Nat) (t : Int) : (versR l t).1.length ≤ 2 * l.length + 10 := by
  unfold versR versL
  split
  · have := esc_le l
    simp [bigL]
    omega
  · simp
theorem unesc_le : ∀ (n : Nat) (l k : List Nat), l.length ≤ n → unesc l = some k → k.length ≤ l.length := by
  intro n
  induction n with
  | zero => intro l k hl h; have : l = [] := List.eq_nil_of_length_eq_zero (by omega); subst this; simp [unesc] at h; subst h; simp
  | succ n ih =>
    intro l k hl h
    match l, hl, h with
    | [], _, h => simp [unesc] at h; subst h; simp
    | [x], _, h =>
      simp [unesc] at h
      obtain ⟨_, rfl⟩ := h
      simp
    | x :: y :: r, hl, h =>
      rw [unesc] at h
      split at h
      · split at h
        · cases hr : unesc r with
          | none => rw [hr] at h; simp at h
          | some k' =>
            rw [hr] at h
            simp at h
            subst h
            have := ih r k' (by simp at hl ⊢; omega) hr
            simp
            omega
        · simp at h
      · cases hr : unesc (y :: r) with
        | none => rw [hr] at h; simp at h
        | some k' =>
          rw [hr] at h
          simp at h
          subst h
          have := ih (y :: r) k' (by simp at hl ⊢; omega) hr
          simp at this ⊢
          omega
theorem splitR_le (l : List Nat) : (splitR l).1.length ≤ l.length := by
  unfold splitR
  split
  · simp [badS]
  · split
    · simp [badS]
    · rename_i key hk
      split
      · have := unesc_le _ _ _ (Nat.le_refl _) hk
        rw [List.length_take] at this
        simp only []
        omega
      · simp [badS]

set_option maxRecDepth 100000 in
set_option maxHeartbeats 4000000 in
theorem keysVersions_walk (v : Value) (l : List Nat) (t : Int) (u : Value) (m : List Nat) (w : World) (hv : RB w w.heap.size v l) (hl : l.length ≤ 1048576) (ht : (Lit.int .i64 t).wf = true) (hu : RB w w.heap.size u m) (hm : m.length ≤ 1048576) :
    Calls Try.prog 6 #[v, .int .i64 t, u] w fun e w' => e = .returned (.bool true) ∧ Below w.heap.size w w' := by
  clear ht
  have HS := Lib.hid hv
  have HU := Lib.hid hu
  obtain ⟨A, c, rfl, ha1, ha2, ha3, _⟩ := hv.open_
  obtain ⟨A2, c2, rfl, hu1, hu2, hu3, _⟩ := hu.open_
  clear hv hu
  have HVL : Hid ((versR l t).1.length ≤ 140737488355200) := by have := versR_le l t; show _ ≤ _; omega
  have HSL : Hid ((splitR m).1.length ≤ 140737488355200) := by have := splitR_le m; show _ ≤ _; omega
  go_enter Try.func6, Try.ntmps6
  go_wp2_with fail
  refine (alive4 w).mono ?_
  rintro e w1 ⟨rfl, hb1⟩
  have HS1 := Lib.hid (RBn HS.out hb1)
  have HU1 := Lib.hid (RBn HU.out hb1)
  have HB1 := Lib.hid hb1
  clear hb1
  go_wp2_with fail
  refine (wide_any _ l w1 HS1.out (by omega)).mono ?_
  rintro e w2 ⟨vw, rfl, ho2, hb2⟩
  obtain ⟨g, cw, rfl, hg1, hg2, hg3, hg4, _, _⟩ := ho2.form (by simp [marks])
  have hwl : (l ++ marks).length = l.length + 64 := by simp [marks]
  rw [hwl] at ho2 hg3 ⊢
  have HO2 := Lib.hid ho2
  have HB2 : Hid (Below w.heap.size w w2) := HB1.out.trans (hb2.mono HB1.out.size)
  have HS2 := Lib.hid (RBn HS1.out hb2)
  have HU2 := Lib.hid (RBn HU1.out hb2)
  have HP2 : Hid (RB w2 w2.heap.size (.slice (some ⟨g, 0, none⟩) l.length cw) l) := (ho2.rb (Nat.le_refl _)).pre
  clear ho2 hb2 hwl HS1 HB1 hg1 hg2 HS HU HU1
  have hi1 : (0 : Int) ≤ (l.length : Int) := by omega
  have hi2 : (l.length : Int) ≤ (cw : Int) := by omega
  have hi3 : l.length ≤ cw := by omega
  go_wp2_with fail
  refine (version_any _ l t w2 HP2.out (by omega)).mono ?_
  unfold Bytes2
  rintro e w3 ⟨v3, rfl, ho3, hb3⟩
  have HO3 := Lib.hid ho3
  have HB3 := Lib.hid hb3
  clear ho3 hb3
  go_wp2_with fail
  refine (version_any _ l t w3 (RBn HP2.out HB3.out) (by omega)).mono ?_
  unfold Bytes2
  rintro e w4 ⟨v4, rfl, ho4, hb4⟩
  have HO4 := Lib.hid ho4
  have HB4 := Lib.hid hb4
  clear ho4 hb4
  go_wp2_with fail
  refine (rversion_any _ l t w4 (RBn (RBn HS2.out HB3.out) HB4.out) (by omega)).mono ?_
  unfold Bytes2
  rintro e w5 ⟨v5, rfl, ho5, hb5⟩
  have HO5 := Lib.hid ho5
  have HB5 := Lib.hid hb5
  clear ho5 hb5
  go_wp2_with fail
  refine (apart3 _ _ _ _ w2 _ _ _ HO3.out HB3.out HO4.out HB4.out HO5.out HB5.out HVL.out).mono ?_
  rintro e w6 ⟨rfl, hb6⟩
  have HB6 := Lib.hid hb6
  clear hb6
  go_wp2_with fail
  refine (intact_yes _ _ l _ _ ((HO2.out.below HB6.out).rb (Nat.le_refl _)) (RBn HS2.out HB6.out)).mono ?_
  rintro e w7 ⟨rfl, n7, rfl⟩
  have HB7 : Hid (Below w.heap.size w (w6.drewN n7)) := HB2.out.trans ((below_drewN HB6.out n7).mono HB2.out.size)
  have HU7 := Lib.hid (RBn HU2.out (below_drewN HB6.out n7))
  clear HB3 HB4 HB5 HB6 HO2 HO3 HO4 HO5 HS2 HP2 HB2 HU2
  generalize w6.drewN n7 = W7 at HB7 HU7 ⊢
  go_wp2_with fail
  refine (wide_any _ m W7 HU7.out (by omega)).mono ?_
  rintro e x2 ⟨vx, rfl, ho2, hb2⟩
  obtain ⟨g', cw', rfl, hg1, hg2, hg3', hg4', _, _⟩ := ho2.form (by simp [marks])
  have hwl : (m ++ marks).length = m.length + 64 := by simp [marks]
  rw [hwl] at ho2 hg3' ⊢
  have HO2 := Lib.hid ho2
  have HB2 : Hid (Below w.heap.size w x2) := HB7.out.trans (hb2.mono HB7.out.size)
  have HS2 := Lib.hid (RBn HU7.out hb2)
  have HP2 : Hid (RB x2 x2.heap.size (.slice (some ⟨g', 0, none⟩) m.length cw') m) := (ho2.rb (Nat.le_refl _)).pre
  clear ho2 hb2 hwl hg1 hg2 HU7 HB7
  have hj1 : (0 : Int) ≤ (m.length : Int) := by omega
  have hj2 : (m.length : Int) ≤ (cw' : Int) := by omega
  have hj3 : m.length ≤ cw' := by omega
  go_wp2_with fail
  refine (split_any _ m x2 HP2.out (by omega)).mono ?_
  unfold Bytes3
  rintro e x3 ⟨k3, rfl, ho3, hb3⟩
  have HO3 := Lib.hid ho3
  have HB3 := Lib.hid hb3
  clear ho3 hb3
  go_wp2_with fail
  refine (split_any _ m x3 (RBn HP2.out HB3.out) (by omega)).mono ?_
  unfold Bytes3
  rintro e x4 ⟨k4, rfl, ho4, hb4⟩
  have HO4 := Lib.hid ho4
  have HB4 := Lib.hid hb4
  clear ho4 hb4
  go_wp2_with fail
  refine (rsplit_any _ m x4 (RBn (RBn HS2.out HB3.out) HB4.out) (by omega)).mono ?_
  unfold Bytes3
  rintro e x5 ⟨k5, rfl, ho5, hb5⟩
  have HO5 := Lib.hid ho5
  have HB5 := Lib.hid hb5
  clear ho5 hb5
  go_wp2_with fail
  refine (apart3 _ _ _ _ x2 _ _ _ HO3.out HB3.out HO4.out HB4.out HO5.out HB5.out HSL.out).mono ?_
  rintro e x6 ⟨rfl, hb6⟩
  have HB6 := Lib.hid hb6
  clear hb6
  go_wp2_with fail
  refine (intact_yes _ _ m _ _ ((HO2.out.below HB6.out).rb (Nat.le_refl _)) (RBn HS2.out HB6.out)).mono ?_
  rintro e x7 ⟨rfl, n8, rfl⟩
  have HB8 : Hid (Below w.heap.size w (x6.drewN n8)) := HB2.out.trans ((below_drewN HB6.out n8).mono HB2.out.size)
  go_wp2
  go_ret
  exact ⟨rfl, HB8.out⟩
end Go.Proofs.Ytbmjiheclagfiaa
