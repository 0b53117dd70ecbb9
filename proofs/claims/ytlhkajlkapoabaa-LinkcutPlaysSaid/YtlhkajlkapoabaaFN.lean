/-
  A whole number below nought as a float of 64 bits, added to one that isn't less. No program.
-/
import Derived.Test.YtlhkajlkapoabaaFL
namespace Go.Proofs.Ytlhkajlkapoabaa
open Ieee
set_option linter.unusedVariables false

theorem cut_sign (n d : Nat) : Toward.even.cut true n d = Toward.even.cut false n d := by unfold Toward.cut; rfl

theorem word_true (r : Nat) : double.word true r = double.signWeight + r := by unfold Format.word; rw [if_pos rfl]

theorem word_false (r : Nat) : double.word false r = r := by unfold Format.word; rw [if_neg (by decide)]

theorem nearest_neg (m : Nat) (e : Int) : double.nearest true m e = double.signWeight + double.nearest false m e := by
  unfold Format.nearest
  by_cases h : m = 0
  · rw [if_pos h, if_pos h, word_true, word_false]
  · rw [if_neg h, if_neg h]
    simp only [cut_sign]
    generalize Toward.even.cut false _ _ = t
    generalize Int.toNat _ * double.binade = u
    rw [word_true, word_false]

theorem fl_lt (n : Nat) : fl n < double.signWeight := by
  rw [fl_nearest]
  unfold Format.nearest
  by_cases h : n = 0
  · rw [if_pos h]; decide
  · rw [if_neg h]
    unfold Format.word
    rw [if_neg (by decide), dbl_sign, dbl_inf]
    exact Nat.lt_of_le_of_lt (Nat.min_le_right _ _) (by decide)

theorem read_neg {x m : Nat} {e : Int} (hx : x < double.signWeight) (h : double.read x = .number false m e) : double.read (double.signWeight + x) = .number true m e := by
  have hs : 0 < double.signWeight := by decide
  have a1 : x / double.signWeight = 0 := Nat.div_eq_of_lt hx
  have a2 : x % double.signWeight = x := Nat.mod_eq_of_lt hx
  have b1 : (double.signWeight + x) / double.signWeight = 1 := by rw [Nat.add_div_left _ hs, a1]
  have b2 : (double.signWeight + x) % double.signWeight = x := by rw [Nat.add_mod_left, a2]
  unfold Format.read at h ⊢
  rw [a1, a2] at h
  rw [b1, b2]
  simp only at h ⊢
  by_cases h1 : x < double.binade
  · rw [if_pos h1] at h ⊢
    injection h with _ h2 h3
    rw [h2, h3]; rfl
  · rw [if_neg h1] at h ⊢
    by_cases h2 : x < double.infRung
    · rw [if_pos h2] at h ⊢
      injection h with _ h3 h4
      rw [h3, h4]; rfl
    · rw [if_neg h2] at h
      by_cases h3 : x = double.infRung
      · rw [if_pos h3] at h; cases h
      · rw [if_neg h3] at h; cases h

theorem signed_true (m k : Nat) : signed true m k = -((m * 2 ^ k : Nat) : Int) := by
  unfold signed; rw [if_pos rfl, Nat.shiftLeft_eq]

theorem fl_neg (b : Nat) (hb : 0 < b) : floatOfInt .f64 (-(b : Int)) = double.signWeight + fl b := by
  show double.nearest (decide (-(b : Int) < 0)) (-(b : Int)).natAbs 0 = _
  have h1 : decide (-(b : Int) < 0) = true := by simp; omega
  have h2 : (-(b : Int)).natAbs = b := by omega
  rw [h1, h2, nearest_neg, fl_nearest]

theorem fl_sub {a b : Nat} (ha : a < 2 ^ 53) (hb : 0 < b) (hab : b ≤ a) : floatBits .add .f64 (fl a) (floatOfInt .f64 (-(b : Int))) = some (fl (a - b)) := by
  show double.add (fl a) _ = _
  obtain ⟨i, hi, h1⟩ := read_fl ha
  obtain ⟨j, hj, h2⟩ := read_fl (n := b) (by omega)
  have h3 := read_neg (fl_lt b) h2
  rw [fl_neg b hb]
  unfold Format.add
  rw [h1, h3]
  unfold Datum.sum
  simp only [min_neg]
  rw [shift_to a i (max i j) (by omega)]
  have h4 : signed true (b * 2 ^ j) (-(j : Int) - -((max i j : Nat) : Int)).toNat = -((b * 2 ^ max i j : Nat) : Int) := by
    rw [signed_true, Nat.mul_assoc, ← Nat.pow_add]
    congr 4; omega
  rw [h4]
  have h5 : ((a * 2 ^ max i j : Nat) : Int) + -((b * 2 ^ max i j : Nat) : Int) = (((a - b) * 2 ^ max i j : Nat) : Int) := by
    have : b * 2 ^ max i j ≤ a * 2 ^ max i j := Nat.mul_le_mul_right _ hab
    rw [Nat.sub_mul]; omega
  rw [h5]
  have h6 : Rep (.number false ((a - b) * 2 ^ max i j) (-((max i j : Nat) : Int))) (a - b) := ⟨max i j, by omega, rfl⟩
  have h7 := write_rep h6 (by omega)
  rw [Option.map_some]
  have h8 : ∀ t : Nat, (if (t : Int) = 0 then (false && true) else decide ((t : Int) < 0)) = false := fun t => by
    by_cases h : (t : Int) = 0
    · rw [if_pos h]; rfl
    · rw [if_neg h]; simp
  rw [h8, Int.natAbs_natCast, h7]

end Go.Proofs.Ytlhkajlkapoabaa
