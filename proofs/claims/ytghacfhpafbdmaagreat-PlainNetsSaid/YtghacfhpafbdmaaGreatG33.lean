/-
  Whole numbers below 2 to the 53rd as floats of 64 bits: read, added, set in order, cut. No program.
-/
import Derived.Test.YtghacfhpafbdmaaGreatG5
import Derived.Laws.ComplexArith
namespace Go.Proofs.YtghacfhpafbdmaaGreat
open Ieee
set_option linter.unusedVariables false

/-- A whole number's float. -/
def fl (n : Nat) : Nat := floatOfInt .f64 (n : Int)

theorem dbl_least : double.leastPlace = -1074 := by decide
theorem dbl_binade : double.binade = 4503599627370496 := by decide
theorem dbl_inf : double.infRung = 9218868437227405312 := by decide
theorem dbl_sign : double.signWeight = 9223372036854775808 := by decide
theorem dbl_frac : double.fractionBits = 52 := rfl

theorem fl_nearest (n : Nat) : fl n = double.nearest false n 0 := by
  show double.nearest (decide ((n : Int) < 0)) (n : Int).natAbs 0 = _
  have : decide ((n : Int) < 0) = false := by simp
  rw [this, Int.natAbs_natCast]

theorem cut_shift (n d : Nat) (h : 0 < n) : Toward.even.cut false (n * 2 ^ d) d = n := by
  have hl : d ≤ (n * 2 ^ d).log2 + 2 := by
    have h1 : 2 ^ d ≤ n * 2 ^ d := Nat.le_mul_of_pos_left _ h
    have h2 := (Nat.le_log2 (by have := Nat.two_pow_pos d; omega)).2 h1
    omega
  unfold Toward.cut
  simp only
  rw [Nat.min_eq_left hl, Nat.one_shiftLeft]
  have hp := Nat.two_pow_pos d
  have h1 : n * 2 ^ d / 2 ^ d = n := Nat.mul_div_cancel _ hp
  have h2 : n * 2 ^ d % 2 ^ d = 0 := Nat.mul_mod_left _ _
  rw [h1, h2]
  have h3 : ((2 : Nat) ^ d == 0) = false := by simp
  simp [h3]
theorem cut_none (n : Nat) : Toward.even.cut false n 0 = n := by
  rcases Nat.eq_zero_or_pos n with rfl | h
  · simp [Toward.cut]
  · have := cut_shift n 0 h
    simpa using this

theorem log2_mul_pow (n k : Nat) (h : 0 < n) : (n * 2 ^ k).log2 = n.log2 + k := by
  have hp := Nat.two_pow_pos k
  have h1 := (Nat.le_log2 (k := n.log2) (n := n) (by omega)).1 (Nat.le_refl _)
  have h2 := (Nat.log2_lt (k := n.log2 + 1) (n := n) (by omega)).1 (by omega)
  have h3 : n.log2 + k ≤ (n * 2 ^ k).log2 := (Nat.le_log2 (by have := Nat.mul_pos h hp; omega)).2 (by rw [Nat.pow_add]; exact Nat.mul_le_mul_right _ h1)
  have h4 : (n * 2 ^ k).log2 < n.log2 + 1 + k := (Nat.log2_lt (by have := Nat.mul_pos h hp; omega)).2 (by rw [Nat.pow_add]; exact Nat.mul_lt_mul_of_pos_right h2 hp)
  omega

/-- The word of n * 2 ^ k at place -k. -/
theorem nearest_rep (n k : Nat) (h : 0 < n) (hn : n < 2 ^ 53) (hk : k ≤ 1074) :
    double.nearest false (n * 2 ^ k) (-(k : Int)) = (n.log2 + 1022) * 4503599627370496 + n * 2 ^ (52 - n.log2) := by
  have hp := Nat.two_pow_pos k
  have hl : n.log2 < 53 := (Nat.log2_lt (by omega)).2 hn
  have hm : n * 2 ^ k ≠ 0 := by have := Nat.mul_pos h hp; omega
  unfold Format.nearest
  rw [if_neg hm, log2_mul_pow n k h, dbl_least, dbl_frac, dbl_binade, dbl_inf]
  have hlast : max (-(k : Int) + ((n.log2 + k : Nat) : Int) - ((52 : Nat) : Int)) (-1074) = (n.log2 : Int) - 52 := by omega
  simp only [hlast]
  have hkept : Toward.even.cut false ((n * 2 ^ k) <<< (-(k : Int) - ((n.log2 : Int) - 52)).toNat) (((n.log2 : Int) - 52) - -(k : Int)).toNat = n * 2 ^ (52 - n.log2) := by
    rw [Nat.shiftLeft_eq]
    by_cases hc : k + n.log2 ≤ 52
    · have e1 : (-(k : Int) - ((n.log2 : Int) - 52)).toNat = 52 - n.log2 - k := by omega
      have e2 : (((n.log2 : Int) - 52) - -(k : Int)).toNat = 0 := by omega
      rw [e1, e2, cut_none, Nat.mul_assoc, ← Nat.pow_add]
      congr 2; omega
    · have e1 : (-(k : Int) - ((n.log2 : Int) - 52)).toNat = 0 := by omega
      have e2 : (((n.log2 : Int) - 52) - -(k : Int)).toNat = k - (52 - n.log2) := by omega
      rw [e1, e2, Nat.pow_zero, Nat.mul_one]
      have e3 : n * 2 ^ k = (n * 2 ^ (52 - n.log2)) * 2 ^ (k - (52 - n.log2)) := by
        rw [Nat.mul_assoc, ← Nat.pow_add]; congr 2; omega
      rw [e3, cut_shift]
      exact Nat.mul_pos h (Nat.two_pow_pos _)
  rw [hkept]
  have e4 : ((n.log2 : Int) - 52 - -1074).toNat = n.log2 + 1022 := by omega
  rw [e4]
  have hup : n * 2 ^ (52 - n.log2) < 2 ^ 53 := by
    have h2 := (Nat.log2_lt (k := n.log2 + 1) (n := n) (by omega)).1 (by omega)
    calc n * 2 ^ (52 - n.log2) < 2 ^ (n.log2 + 1) * 2 ^ (52 - n.log2) := Nat.mul_lt_mul_of_pos_right h2 (Nat.two_pow_pos _)
      _ = 2 ^ 53 := by rw [← Nat.pow_add]; congr 1; omega
  unfold Format.word
  rw [if_neg (by decide)]
  have : (2 : Nat) ^ 53 = 9007199254740992 := by decide
  rw [Nat.min_eq_left (by omega)]

/-- What a datum stands for: the whole number n. -/
def Rep (d : Datum) (n : Nat) : Prop := ∃ k : Nat, k ≤ 1074 ∧ d = .number false (n * 2 ^ k) (-(k : Int))
theorem write_rep {d : Datum} {n : Nat} (h : Rep d n) (hn : n < 2 ^ 53) : double.write d = fl n := by
  obtain ⟨k, hk, rfl⟩ := h
  rw [fl_nearest]
  show double.nearest false (n * 2 ^ k) (-(k : Int)) = _
  rcases Nat.eq_zero_or_pos n with rfl | h0
  · simp [Format.nearest]
  · rw [nearest_rep n k h0 hn hk]
    have := nearest_rep n 0 h0 hn (by omega)
    rw [Nat.pow_zero, Nat.mul_one] at this
    exact this.symm
theorem read_fl {n : Nat} (hn : n < 2 ^ 53) : Rep (double.read (fl n)) n := by
  rcases Nat.eq_zero_or_pos n with rfl | h0
  · obtain ⟨K, hK⟩ : ∃ K : Nat, K = 1074 := ⟨_, rfl⟩
    refine ⟨K, by omega, ?_⟩
    rw [Nat.zero_mul, hK]
    have h0 : fl 0 = 0 := by rw [fl_nearest]; rfl
    rw [h0]
    decide
  · have hl : n.log2 < 53 := (Nat.log2_lt (by omega)).2 hn
    have h1 := (Nat.le_log2 (k := n.log2) (n := n) (by omega)).1 (Nat.le_refl _)
    have h2 := (Nat.log2_lt (k := n.log2 + 1) (n := n) (by omega)).1 (by omega)
    have hlo : 2 ^ 52 ≤ n * 2 ^ (52 - n.log2) := by
      calc 2 ^ 52 = 2 ^ n.log2 * 2 ^ (52 - n.log2) := by rw [← Nat.pow_add]; congr 1; omega
        _ ≤ _ := Nat.mul_le_mul_right _ h1
    have hup : n * 2 ^ (52 - n.log2) < 2 ^ 53 := by
      calc n * 2 ^ (52 - n.log2) < 2 ^ (n.log2 + 1) * 2 ^ (52 - n.log2) := Nat.mul_lt_mul_of_pos_right h2 (Nat.two_pow_pos _)
        _ = 2 ^ 53 := by rw [← Nat.pow_add]; congr 1; omega
    have e52 : (2 : Nat) ^ 52 = 4503599627370496 := by decide
    have e53 : (2 : Nat) ^ 53 = 9007199254740992 := by decide
    have hfl : fl n = (n.log2 + 1022) * 4503599627370496 + n * 2 ^ (52 - n.log2) := by
      rw [fl_nearest]
      have := nearest_rep n 0 h0 hn (by omega)
      rw [Nat.pow_zero, Nat.mul_one] at this
      exact this
    obtain ⟨m, hm⟩ : ∃ m, m = n * 2 ^ (52 - n.log2) := ⟨_, rfl⟩
    rw [← hm] at hlo hup hfl
    refine ⟨52 - n.log2, by omega, ?_⟩
    rw [hfl, ← hm]
    unfold Format.read
    rw [dbl_sign, dbl_binade, dbl_inf, dbl_least]
    have q1 : ((n.log2 + 1022) * 4503599627370496 + m) / 9223372036854775808 = 0 := by omega
    have q2 : ((n.log2 + 1022) * 4503599627370496 + m) % 9223372036854775808 = (n.log2 + 1022) * 4503599627370496 + m := by omega
    rw [q1, q2]
    have q3 : ¬ ((n.log2 + 1022) * 4503599627370496 + m < 4503599627370496) := by omega
    have q4 : (n.log2 + 1022) * 4503599627370496 + m < 9218868437227405312 := by omega
    simp only [if_neg q3, if_pos q4]
    have q5 : 4503599627370496 + ((n.log2 + 1022) * 4503599627370496 + m) % 4503599627370496 = m := by omega
    have q6 : (-1074 : Int) + ((((n.log2 + 1022) * 4503599627370496 + m) / 4503599627370496 - 1 : Nat) : Int) = -((52 - n.log2 : Nat) : Int) := by omega
    rw [q5, q6]
    rfl

theorem signed_pos (m k : Nat) : signed false m k = ((m * 2 ^ k : Nat) : Int) := by
  unfold signed; rw [if_neg (by decide), Nat.shiftLeft_eq]
theorem shift_to (a i : Nat) (M : Nat) (h : i ≤ M) : signed false (a * 2 ^ i) (-(i : Int) - -(M : Int)).toNat = ((a * 2 ^ M : Nat) : Int) := by
  rw [signed_pos, Nat.mul_assoc, ← Nat.pow_add]
  congr 3; omega
theorem min_neg (i j : Nat) : min (-(i : Int)) (-(j : Int)) = -((max i j : Nat) : Int) := by omega
theorem sum_rep {x y : Datum} {a b : Nat} (hx : Rep x a) (hy : Rep y b) : ∃ z, x.sum y = some z ∧ Rep z (a + b) := by
  obtain ⟨i, hi, rfl⟩ := hx
  obtain ⟨j, hj, rfl⟩ := hy
  refine ⟨_, rfl, max i j, by omega, ?_⟩
  simp only [min_neg]
  rw [shift_to a i (max i j) (by omega), shift_to b j (max i j) (by omega)]
  have e : ((a * 2 ^ max i j : Nat) : Int) + ((b * 2 ^ max i j : Nat) : Int) = (((a + b) * 2 ^ max i j : Nat) : Int) := by rw [Nat.add_mul]; omega
  rw [e]
  generalize (a + b) * 2 ^ max i j = t
  simp
theorem fl_add {a b : Nat} (h : a + b < 2 ^ 53) : floatBits .add .f64 (fl a) (fl b) = some (fl (a + b)) := by
  show double.add (fl a) (fl b) = _
  obtain ⟨z, h1, h2⟩ := sum_rep (read_fl (n := a) (by omega)) (read_fl (n := b) (by omega))
  unfold Format.add
  rw [h1, Option.map_some, write_rep h2 h]
theorem cmp_mul (a b M : Nat) : compare ((a * 2 ^ M : Nat) : Int) ((b * 2 ^ M : Nat) : Int) = compare a b := by
  have hp := Nat.two_pow_pos M
  rcases Nat.lt_trichotomy a b with h | h | h
  · rw [Nat.compare_eq_lt.2 h]
    exact Int.compare_eq_lt.2 (by have := Nat.mul_lt_mul_of_pos_right h hp; omega)
  · subst h
    rw [Nat.compare_eq_eq.2 rfl]
    exact Int.compare_eq_eq.2 rfl
  · rw [Nat.compare_eq_gt.2 h]
    exact Int.compare_eq_gt.2 (by have := Nat.mul_lt_mul_of_pos_right h hp; omega)
theorem fl_order {a b : Nat} (ha : a < 2 ^ 53) (hb : b < 2 ^ 53) : double.order (fl a) (fl b) = some (compare a b) := by
  obtain ⟨i, hi, h1⟩ := read_fl ha
  obtain ⟨j, hj, h2⟩ := read_fl hb
  unfold Format.order
  rw [h1, h2]
  unfold Datum.order
  simp only [min_neg]
  rw [shift_to a i (max i j) (by omega), shift_to b j (max i j) (by omega), cmp_mul]
theorem fl_int {n : Nat} (h : n < 2 ^ 53) : (double.read (fl n)).toInt .zero = some (n : Int) := by
  obtain ⟨k, hk, h1⟩ := read_fl h
  rw [h1]
  unfold Datum.toInt Datum.integral
  simp only
  have e0 : (- -(k : Int)).toNat = k := by omega
  have e1 : (-(k : Int)).toNat = 0 := by omega
  rw [e0, e1]
  have hc : Toward.zero.cut false ((n * 2 ^ k) <<< 0) k = n := by
    rw [Nat.shiftLeft_zero]
    rcases Nat.eq_zero_or_pos n with rfl | h0
    · simp [Toward.cut]
    · have hl : k ≤ (n * 2 ^ k).log2 + 2 := by rw [log2_mul_pow n k h0]; omega
      unfold Toward.cut
      simp only
      rw [Nat.min_eq_left hl, Nat.one_shiftLeft, Nat.mul_div_cancel _ (Nat.two_pow_pos k)]
      rfl
  rw [hc, signed_pos]
  simp
theorem fl_inj {a b : Nat} (ha : a < 2 ^ 53) (hb : b < 2 ^ 53) (h : fl a = fl b) : a = b := by
  have h1 := fl_int ha
  have h2 := fl_int hb
  rw [h, h2] at h1
  injection h1 with h1
  omega
end Go.Proofs.YtghacfhpafbdmaaGreat
