/-
  The walks of what reads numbers: skeinref01.Get, num.Get.
-/
import Derived.Test.YtbmjiheclagfiaaN2
namespace Go.Proofs.Ytbmjiheclagfiaa
open Go.RowKit
set_option linter.unusedVariables false

/-- A number read from place p on: the number, the place behind it, the error. l: what is left from byte i of it on; u: what has been read. -/
def getGo (p : Nat) : List Nat → Nat → Nat → Nat × Nat × Nat
  | [], _, _ => (0, 0, 2)
  | c :: r, i, u => if i = 9 ∧ 1 < c then (0, 0, 10) else if 128 ≤ c then getGo p r (i + 1) (u + c % 128 * 128 ^ i) else if c = 0 ∧ 0 < i then (0, 0, 5) else (u + c % 128 * 128 ^ i, p + i + 1, 0)
def getR (l : List Nat) (p : Nat) : Nat × Nat × Nat := getGo p (l.drop p) 0 0

theorem getGo_end (p : Nat) (l : List Nat) (i u : Nat) (h : l.length ≤ p + i) : getGo p (l.drop (p + i)) i u = (0, 0, 2) := by
  rw [List.drop_of_length_le h]; rfl
theorem getGo_wide (p : Nat) (l : List Nat) (i u : Nat) (h : p + i < l.length) (h9 : i = 9) (hc : 1 < l[p + i]) : getGo p (l.drop (p + i)) i u = (0, 0, 10) := by
  rw [List.drop_eq_getElem_cons h, getGo, if_pos ⟨h9, hc⟩]
theorem getGo_more (p : Nat) (l : List Nat) (i u : Nat) (h : p + i < l.length) (h9 : ¬ (i = 9 ∧ 1 < l[p + i])) (hc : 128 ≤ l[p + i]) :
    getGo p (l.drop (p + i)) i u = getGo p (l.drop (p + (i + 1))) (i + 1) (u + l[p + i] % 128 * 128 ^ i) := by
  rw [List.drop_eq_getElem_cons h, getGo, if_neg h9, if_pos hc]; rfl
theorem getGo_form (p : Nat) (l : List Nat) (i u : Nat) (h : p + i < l.length) (hc : l[p + i] = 0) (hi : 0 < i) : getGo p (l.drop (p + i)) i u = (0, 0, 5) := by
  rw [List.drop_eq_getElem_cons h, getGo, if_neg (by omega), if_neg (by omega), if_pos ⟨hc, hi⟩]
theorem getGo_done (p : Nat) (l : List Nat) (i u : Nat) (h : p + i < l.length) (h9 : ¬ (i = 9 ∧ 1 < l[p + i])) (hc : l[p + i] < 128) (hz : ¬ (l[p + i] = 0 ∧ 0 < i)) :
    getGo p (l.drop (p + i)) i u = (u + l[p + i] % 128 * 128 ^ i, p + i + 1, 0) := by
  rw [List.drop_eq_getElem_cons h, getGo, if_neg h9, if_neg (by omega), if_neg hz]

theorem pow128_le (i : Nat) (h : i ≤ 9) : 128 ^ i ≤ 9223372036854775808 := Nat.le_trans (Nat.pow_le_pow_right (by omega) h) (by decide)
theorem pow128_le8 (i : Nat) (h : i ≤ 8) : 128 ^ i ≤ 72057594037927936 := Nat.le_trans (Nat.pow_le_pow_right (by omega) h) (by decide)

/-- What a byte adds fits. -/
theorem getFits (i x u m : Nat) (hi : i ≤ 9) (h9 : ¬ (i = 9 ∧ 1 < x)) (hm : m = 128 ^ i) (hu : u < 128 ^ i) : x % 128 * m + u < 18446744073709551616 ∧ (u + x % 128 * m < 128 ^ (i + 1)) := by
  subst hm
  have h1 : u + x % 128 * 128 ^ i < 128 ^ (i + 1) := by
    have : x % 128 * 128 ^ i ≤ 127 * 128 ^ i := Nat.mul_le_mul_right _ (by omega)
    rw [Nat.pow_succ]
    omega
  refine ⟨?_, h1⟩
  by_cases h : i = 9
  · subst h
    have hx : x ≤ 1 := by omega
    have : x % 128 * 128 ^ 9 ≤ 1 * 128 ^ 9 := Nat.mul_le_mul_right _ (by omega)
    omega
  · have := pow128_le (i + 1) (by omega)
    omega

theorem res3 {a b c a' b' c' : Nat} (h : ((a, b, c) : Nat × Nat × Nat) = (a', b', c')) : a = a' ∧ b = b' ∧ c = c' := by simpa using h
end Go.Proofs.Ytbmjiheclagfiaa
