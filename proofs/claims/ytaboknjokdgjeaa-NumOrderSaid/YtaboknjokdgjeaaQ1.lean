/-
  Plain: what is read is what was written, and back.
-/
import Derived.Test.YtaboknjokdgjeaaL4
namespace Go.Proofs.Ytaboknjokdgjeaa
open Go.RowKit
set_option linter.unusedVariables false

/-- Bytes that are read are the ones of their number. -/
theorem getGo_put (p : Nat) : ∀ (l : List Nat) (i u ru rn : Nat), (∀ x ∈ l, x < 256) → getGo p l i u = (ru, rn, 0) →
    ∃ m k, ru = u + m * 128 ^ i ∧ rn = p + i + k ∧ k ≤ l.length ∧ 0 < k ∧ l.take k = putL m ∧ (0 < i → 0 < m) := by
  intro l
  induction l with
  | nil => intro i u ru rn _ h; simp [getGo] at h
  | cons c r ih =>
    intro i u ru rn hl h
    have hc : c < 256 := hl c (by simp)
    rw [getGo] at h
    by_cases h9 : i = 9 ∧ 1 < c
    · rw [if_pos h9] at h; simp at h
    · rw [if_neg h9] at h
      by_cases h1 : 128 ≤ c
      · rw [if_pos h1] at h
        obtain ⟨m, k, e1, e2, e3, e4, e5, e6⟩ := ih (i + 1) _ ru rn (fun x hx => hl x (by simp [hx])) h
        have hm := e6 (by omega)
        refine ⟨c % 128 + 128 * m, k + 1, ?_, by omega, by simp; omega, by omega, ?_, fun _ => by omega⟩
        · rw [e1, Nat.pow_succ, Nat.add_mul, Nat.add_assoc, Nat.mul_comm 128 m, Nat.mul_assoc, Nat.mul_comm 128 (128 ^ i)]
        · rw [List.take_succ_cons, e5, putL_more (c % 128 + 128 * m) (by omega)]
          congr 1
          · omega
          · congr 1; omega
      · rw [if_neg h1] at h
        by_cases h2 : c = 0 ∧ 0 < i
        · rw [if_pos h2] at h; simp at h
        · rw [if_neg h2] at h
          obtain ⟨e1, e2, _⟩ := res3 h
          refine ⟨c, 1, ?_, by omega, by simp, by omega, ?_, fun hi => by omega⟩
          · rw [← e1, Nat.mod_eq_of_lt (by omega)]
          · rw [putL_last c (by omega)]; simp

theorem piece_eq (l : List Nat) (p q : Nat) : piece l p q = (l.drop p).take (q - p) := by
  unfold piece
  rw [List.drop_take]

theorem getA_put (l : List Nat) (at_ : Int) (u n : Nat) (hl : ∀ x ∈ l, x < 256) (h : getA l at_ = (u, n, 0)) : putL u = piece l at_.toNat n := by
  unfold getA at h
  by_cases hb : at_ < 0 ∨ (l.length : Int) < at_
  · rw [if_pos hb] at h; simp at h
  · rw [if_neg hb] at h
    unfold getR at h
    obtain ⟨m, k, e1, e2, e3, e4, e5, _⟩ := getGo_put at_.toNat _ 0 0 u n (fun x hx => hl x (List.mem_of_mem_drop hx)) h
    have : u = m := by simpa using e1
    rw [this, ← e5, piece_eq]
    congr 1
    omega
theorem getA_err (l : List Nat) (at_ : Int) (u n e : Nat) (h : getA l at_ = (u, n, e)) (he : e ≠ 0) : u = 0 ∧ n = 0 := by
  have key : ∀ (p : Nat) (l : List Nat) (i u0 : Nat), (getGo p l i u0).2.2 ≠ 0 → (getGo p l i u0).1 = 0 ∧ (getGo p l i u0).2.1 = 0 := by
    intro p l
    induction l with
    | nil => intro i u0 _; simp [getGo]
    | cons c r ih =>
      intro i u0 h
      rw [getGo] at h ⊢
      by_cases h9 : i = 9 ∧ 1 < c
      · rw [if_pos h9]; simp
      · rw [if_neg h9] at h ⊢
        by_cases h1 : 128 ≤ c
        · rw [if_pos h1] at h ⊢; exact ih _ _ h
        · rw [if_neg h1] at h ⊢
          by_cases h2 : c = 0 ∧ 0 < i
          · rw [if_pos h2]; simp
          · rw [if_neg h2] at h; simp at h
  unfold getA at h
  by_cases hb : at_ < 0 ∨ (l.length : Int) < at_
  · rw [if_pos hb] at h
    obtain ⟨rfl, rfl, _⟩ := res3 h
    exact ⟨rfl, rfl⟩
  · rw [if_neg hb] at h
    unfold getR at h
    have := key at_.toNat (l.drop at_.toNat) 0 0 (by rw [h]; exact he)
    rw [h] at this
    exact this
theorem fold_unf (u : Nat) : foldN (unf u) = u := by
  unfold foldN unf
  by_cases h : u % 2 = 0
  · rw [if_pos h, if_pos (by omega)]; omega
  · rw [if_neg h, if_neg (by omega)]; omega
theorem unf_fold (v : Int) : unf (foldN v) = v := by
  unfold foldN unf
  by_cases h : 0 ≤ v
  · rw [if_pos h, if_pos (by omega)]; omega
  · rw [if_neg h, if_neg (by omega)]; omega

theorem getSA_ok (l : List Nat) (at_ : Int) (u n : Nat) (h : getA l at_ = (u, n, 0)) : getSA l at_ = (unf u, n, 0) := by unfold getSA; rw [h]; simp
theorem getSA_err (l : List Nat) (at_ : Int) (u n e : Nat) (h : getA l at_ = (u, n, e)) (he : e ≠ 0) : getSA l at_ = (0, 0, e) := by unfold getSA; rw [h]; simp [he]

theorem piece_cat (l : List Nat) (p q r : Nat) (h1 : p ≤ q) (h2 : q ≤ r) : piece l p q ++ piece l q r = piece l p r := by
  rw [piece_eq, piece_eq, piece_eq, show r - p = (q - p) + (r - q) by omega, List.take_add, List.drop_drop, show p + (q - p) = q by omega]
theorem piece_len (l : List Nat) (p q : Nat) (h1 : p ≤ q) (h2 : q ≤ l.length) : (piece l p q).length = q - p := by
  rw [piece_eq, List.length_take, List.length_drop]; omega

/-- A text that is read is the only one. -/
theorem textA_put (l : List Nat) (at_ most : Int) (tl : List Nat) (tn : Nat) (hl : ∀ x ∈ l, x < 256) (h : textA l at_ most = (tl, tn, 0)) : tn ≤ l.length ∧ 0 ≤ at_ ∧ putL tl.length ++ tl = piece l at_.toNat tn := by
  obtain ⟨⟨n, rn, re⟩, hg⟩ : ∃ r, getA l at_ = r := ⟨_, rfl⟩
  unfold textA at h
  rw [hg] at h
  by_cases h0 : re = 0
  · subst h0
    obtain ⟨ha, hb, hc⟩ := getA_next l at_ n rn hg
    have hp := getA_put l at_ n rn hl hg
    simp only [ne_eq, not_true, if_false] at h
    by_cases h1 : max most 0 < (n : Int)
    · rw [if_pos h1] at h; simp at h
    · rw [if_neg h1] at h
      by_cases h2 : l.length - rn < n
      · rw [if_pos h2] at h; simp at h
      · rw [if_neg h2] at h
        obtain ⟨e1, e2⟩ : piece l rn (rn + n) = tl ∧ rn + n = tn := by simpa using h
        subst e1
        subst e2
        refine ⟨by omega, ha, ?_⟩
        rw [piece_len l rn (rn + n) (by omega) (by omega), show rn + n - rn = n by omega, hp, piece_cat l _ _ _ (by omega) (by omega)]
  · simp [h0] at h
theorem textA_bad (l : List Nat) (at_ most : Int) (tl : List Nat) (tn te : Nat) (h : textA l at_ most = (tl, tn, te)) (he : te ≠ 0) : tl = [] ∧ tn = 0 := by
  unfold textA at h
  split at h
  · simp at h; exact ⟨h.1, h.2.1.symm⟩
  · split at h
    · simp at h; exact ⟨h.1, h.2.1.symm⟩
    · split at h
      · simp at h; exact ⟨h.1, h.2.1.symm⟩
      · simp at h; omega
end Go.Proofs.Ytaboknjokdgjeaa
