/-
  The keys of properties are one to one, and a version begins with no other key's (no program in it).
-/
import Derived.Test.YtbmjiheclagfiaaO2
namespace Go.Proofs.Ytbmjiheclagfiaa
open Go.RowKit
set_option linter.unusedVariables false

theorem idL_inj {m n : Nat} (hm : m ≤ 2147483647) (hn : n ≤ 2147483647) (h : idL m = idL n) : m = n := by
  have := congrArg (fun z => val (1 :: z)) h
  have e1 := val_elemL false m hm
  have e2 := val_elemL false n hn
  simp only [elemL, clsN] at e1 e2
  simp at this e1 e2
  omega
theorem strL_inj {x y : ByteArray} (h : strL x = strL y) : x = y := by rw [← strOf_strL x, ← strOf_strL y, h]
theorem propL_inj (e f : Bool) (m n : Nat) (x y : ByteArray) (hm : m ≤ 2147483647) (hn : n ≤ 2147483647) : propL e m x = propL f n y ↔ e = f ∧ m = n ∧ x = y := by
  constructor
  · intro h
    unfold propL at h
    simp only [List.cons_append, List.cons.injEq, true_and] at h
    obtain ⟨h1, h2⟩ := h
    have h3 := List.append_inj_left h2 (by simp [idL])
    have h4 := List.append_inj_right h2 (by simp [idL])
    refine ⟨?_, idL_inj hm hn h3, strL_inj h4⟩
    cases e <;> cases f <;> simp [clsN] at h1 ⊢
  · rintro ⟨rfl, rfl, rfl⟩
    rfl
theorem prop_elem (e f : Bool) (m n : Nat) (x : ByteArray) : sameB (propL e m x) (elemL f n) = false := by
  refine decide_eq_false fun h => ?_
  simp only [propL, elemL, List.cons_append, List.cons.injEq] at h
  have := clsN_le f
  omega

theorem lexI_zero : ∀ (a b : List Nat), lexI a b = 0 ↔ a = b
  | [], [] => by simp [lexI]
  | [], _ :: _ => by simp [lexI]
  | _ :: _, [] => by simp [lexI]
  | x :: a, y :: b => by
    rw [lexI]
    by_cases h1 : x < y
    · rw [if_pos h1]
      simp
      omega
    · by_cases h2 : y < x
      · rw [if_neg h1, if_pos h2]
        simp
        omega
      · obtain rfl : x = y := by omega
        rw [if_neg h1, if_neg h2, lexI_zero a b]
        simp
theorem versL_inj (k l : List Nat) (s t : Int) (hs : 0 ≤ s ∧ s ≤ 1099511627776) (ht : 0 ≤ t ∧ t ≤ 1099511627776) : versL k s = versL l t ↔ k = l ∧ s = t := by
  rw [← lexI_zero, lexI_vers s t hs ht k l, ← lexI_zero k l]
  unfold versO
  by_cases h : lexI k l = 0
  · rw [if_pos h]
    simp only [h, true_and]
    split
    · omega
    · split <;> omega
  · rw [if_neg h]
    simp [h]
theorem vers_begin : ∀ (k l : List Nat) (r : List Nat), (esc l ++ [0, 0] ++ r).take ((esc k).length + 2) = esc k ++ [0, 0] → k = l
  | [], [], r, _ => rfl
  | [], y :: l, r, h => by
    by_cases hy : y = 0
    · simp [esc, hy] at h
    · simp [esc, hy] at h
  | x :: k, [], r, h => by
    by_cases hx : x = 0
    · simp [esc, hx] at h
    · simp [esc, hx] at h
      exact absurd h.1.symm hx
  | x :: k, y :: l, r, h => by
    by_cases hx : x = 0
    · by_cases hy : y = 0
      · have ih := vers_begin k l r
        simp [esc, hx, hy] at h ih
        rw [hx, hy, ih h]
      · simp [esc, hx, hy] at h
    · by_cases hy : y = 0
      · simp [esc, hx, hy] at h
        exact absurd h.1.symm hx
      · have ih := vers_begin k l r
        simp [esc, hx, hy] at h ih
        rw [h.1, ih h.2]
theorem versL_length (k : List Nat) (t : Int) : (versL k t).length = (esc k).length + 10 := by simp [versL, bigL]
theorem piece_own (k : List Nat) (s : Int) : piece (versL k s) 0 ((esc k).length + 2) = esc k ++ [0, 0] := by
  simp [piece, versL, List.take_append]
  exact List.take_of_length_le (by omega)
theorem piece_no (k l : List Nat) (t : Int) (h : k ≠ l) : sameB (piece (versL l t) 0 ((esc k).length + 2)) (esc k ++ [0, 0]) = false := by
  refine decide_eq_false fun e => h (vers_begin k l (bigL (place (-t))) ?_)
  simpa [piece, versL] using e
end Go.Proofs.Ytbmjiheclagfiaa
