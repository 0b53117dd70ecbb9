/-
  The walk of skeinlaw04.KeysApart: its cases put together.
-/
import Derived.Test.YtbmjiheclagfiaaW7
namespace Go.Proofs.Ytbmjiheclagfiaa
open Go.RowKit
set_option linter.unusedVariables false

theorem nameB_le {s : ByteArray} (h : nameB s = true) : s.size ≤ 16 := by unfold nameB at h; simp at h; omega
theorem propL_le (e : Bool) (n : Nat) (s : ByteArray) (h : nameB s = true) : (propL e n s).length ≤ 40 := by
  have := nameB_le h
  simp [propL, idL, strL_length]
  omega
theorem propL_pos (e : Bool) (n : Nat) (s : ByteArray) : 0 < (propL e n s).length := by simp [propL]

theorem keysApart_walk (e0 : Bool) (n0 : Int) (e1 : Bool) (n1 : Int) (x y : ByteArray) (s t : Int) (w : World) (hx : x.size ≤ 140737488351232) (hy : y.size ≤ 140737488351232) (hs : (Lit.int .i64 s).wf = true) (ht : (Lit.int .i64 t).wf = true) :
    Calls Try.prog 8 #[refV e0 n0, refV e1 n1, .string x, .string y, .int .i64 s, .int .i64 t] w fun e w' => e = .returned (.bool true) ∧ Below w.heap.size w w' := by
  cases hA : idB n0 with
  | false => exact keysApart_no1 e0 n0 e1 n1 x y s t w hx hy hs ht 1 (propR_no hA) (.inl rfl)
  | true =>
    cases hX : nameB x with
    | false => exact keysApart_no1 e0 n0 e1 n1 x y s t w hx hy hs ht 54 (propR_bad hA hX) (.inr rfl)
    | true =>
      have hA' := inB_iff.1 hA
      obtain ⟨m0, rfl⟩ : ∃ m : Nat, n0 = m := ⟨n0.toNat, by omega⟩
      cases hB : idB n1 with
      | false => exact keysApart_no2 e0 m0 e1 n1 x y s t w hx hy hs ht _ (propL_pos e0 m0 x) (propR_yes hA hX) 1 (propR_no hB) (.inl rfl)
      | true =>
        cases hY : nameB y with
        | false => exact keysApart_no2 e0 m0 e1 n1 x y s t w hx hy hs ht _ (propL_pos e0 m0 x) (propR_yes hA hX) 54 (propR_bad hB hY) (.inr rfl)
        | true =>
          have hB' := inB_iff.1 hB
          obtain ⟨m1, rfl⟩ : ∃ m : Nat, n1 = m := ⟨n1.toNat, by omega⟩
          by_cases h1 : e0 = e1 ∧ m0 = m1
          · obtain ⟨rfl, rfl⟩ := h1
            have heq : ∀ W, (Op.equalIn 10000 29 (.agg #[.bool e0, .int .i64 (m0 : Int)]) (.agg #[.bool e0, .int .i64 (m0 : Int)])).run Try.prog W = .ok true W := by
              intro W
              have := run_eqRef W 9998 e0 e0 m0 m0
              simpa using this
            by_cases h2 : x = y
            · subst h2
              exact keysApart_A e0 m0 e0 m0 x s t w hx hs ht _ _ (propL_le e0 m0 x hX) (propR_yes hA hX) (propR_yes hA hX) (elemR_yes hA) (prop_elem e0 e0 m0 m0 x) heq
            · exact keysApart_B2 e0 m0 e0 m0 x y s t w hx hy hs ht _ _ _ (propL_le e0 m0 x hX) (propL_le e0 m0 y hY) (propR_yes hA hX) (propR_yes hB hY) (elemR_yes hA) (prop_elem e0 e0 m0 m0 x) (prop_elem e0 e0 m0 m0 y)
                (decide_eq_false fun h => h2 ((propL_inj e0 e0 m0 m0 x y (by omega) (by omega)).1 h).2.2) heq h2
          · have heq : ∀ W, (Op.equalIn 10000 29 (.agg #[.bool e0, .int .i64 (m0 : Int)]) (.agg #[.bool e1, .int .i64 (m1 : Int)])).run Try.prog W = .ok false W := by
              intro W
              rw [run_eqRef W 9998 e0 e1 m0 m1]
              congr 1
              rw [Bool.and_eq_false_iff]
              by_cases h3 : e0 = e1
              · right
                have : m0 ≠ m1 := fun h => h1 ⟨h3, h⟩
                simp
                omega
              · left
                simpa using h3
            exact keysApart_B1 e0 m0 e1 m1 x y s t w hx hy hs ht _ _ _ (propL_le e0 m0 x hX) (propL_le e1 m1 y hY) (propR_yes hA hX) (propR_yes hB hY) (elemR_yes hA) (prop_elem e0 e0 m0 m0 x) (prop_elem e1 e0 m1 m0 y)
              (decide_eq_false fun h => h1 ⟨((propL_inj e0 e1 m0 m1 x y (by omega) (by omega)).1 h).1, ((propL_inj e0 e1 m0 m1 x y (by omega) (by omega)).1 h).2.1⟩) heq
end Go.Proofs.Ytbmjiheclagfiaa
