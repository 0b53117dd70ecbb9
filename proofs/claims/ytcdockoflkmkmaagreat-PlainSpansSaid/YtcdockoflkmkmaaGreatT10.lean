/-
  What PlainPaths' walk wants in plain words: errors there and back, the beginning of a list, the greatest edge of one more.
-/
import Derived.Test.YtcdockoflkmkmaaGreatT9
namespace Go.Proofs.YtcdockoflkmkmaaGreat
open Go.RowKit
set_option linter.unusedVariables false

theorem chk_symm (V : List Int) (E : List Ed) (u v : Int) : chkV V E [v, u] = chkV V E [u, v] := by
  unfold chkV
  simp only [List.all_cons, List.all_nil, Bool.and_true]
  rw [Bool.and_comm]
theorem pathErr_symm (V : List Int) (E : List Ed) (u v : Int) : pathErr V E v u = pathErr V E u v := by
  unfold pathErr
  rw [chk_symm]
  by_cases h : chkV V E [u, v] = 0
  · rw [if_pos h, if_pos h]
    obtain ⟨h1, h2⟩ := chk_zero h
    have hr := right_of h1
    have hu := h2 u (by simp)
    have hv := h2 v (by simp)
    rw [pathK_joined hr hu hv, pathK_joined hr hv hu, joinedB_symm]
  · rw [if_neg h, if_neg h]
/-- What is known where there is a path. -/
theorem path_known {V : List Int} {E : List Ed} {u v : Int} (h : pathErr V E u v = 0) : chkV V E [u, v] = 0 ∧ Right V E ∧ u ∈ V ∧ v ∈ V ∧ pathK V E u v = true ∧ joinedB V E u v = true := by
  obtain ⟨h1, h2⟩ := pathErr_zero h
  obtain ⟨h3, h4⟩ := chk_zero h1
  have hr := right_of h3
  have hu := h4 u (by simp)
  have hv := h4 v (by simp)
  exact ⟨h1, hr, hu, hv, h2, by rw [← pathK_joined hr hu hv]; exact h2⟩
/-- .. where there is none, though all is right. -/
theorem path_none {V : List Int} {E : List Ed} {u v : Int} (h : pathErr V E u v ≠ 0) (hc : chkV V E [u, v] = 0) : joinedB V E u v = false := by
  obtain ⟨h3, h4⟩ := chk_zero hc
  have hr := right_of h3
  rw [← pathK_joined hr (h4 u (by simp)) (h4 v (by simp))]
  unfold pathErr at h
  rw [if_pos hc] at h
  cases hk : pathK V E u v with
  | false => rfl
  | true => rw [hk] at h; exact absurd rfl h

theorem RK.take {α : Type} {enc : α → List Value} {k : Nat} {w : World} {B c : Nat} {A : Option Addr} {n : Nat} {xs : List α} (h : RK enc k w B (.slice A n c) xs) (i : Nat) (hi : i ≤ n) : RK enc k w B (.slice A i c) (xs.take i) := by
  obtain ⟨h1, A', c', hv, h3, h4, h5⟩ := h
  injection hv with e1 e2 e3
  subst e1 e2 e3
  have hl : (xs.take i).length = i := by rw [List.length_take]; omega
  refine ⟨by rw [hl]; exact Nat.le_trans (Nat.mul_le_mul_right k hi) h1, A, c, by rw [hl], by omega, h4, ?_⟩
  rcases h5 with rfl | ⟨b, off, rfl, hb, hc⟩
  · exact .inl (by simp)
  · refine .inr ⟨b, off, rfl, hb, fun j x hj u hu => hc j x ?_ u hu⟩
    rw [List.getElem?_take] at hj
    split at hj
    · exact hj
    · cases hj

theorem most_next (p : List Ed) (k : Nat) (hk : k < p.length) (h0 : 0 < k) : mostL (p.take (k + 1)) = if ltW (mostL (p.take k)) p[k] = true then p[k] else mostL (p.take k) := by
  have h1 : p.take k ≠ [] := by intro e; have := congrArg List.length e; rw [List.length_take_of_le (by omega)] at this; simp at this; omega
  rw [List.take_succ_eq_append_getElem hk, mostL_snoc _ _ h1, ltW_cfW]
  simp only [decide_eq_true_eq]
theorem most_first (p : List Ed) (hk : 0 < p.length) : mostL (p.take 1) = p[0] := by
  rw [List.take_succ_eq_append_getElem hk, List.take_zero, List.nil_append, mostL_one]
theorem not_before {xs : List Int} (h : xs.Nodup) (k : Nat) (hk : k < xs.length) : (xs.take k).contains xs[k] = false := by
  rw [Bool.eq_false_iff]
  intro hc
  have hc : xs[k] ∈ xs.take k := by simpa using hc
  obtain ⟨j, hj, he⟩ := List.getElem_of_mem hc
  have hjk : j < k := by rw [List.length_take] at hj; omega
  rw [List.getElem_take] at he
  exact absurd he (List.pairwise_iff_getElem.1 h j k (by omega) hk hjk)

/-- What Along answers, opened. -/
theorem along_open (p : List Ed) : ∃ (m : Ed) (re im : Nat) (g : Int), alongT p = .tuple #[.agg #[.int .i64 m.id, .int .i64 m.u, .int .i64 m.v, .int .i64 m.w, .complex .f64 re im], .int .i64 g] ∧
    ((70368744177664 < sumN p ∧ g = 62) ∨ (¬ 70368744177664 < sumN p ∧ g = 0 ∧ m = mostL p ∧ re = fl (sumN p) ∧ im = fl p.length)) := by
  unfold alongT
  by_cases h : 70368744177664 < sumN p
  · rw [if_pos h]
    exact ⟨⟨0, 0, 0, 0⟩, 0, 0, 62, rfl, .inl ⟨h, rfl⟩⟩
  · rw [if_neg h]
    exact ⟨mostL p, _, _, 0, rfl, .inr ⟨h, rfl, rfl, rfl, rfl⟩⟩
end Go.Proofs.YtcdockoflkmkmaaGreat
