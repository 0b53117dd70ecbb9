/-
  The walk of TreapSeams.
-/
import Derived.Test.YtbbfnbnjaiimgaaRP39
namespace Go.Proofs.Ytbbfnbnjaiimgaa
open Go.RowKit
set_option linter.unusedVariables false

/-- What cutting a row and joining it again tells. -/
structure Seam (M : RM SV) (i : Nat) (P : List Nat) (p : Nat) (Q : List Nat) : Prop where
  row : M.rowOf i = P ++ i :: Q
  head : (M.rowOf i)[0]? = some p
  cutI : (M.cutA (i : Int)).rowA (i : Int) = i :: Q
  cutE : (M.cutA (i : Int)).errA (i : Int) = 0
  cutX : (M.cutA (i : Int)).indexA (i : Int) = 0
  joinE : P ≠ [] → (M.cutA (i : Int)).joinE (p : Int) (i : Int) = 0
  backR : ((if P = [] then M.cutA (i : Int) else (M.cutA (i : Int)).joinA (p : Int) (i : Int))).rowA (i : Int) = M.rowOf i
  backE : ((if P = [] then M.cutA (i : Int) else (M.cutA (i : Int)).joinA (p : Int) (i : Int))).errA (i : Int) = 0
  backO : ((if P = [] then M.cutA (i : Int) else (M.cutA (i : Int)).joinA (p : Int) (i : Int))).Ok
  backK : (if P = [] then M.cutA (i : Int) else (M.cutA (i : Int)).joinA (p : Int) (i : Int)).own.length = M.own.length

theorem seam_of {M : RM SV} (h : M.Ok) {i : Nat} (hi : 1 ≤ i ∧ i ≤ M.own.length) : ∃ P p Q, Seam M i P p Q := by
  have hr := row_part h hi
  obtain ⟨P, hP⟩ : ∃ P, P = (M.rowOf i).take ((M.rowOf i).idxOf i) := ⟨_, rfl⟩
  obtain ⟨Q, hQ⟩ : ∃ Q, Q = (M.rowOf i).drop ((M.rowOf i).idxOf i + 1) := ⟨_, rfl⟩
  rw [← hP, ← hQ] at hr
  clear hP hQ
  have hc : M.cutA (i : Int) = M.cut i := cutA_nat hi
  have hi' : 1 ≤ i ∧ i ≤ (M.cut i).own.length := hi
  have r1 : (M.cut i).rowOf i = i :: Q := rowOf_cut h hi hr (by simp)
  cases P with
  | nil =>
    refine ⟨[], i, Q, hr, by rw [hr]; rfl, by rw [hc, rowA_nat hi', r1], by rw [hc]; exact errA_nat hi', by rw [hc]; exact indexA_head hi' r1, fun e => absurd rfl e, ?_, ?_, ?_, ?_⟩
    · rw [if_pos rfl, hc, rowA_nat hi', r1, hr]; rfl
    · rw [if_pos rfl, hc]; exact errA_nat hi'
    · rw [if_pos rfl, hc]; exact ok_cut h i
    · rw [if_pos rfl, hc]; rfl
  | cons p P' =>
    obtain ⟨k1, k2, k3⟩ := cut_join h hi hr
    have hp' : 1 ≤ p ∧ p ≤ (M.cut i).own.length := k2
    obtain ⟨j1, j2⟩ := joinA_nat hp' hi' k1
    have hi2 : 1 ≤ i ∧ i ≤ ((M.cut i).join p i).own.length := hi
    refine ⟨p :: P', p, Q, hr, by rw [hr]; rfl, by rw [hc, rowA_nat hi', r1], by rw [hc]; exact errA_nat hi', by rw [hc]; exact indexA_head hi' r1, fun _ => by rw [hc]; exact j1, ?_, ?_, ?_, ?_⟩
    · rw [if_neg (by simp), hc, j2, rowA_nat hi2, k3]
    · rw [if_neg (by simp), hc, j2]; exact errA_nat hi2
    · rw [if_neg (by simp), hc, j2]; exact ok_join (ok_cut h i) hp' hi' k1
    · rw [if_neg (by simp), hc, j2]; rfl

/-- .. and joining two rows and cutting them at the seam. -/
theorem seam2 {M : RM SV} (h : M.Ok) {i j : Nat} (hi : 1 ≤ i ∧ i ≤ M.own.length) (hj : 1 ≤ j ∧ j ≤ M.own.length) (hne : M.sameA (i : Int) (j : Int) = false) :
    ∃ o : Nat, (M.rowOf j)[0]? = some o ∧ M.joinE (i : Int) (j : Int) = 0 ∧ (M.joinA (i : Int) (j : Int)).errA (o : Int) = 0 ∧ ((M.joinA (i : Int) (j : Int)).cutA (o : Int)).rowA (i : Int) = M.rowA (i : Int) ∧ ((M.joinA (i : Int) (j : Int)).cutA (o : Int)).rowA (j : Int) = M.rowA (j : Int) := by
  have hne2 : M.rowOf i ≠ M.rowOf j := by rw [sameA_nat hi hj] at hne; simpa using hne
  obtain ⟨e1, e2⟩ := joinA_nat hi hj hne2
  obtain ⟨o, O, ho⟩ : ∃ o O, M.rowOf j = o :: O := by
    cases hr : M.rowOf j with
    | nil => exact absurd hr (h.ne _ (row_mem h hj).1)
    | cons o O => exact ⟨o, O, rfl⟩
  obtain ⟨k1, k2, k3⟩ := join_cut h hi hj hne2 ho
  have ho' : 1 ≤ o ∧ o ≤ (M.join i j).own.length := k1
  have hi' : 1 ≤ i ∧ i ≤ ((M.join i j).cut o).own.length := hi
  have hj' : 1 ≤ j ∧ j ≤ ((M.join i j).cut o).own.length := hj
  refine ⟨o, by rw [ho]; rfl, e1, ?_, ?_, ?_⟩
  · rw [e2]; exact errA_nat ho'
  · rw [e2, cutA_nat ho', rowA_nat hi', rowA_nat hi, k2]
  · rw [e2, cutA_nat ho', rowA_nat hj', rowA_nat hj, k3]

theorem same_rows {M : RM SV} {i j : Nat} (hi : 1 ≤ i ∧ i ≤ M.own.length) (hj : 1 ≤ j ∧ j ≤ M.own.length) (h : M.sameA (i : Int) (j : Int) = true) : M.rowA (j : Int) = M.rowA (i : Int) := by
  rw [sameA_nat hi hj] at h
  rw [rowA_nat hi, rowA_nat hj]
  have : M.rowOf i = M.rowOf j := by simpa using h
  exact this.symm

/-- The end of a row, as a slice. -/
theorem RK.dropTo {α : Type} {enc : α → List Value} {k : Nat} {w : World} {B n c b o : Nat} {xs : List α} (h : RK enc k w B (.slice (some ⟨b, o, none⟩) n c) xs) (m : Nat) (hm : m ≤ n) : RK enc k w B (.slice (some ⟨b, o + m * k, none⟩) (n - m) (c - m)) (xs.drop m) := by
  obtain ⟨A, c', e, h1, h2, h3, h4⟩ := h.open_
  injection e with e1 e2 e3
  subst e1 e2 e3
  refine ⟨?_, some ⟨b, o + m * k, none⟩, c - m, by rw [List.length_drop], by rw [List.length_drop]; omega, by omega, ?_⟩
  · rw [List.length_drop]
    exact Nat.le_trans (Nat.mul_le_mul_right k (Nat.sub_le _ _)) h3
  · by_cases hx : xs = []
    · exact .inl (by rw [hx]; simp)
    · have hl : 0 < xs.length := List.length_pos_iff.2 hx
      obtain ⟨b', o', e', hb, _⟩ := h4.out 0 hl
      injection e' with e'
      injection e' with e1 e2
      subst e1 e2
      refine .inr ⟨b, o + m * k, rfl, hb, fun i x hi j u hu => ?_⟩
      rw [List.getElem?_drop] at hi
      have hlt := (List.getElem?_eq_some_iff.1 hi).1
      obtain ⟨b2, o2, e2, _, hc⟩ := h4.out (m + i) hlt
      injection e2 with e2
      injection e2 with e3 e4
      subst e3 e4
      have hxe : xs[m + i] = x := (List.getElem?_eq_some_iff.1 hi).2
      rw [hxe] at hc
      have := hc j u hu
      rw [Nat.add_mul] at this
      rw [show o + m * k + i * k + j = o + (m * k + i * k) + j by omega]
      exact this

end Go.Proofs.Ytbbfnbnjaiimgaa
