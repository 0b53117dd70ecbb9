/-
  A rope's rows as they lie, whatever their order. No walk of code.
-/
import Derived.Test.YtlakcldgolpaiaaEW3
namespace Go.Proofs.Ytlakcldgolpaiaa
set_option linter.unusedVariables false

theorem row_split {a : Nat} : ∀ {xs : List Nat}, a ∈ xs → ∃ P Q, xs = P ++ a :: Q ∧ a ∉ P
  | x :: xs, h => by
    by_cases e : x = a
    · subst e; exact ⟨[], xs, rfl, by simp⟩
    · have h2 : a ∈ xs := by rcases List.mem_cons.1 h with h | h; exact absurd h.symm e; exact h
      obtain ⟨P, Q, rfl, hP⟩ := row_split h2
      exact ⟨x :: P, Q, rfl, fun h => by rcases List.mem_cons.1 h with h | h; exact e h.symm; exact hP h⟩

section

variable {V : Type} {M : RM V} {R : List (List Nat)} {X Y : List Nat} {a b : Nat}

theorem perm_row (h : M.Ok) (hp : M.rows.Perm (X :: R)) (ha : a ∈ X) : M.rowOf a = X := (row_unique h (hp.mem_iff.2 (List.mem_cons_self ..)) ha).symm

theorem perm_known (h : M.Ok) (hp : M.rows.Perm (X :: R)) (ha : a ∈ X) : 1 ≤ a ∧ a ≤ M.own.length := row_known h (hp.mem_iff.2 (List.mem_cons_self ..)) ha

theorem perm_nd (h : M.Ok) (hp : M.rows.Perm R) : R.flatten.Nodup := ((perm_flatten hp).nodup_iff).1 h.nd

theorem perm_apart (h : M.Ok) (hp : M.rows.Perm (X :: R)) (ha : a ∈ X) : ∀ xs ∈ R, a ∉ xs := by
  have := perm_nd h hp
  rw [List.flatten_cons] at this
  intro xs hx hm
  exact (List.nodup_append.1 this).2.2 a ha a (List.mem_flatten.2 ⟨xs, hx, hm⟩) rfl

theorem perm_ne (h : M.Ok) (hp : M.rows.Perm (X :: Y :: R)) (ha : a ∈ X) (hb : b ∈ Y) : M.rowOf a ≠ M.rowOf b := by
  rw [perm_row h hp ha, perm_row h (hp.trans (List.Perm.swap _ _ _)) hb]
  intro e
  exact perm_apart h hp ha Y (List.mem_cons_self ..) (e ▸ ha)

theorem joinP (h : M.Ok) (hp : M.rows.Perm (X :: Y :: R)) (ha : a ∈ X) (hb : b ∈ Y) : (M.join a b).rows.Perm ((X ++ Y) :: R) := by
  have hp2 := hp.trans (List.Perm.swap _ _ _)
  unfold RM.join
  rw [perm_row h hp ha, perm_row h hp2 hb]
  refine List.perm_append_comm.trans ?_
  show ((X ++ Y) :: _).Perm _
  refine List.Perm.cons _ ?_
  refine (hp.filter _).trans ?_
  rw [List.filter_cons_of_neg (by simp [ha]), List.filter_cons_of_neg (by simp [hb]), List.filter_eq_self.2]
  intro xs hx
  have h1 := perm_apart h hp ha xs (List.mem_cons_of_mem _ hx)
  have h2 := perm_apart h hp2 hb xs (List.mem_cons_of_mem _ hx)
  simp [h1, h2]

theorem cutP (h : M.Ok) {P Q : List Nat} (hp : M.rows.Perm ((P ++ a :: Q) :: R)) (hP : P ≠ []) : (M.cut a).rows.Perm (P :: (a :: Q) :: R) := by
  unfold RM.cut
  have ha : a ∈ P ++ a :: Q := by simp
  have hnd := row_nodup h (hp.mem_iff.2 (List.mem_cons_self ..))
  refine (hp.flatMap_right _).trans ?_
  rw [List.flatMap_cons]
  have e1 : cutRow a (P ++ a :: Q) = [P, a :: Q] := by rw [cutRow_at rfl hnd, if_neg hP]
  have e2 : R.flatMap (cutRow a) = R := by
    have : ∀ L : List (List Nat), (∀ xs ∈ L, a ∉ xs) → L.flatMap (cutRow a) = L := by
      intro L
      induction L with
      | nil => intro _; rfl
      | cons x L ih =>
        intro hx
        rw [List.flatMap_cons, ih (fun xs hxs => hx xs (List.mem_cons_of_mem _ hxs))]
        unfold cutRow
        rw [if_neg (hx x (List.mem_cons_self ..))]
        rfl
    exact this R (perm_apart h hp ha)
  rw [e1, e2]
  exact List.Perm.refl _

theorem makeP (M : RM V) (v : V) : (M.make v).rows.Perm ([M.own.length + 1] :: M.rows) := by
  unfold RM.make
  exact List.perm_append_comm

end

end Go.Proofs.Ytlakcldgolpaiaa
