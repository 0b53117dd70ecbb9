/-
  A forest in plain words: a rope's rows are closed walks, or places that are nobody's. Turning a walk, linking two, cutting one. No walk of code.
-/
import Derived.Test.YtlakcldgolpaiaaEW4
namespace Go.Proofs.Ytlakcldgolpaiaa
set_option linter.unusedVariables false

def tok (who : List Tok) (a : Nat) : Tok := who.getD a (false, 0)

def lone (free : List Nat) : List (List Nat) := free.map fun a => [a]

/-- A forest: its rope's rows are the walks W and the free places. -/
structure FOk {V : Type} (M : RM V) (pv : Int → Option Nat) (pe : Int → Option (Nat × Nat)) (who : List Tok) (free : List Nat) (edges : List Edg) (W : List (List Nat)) : Prop where
  ok : M.Ok
  len : who.length = M.own.length + 1
  rows : M.rows.Perm (W ++ lone free)
  tour : ∀ xs ∈ W, ∃ es, Tour (xs.map (tok who)) es ∧ ∀ e ∈ es, e ∈ edges
  nd : (ids edges).Nodup
  vert : ∀ v a, pv v = some a ↔ a ∈ W.flatten ∧ tok who a = vt v
  edge : ∀ id a b, pe id = some (a, b) → a ≠ b ∧ a ∈ W.flatten ∧ b ∈ W.flatten ∧ tok who a = et id ∧ tok who b = et id
  only : ∀ a ∈ W.flatten, ∀ id, tok who a = et id → ∃ b c, pe id = some (b, c) ∧ (a = b ∨ a = c)
  has : ∀ id, id ∈ ids edges ↔ pe id ≠ none

section

variable {V : Type} {M M' : RM V} {pv : Int → Option Nat} {pe : Int → Option (Nat × Nat)} {who : List Tok} {free : List Nat} {edges : List Edg} {W W' : List (List Nat)} {xs : List Nat} {a : Nat}

theorem FOk.row (h : FOk M pv pe who free edges W) (hx : xs ∈ W) (ha : a ∈ xs) : M.rowOf a = xs ∧ 1 ≤ a ∧ a ≤ M.own.length := by
  have hm : xs ∈ M.rows := h.rows.mem_iff.2 (List.mem_append_left _ hx)
  exact ⟨(row_unique h.ok hm ha).symm, row_known h.ok hm ha⟩

theorem FOk.rowNd (h : FOk M pv pe who free edges W) : (W ++ lone free).flatten.Nodup := perm_nd h.ok h.rows

/-- Other rows with the same places. -/
theorem FOk.rerow (h : FOk M pv pe who free edges W) (hok : M'.Ok) (hlen : M'.own.length = M.own.length) (hr : M'.rows.Perm (W' ++ lone free)) (hm : ∀ a, a ∈ W'.flatten ↔ a ∈ W.flatten) (ht : ∀ xs ∈ W', ∃ es, Tour (xs.map (tok who)) es ∧ ∀ e ∈ es, e ∈ edges) : FOk M' pv pe who free edges W' :=
  ⟨hok, by rw [hlen]; exact h.len, hr, ht, h.nd, fun v a => by rw [hm]; exact h.vert v a, fun id a b e => by rw [hm, hm]; exact h.edge id a b e, fun a ha id e => h.only a ((hm a).1 ha) id e, h.has⟩

theorem FOk.perm (h : FOk M pv pe who free edges W) (hp : W.Perm W') : FOk M pv pe who free edges W' :=
  h.rerow h.ok rfl (h.rows.trans (hp.append_right _)) (fun a => (perm_flatten hp).symm.mem_iff) (fun xs hx => h.tour xs (hp.mem_iff.2 hx))

/-- A walk begins at a place of its own from now on. -/
def turnM (M : RM V) (a : Nat) : RM V := if (M.rowOf a).head? = some a then M else (M.cut a).join a ((M.rowOf a).headD 0)

theorem turn_own (M : RM V) (a : Nat) : (turnM M a).own = M.own := by unfold turnM; split <;> rfl

theorem FOk.turn (h : FOk M pv pe who free edges (xs :: W)) (ha : a ∈ xs) : ∃ Z P Q, xs = P ++ a :: Q ∧ Z = Q ++ P ∧ FOk (turnM M a) pv pe who free edges ((a :: Z) :: W) := by
  obtain ⟨hr, hk⟩ := h.row (List.mem_cons_self ..) ha
  have hpart := row_split ha
  obtain ⟨P, Q, rfl, hna⟩ := hpart
  cases P with
  | nil =>
    refine ⟨Q, [], Q, rfl, by simp, ?_⟩
    have : turnM M a = M := by unfold turnM; rw [hr]; simp
    rw [this]
    exact h
  | cons x P =>
    have hxa : x ≠ a := fun e => hna (by rw [e]; simp)
    have e1 : turnM M a = (M.cut a).join a x := by
      unfold turnM
      rw [hr, if_neg (by simp [hxa])]
      rfl
    have hp : M.rows.Perm (((x :: P) ++ a :: Q) :: (W ++ lone free)) := h.rows
    have hc := cutP h.ok hp (by simp)
    have hcok := ok_cut h.ok a
    have hc2 := hc.trans (List.Perm.swap _ _ _)
    have hj := joinP hcok hc2 (a := a) (b := x) (by simp) (by simp)
    have hjok : ((M.cut a).join a x).Ok := ok_join hcok (perm_known hcok hc2 (by simp)) (perm_known hcok hc (by simp)) (perm_ne hcok hc2 (by simp) (by simp))
    refine ⟨Q ++ x :: P, x :: P, Q, rfl, rfl, ?_⟩
    rw [e1]
    refine h.rerow hjok rfl (by simpa using hj) (fun b => ?_) (fun ys hy => ?_)
    · simp only [List.flatten_cons, List.mem_append, List.mem_cons]
      grind
    · rcases List.mem_cons.1 hy with rfl | hy
      · obtain ⟨es, h1, h2⟩ := h.tour _ (List.mem_cons_self ..)
        refine ⟨es, ?_, h2⟩
        rw [List.map_append] at h1
        have := Tour.turn h1
        simpa using this
      · exact h.tour ys (List.mem_cons_of_mem _ hy)

end

end Go.Proofs.Ytlakcldgolpaiaa
