/-
  In a forest there is one way alone between two nodes.
-/
import Derived.Test.YtlhkajlkapoabaaLK18
namespace Go.Proofs.Ytlhkajlkapoabaa
set_option linter.unusedVariables false

theorem snoc_or {l : List Nat} : l = [] ∨ ∃ k d, l = k ++ [d] := by
  by_cases h : l = []
  · exact .inl h
  · exact .inr ⟨_, _, (List.dropLast_concat_getLast h).symm⟩

theorem Nxt.cons {l : List Nat} {a b : Nat} (c : Nat) (h : Nxt l a b) : Nxt (c :: l) a b := by
  obtain ⟨s, t, e⟩ := h
  exact ⟨c :: s, t, by rw [e]; rfl⟩

/-- A way from a root leads down. -/
theorem way_down {P : Nat → Option Nat} : ∀ (t : List Nat) (x : Nat) (u : Option Nat), P x = u → (∀ g, u = some g → g ∉ t) → (x :: t).Nodup → (∀ y z, Nxt (x :: t) y z → Adj P y z) → Line P u (x :: t)
  | [], x, u, h, _, _, _ => ⟨h, trivial⟩
  | y :: t, x, u, h, hu, hn, hx => by
    have h1 := hx x y ⟨[], t, rfl⟩
    have h2 : P y = some x := by
      rcases h1 with e | e
      · exact absurd (List.mem_cons_self ..) (hu y (h.symm.trans e))
      · exact e
    obtain ⟨n1, n2⟩ := List.nodup_cons.1 hn
    refine ⟨h, way_down t y (some x) h2 ?_ n2 fun a b hab => hx a b (hab.cons x)⟩
    intro g hg hm
    injection hg with hg
    subst hg
    exact n1 (List.mem_cons_of_mem _ hm)

/-- A line up to a root is the only one. -/
theorem line_one {P : Nat → Option Nat} : ∀ (k : Nat) (s s' : List Nat) (b : Nat), s.length = k → Line P none (s ++ [b]) → Line P none (s' ++ [b]) → s = s' := by
  intro k
  induction k with
  | zero =>
    intro s s' b hk h h'
    have hs : s = [] := List.length_eq_zero_iff.1 hk
    subst hs
    rcases snoc_or (l := s') with e | ⟨m, d, e⟩
    · exact e.symm
    · exfalso
      rw [e, List.append_assoc] at h'
      have h1 : P b = some d := (line_append.1 h').2.1
      have h2 : P b = none := h.1
      rw [h2] at h1
      cases h1
  | succ k ih =>
    intro s s' b hk h h'
    rcases snoc_or (l := s) with e | ⟨m, d, e⟩
    · rw [e] at hk; cases hk
    · rw [e, List.append_assoc] at h
      have h1 : P b = some d := (line_append.1 h).2.1
      rcases snoc_or (l := s') with e' | ⟨m', d', e'⟩
      · exfalso
        rw [e'] at h'
        have h2 : P b = none := h'.1
        rw [h2] at h1
        cases h1
      · rw [e', List.append_assoc] at h'
        have h2 : P b = some d' := (line_append.1 h').2.1
        rw [h1] at h2
        injection h2 with h2
        subst h2
        have hm : m.length = k := by rw [e] at hk; simpa using hk
        have := ih m m' d hm (line_append.1 h).1 (line_append.1 h').1
        rw [e, e', this]

/-- The line from the root to a node. -/
theorem root_line {P : Nat → Option Nat} {rk : Nat → Nat} (hr : Ranks P rk) (a : Nat) : ∃ l, Line P none (l ++ [a]) ∧ (l ++ [a]).Nodup ∧ ∀ x ∈ l, rk x < rk a := by
  induction ranks_acc hr a with
  | intro a _ ih =>
    cases ha : P a with
    | none => exact ⟨[], ⟨ha, trivial⟩, by simp, by simp⟩
    | some g =>
      obtain ⟨l, h1, h2, h3⟩ := ih g ha
      have hg := hr a g ha
      have hlt : ∀ x ∈ l ++ [g], rk x < rk a := fun x hx => by
        rcases List.mem_append.1 hx with hx | hx
        · have := h3 x hx; omega
        · rw [List.mem_singleton.1 hx]; exact hg
      refine ⟨l ++ [g], ?_, ?_, hlt⟩
      · rw [List.append_assoc]
        exact line_append.2 ⟨h1, ha, trivial⟩
      · refine List.nodup_append.2 ⟨h2, by simp, fun x hx y hy e => ?_⟩
        rw [List.mem_singleton.1 hy] at e
        have := hlt x hx
        rw [e] at this
        exact Nat.lt_irrefl _ this

/-- The same tree with another root. -/
theorem reroot {P : Nat → Option Nat} (h : ∃ rk, Ranks P rk) (a : Nat) : ∃ Q : Nat → Option Nat, Q a = none ∧ ∀ x y, Adj Q x y ↔ Adj P x y := by
  obtain ⟨rk, hr⟩ := h
  obtain ⟨l, h1, h2, -⟩ := root_line hr a
  have e : (l ++ [a]).reverse = a :: l.reverse := by simp
  have hnd : (a :: l.reverse).Nodup := by rw [← e]; exact (List.reverse_perm _).nodup_iff.2 h2
  have hl : Line P none (a :: l.reverse).reverse := by rw [← e, List.reverse_reverse]; exact h1
  exact ⟨lineP P none (a :: l.reverse), (lineP_line (P := P) (u := none) hnd).1, adj_lead hnd hl⟩

theorem way_one {P : Nat → Option Nat} (h : ∃ rk, Ranks P rk) {a b : Nat} {L L' : List Nat} (w : Way (Adj P) a b L) (w' : Way (Adj P) a b L') : L = L' := by
  obtain ⟨Q, hq, ha⟩ := reroot h a
  have k : ∀ L, Way (Adj P) a b L → Line Q none L := fun L w => by
    obtain ⟨t, e⟩ := w.first
    have hn := w.nodup
    have hx := w.next
    rw [e] at hn hx ⊢
    exact way_down t a none hq (fun g hg => by cases hg) hn fun x y hxy => (ha x y).2 (hx x y hxy)
  obtain ⟨s, e⟩ := w.last
  obtain ⟨s', e'⟩ := w'.last
  have k1 := k L w
  have k2 := k L' w'
  rw [e] at k1
  rw [e'] at k2
  rw [e, e', line_one _ s s' b rfl k1 k2]

end Go.Proofs.Ytlhkajlkapoabaa
