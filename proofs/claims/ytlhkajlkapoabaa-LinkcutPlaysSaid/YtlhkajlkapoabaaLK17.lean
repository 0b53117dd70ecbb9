/-
  Next to one another: what lead, link and cut do to a forest that has no root.
-/
import Derived.Test.YtlhkajlkapoabaaLK16
namespace Go.Proofs.Ytlhkajlkapoabaa
set_option linter.unusedVariables false

/-- Two nodes are next to one another. -/
def Adj (P : Nat → Option Nat) (a b : Nat) : Prop := P a = some b ∨ P b = some a

theorem Adj.symm {P : Nat → Option Nat} {a b : Nat} (h : Adj P a b) : Adj P b a := Or.symm h

/-- b comes right behind a. -/
def Nxt (l : List Nat) (a b : Nat) : Prop := ∃ s t, l = s ++ a :: b :: t

theorem Nxt.rev {l : List Nat} {a b : Nat} (h : Nxt l a b) : Nxt l.reverse b a := by
  obtain ⟨s, t, e⟩ := h
  exact ⟨t.reverse, s.reverse, by rw [e]; simp⟩

theorem line_nxt {P : Nat → Option Nat} {l : List Nat} {u : Option Nat} (h : Line P u l) {a b : Nat} (hn : Nxt l a b) : P b = some a := by
  obtain ⟨s, t, e⟩ := hn
  rw [e] at h
  exact (line_append.1 h).2.1

theorem nxt_line {P : Nat → Option Nat} {l : List Nat} {u : Option Nat} (h : Line P u l) {a b : Nat} (hb : b ∈ l) (ha : P b = some a) : Nxt l a b ∨ u = some a := by
  obtain ⟨s, t, e⟩ := List.append_of_mem hb
  cases hs : s with
  | nil =>
    rw [e, hs] at h
    exact .inr (h.1.symm.trans ha)
  | cons c s' =>
    have hc := List.dropLast_concat_getLast (show s ≠ [] by rw [hs]; simp)
    obtain ⟨k, d, e2⟩ : ∃ k d, s = k ++ [d] := ⟨_, _, hc.symm⟩
    rw [e, e2, List.append_assoc] at h
    have h1 : P b = some d := (line_append.1 h).2.1
    rw [ha] at h1
    injection h1 with h1
    subst h1
    exact .inl ⟨k, t, by rw [e, e2, List.append_assoc]; rfl⟩

/-- A tree that takes another root stays the same tree. -/
theorem adj_lead {P : Nat → Option Nat} {l : List Nat} (hn : l.Nodup) (h : Line P none l.reverse) (a b : Nat) : Adj (lineP P none l) a b ↔ Adj P a b := by
  have hq : Line (lineP P none l) none l := lineP_line hn
  have k1 : ∀ a b, lineP P none l a = some b → Adj P a b := fun a b e => by
    by_cases ha : a ∈ l
    · rcases nxt_line hq ha e with hx | hx
      · exact .inr (line_nxt h hx.rev)
      · cases hx
    · rw [lineP_off ha] at e
      exact .inl e
  have k2 : ∀ a b, P a = some b → Adj (lineP P none l) a b := fun a b e => by
    by_cases ha : a ∈ l
    · rcases nxt_line h (List.mem_reverse.2 ha) e with hx | hx
      · have := hx.rev
        rw [List.reverse_reverse] at this
        exact .inr (line_nxt hq this)
      · cases hx
    · exact .inl ((lineP_off ha).trans e)
  constructor
  · rintro (e | e)
    · exact k1 a b e
    · exact (k1 b a e).symm
  · rintro (e | e)
    · exact k2 a b e
    · exact (k2 b a e).symm

/-- A root that hangs on a node is next to it, and else nothing is new. -/
theorem adj_graft {P : Nat → Option Nat} {n z : Nat} (hn : P n = none) (a b : Nat) : Adj (setP P n (some z)) a b ↔ Adj P a b ∨ (a = n ∧ b = z) ∨ (a = z ∧ b = n) := by
  have k : ∀ a b, setP P n (some z) a = some b ↔ P a = some b ∨ (a = n ∧ b = z) := fun a b => by
    by_cases ha : a = n
    · subst ha
      rw [setP_same, hn]
      constructor
      · intro e; injection e with e; exact .inr ⟨rfl, e.symm⟩
      · rintro (e | ⟨-, e⟩)
        · cases e
        · rw [e]
    · rw [setP_ne ha]
      constructor
      · exact .inl
      · rintro (e | ⟨e, -⟩)
        · exact e
        · exact absurd e ha
  unfold Adj
  rw [k, k]
  constructor
  · rintro ((h | h) | (h | ⟨h1, h2⟩))
    · exact .inl (.inl h)
    · exact .inr (.inl h)
    · exact .inl (.inr h)
    · exact .inr (.inr ⟨h2, h1⟩)
  · rintro ((h | h) | (h | ⟨h1, h2⟩))
    · exact .inl (.inl h)
    · exact .inr (.inl h)
    · exact .inl (.inr h)
    · exact .inr (.inr ⟨h2, h1⟩)

/-- A node that no longer hangs on the root is next to it no longer, and else nothing is gone. -/
theorem adj_snip {P : Nat → Option Nat} {n z : Nat} (hn : P n = none) (hz : P z = some n) (a b : Nat) : Adj (setP P z none) a b ↔ Adj P a b ∧ ¬ ((a = n ∧ b = z) ∨ (a = z ∧ b = n)) := by
  have hnz : n ≠ z := fun e => by rw [e, hz] at hn; cases hn
  have k : ∀ a b, setP P z none a = some b ↔ P a = some b ∧ a ≠ z := fun a b => by
    by_cases ha : a = z
    · subst ha
      rw [setP_same]
      exact ⟨(fun e => by cases e), (fun e => absurd rfl e.2)⟩
    · rw [setP_ne ha]
      exact ⟨(fun e => ⟨e, ha⟩), (fun e => e.1)⟩
  unfold Adj
  rw [k, k]
  constructor
  · rintro (⟨h1, h2⟩ | ⟨h1, h2⟩)
    · refine ⟨.inl h1, ?_⟩
      rintro (⟨rfl, rfl⟩ | ⟨rfl, rfl⟩)
      · rw [hn] at h1; cases h1
      · exact h2 rfl
    · refine ⟨.inr h1, ?_⟩
      rintro (⟨rfl, rfl⟩ | ⟨rfl, rfl⟩)
      · exact h2 rfl
      · rw [hn] at h1; cases h1
  · rintro ⟨h1 | h1, h2⟩
    · refine .inl ⟨h1, ?_⟩
      rintro rfl
      rw [hz] at h1
      injection h1 with h1
      exact h2 (.inr ⟨rfl, h1.symm⟩)
    · refine .inr ⟨h1, ?_⟩
      rintro rfl
      rw [hz] at h1
      injection h1 with h1
      exact h2 (.inl ⟨h1.symm, rfl⟩)

/-- Two nodes are in one tree. -/
inductive Con (R : Nat → Nat → Prop) : Nat → Nat → Prop
  | refl (a : Nat) : Con R a a
  | step {a b c : Nat} : Con R a b → R b c → Con R a c

theorem Con.trans {R : Nat → Nat → Prop} {a b c : Nat} (h : Con R a b) (h' : Con R b c) : Con R a c := by
  induction h' with
  | refl => exact h
  | step _ e ih => exact .step ih e

theorem anc_con {P : Nat → Option Nat} {a b : Nat} (h : Anc P a b) : Con (Adj P) a b := by
  induction h with
  | refl _ => exact .refl _
  | step _ e ih => exact (Con.step (.refl _) (.inr e)).trans ih

theorem anc_up {P : Nat → Option Nat} {n b : Nat} (h : Anc P n b) : n = b ∨ ∃ c, P b = some c ∧ Anc P n c := by
  induction h with
  | refl _ => exact .inl rfl
  | step h1 e ih =>
    rcases ih with rfl | ⟨c, hc, hh⟩
    · exact .inr ⟨_, e, .refl _⟩
    · exact .inr ⟨c, hc, .step hh e⟩

/-- Whatever is joined with a root is below it. -/
theorem con_anc {P : Nat → Option Nat} {n z : Nat} (hn : P n = none) (h : Con (Adj P) n z) : Anc P n z := by
  induction h with
  | refl => exact .refl _
  | step _ e ih =>
    rcases e with e | e
    · rcases anc_up ih with rfl | ⟨c, hc, hh⟩
      · rw [hn] at e; cases e
      · rw [e] at hc
        injection hc with hc
        exact hc ▸ hh
    · exact ih.trans (.step (.refl _) e)

theorem con_congr {R R' : Nat → Nat → Prop} (hr : ∀ a b, R a b → R' a b) {a b : Nat} (h : Con R a b) : Con R' a b := by
  induction h with
  | refl => exact .refl _
  | step _ e ih => exact .step ih (hr _ _ e)

/-- What reaches tells, in words that know no root. -/
theorem reach_con {P : Nat → Option Nat} {n z : Nat} {l : List Nat} (hnd : (n :: l).Nodup) (h : Line P none (n :: l).reverse) : Anc (lineP P none (n :: l)) n z ↔ Con (Adj P) n z := by
  have hroot : lineP P none (n :: l) n = none := (lineP_line (P := P) (u := none) hnd).1
  constructor
  · exact fun ha => con_congr (fun a b e => (adj_lead hnd h a b).1 e) (anc_con ha)
  · exact fun hc => con_anc hroot (con_congr (fun a b e => (adj_lead hnd h a b).2 e) hc)

end Go.Proofs.Ytlhkajlkapoabaa
