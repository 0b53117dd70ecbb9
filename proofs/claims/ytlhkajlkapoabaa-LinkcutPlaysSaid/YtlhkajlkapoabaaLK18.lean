/-
  The path that reaches lays bare, and what its last node tells of it.
-/
import Derived.Test.YtlhkajlkapoabaaLK17
namespace Go.Proofs.Ytlhkajlkapoabaa
open Go.RowKit Go.Maps
set_option linter.unusedVariables false

/-- A way from a to b that meets no node twice. -/
structure Way (R : Nat → Nat → Prop) (a b : Nat) (L : List Nat) : Prop where
  nodup : L.Nodup
  first : ∃ t, L = a :: t
  last : ∃ s, L = s ++ [b]
  next : ∀ x y, Nxt L x y → R x y

theorem nxt_mem {l : List Nat} {a b : Nat} (h : Nxt l a b) : a ∈ l ∧ b ∈ l := by
  obtain ⟨s, t, e⟩ := h
  rw [e]
  simp

/-- A line that meets a root starts there. -/
theorem line_first {P : Nat → Option Nat} {n : Nat} {l : List Nat} (h : Line P none l) (hn : P n = none) (hm : n ∈ l) : ∃ t, l = n :: t := by
  obtain ⟨s, t, e⟩ := List.append_of_mem hm
  cases hs : s with
  | nil => exact ⟨t, by rw [e, hs]; rfl⟩
  | cons c s' =>
    exfalso
    have hc := List.dropLast_concat_getLast (show s ≠ [] by rw [hs]; simp)
    obtain ⟨k, d, e2⟩ : ∃ k d, s = k ++ [d] := ⟨_, _, hc.symm⟩
    rw [e, e2, List.append_assoc] at h
    have h1 : P n = some d := (line_append.1 h).2.1
    rw [hn] at h1
    cases h1

/-- The chain that lies bare behind reaches. -/
theorem ToD.way {S : Nat → Prop} {P : Nat → Option Nat} {w0 w : World} {N N' : Nat → NdL} {K K' : List (ST × Option Nat)} {n z : Nat} {B A : ST} {P1 : Nat → Option Nat} (D : ToD S P w0 N K n z w B P1 N' K' A) (hB : (n :: B.list).Nodup) (ha : Anc P1 n z) :
    Way (Adj P) n z (A.list ++ [z]) ∧ TD (N' z) (eds N (A.list ++ [z])) := by
  have hl := D.fs.line _ (List.mem_cons_self ..)
  have e : (ST.node A z false .nil).list = A.list ++ [z] := by simp [ST.list]
  rw [e] at hl
  have hz : z ∈ A.list ++ [z] := by simp
  have hm := line_anc_mem hl ha hz
  have hnd : (A.list ++ [z]).Nodup := by
    rw [← e]
    exact (ST.perm_flat _).nodup_iff.2 D.fs.ctx.nodup
  refine ⟨⟨hnd, line_first hl D.root hm, ⟨_, rfl⟩, fun x y h => ?_⟩, ?_⟩
  · have k : Adj P1 x y := .inr (line_nxt hl h)
    rw [D.turn] at k
    exact (adj_lead hB D.line x y).1 k
  · have k := (D.fs.told _ (List.mem_cons_self ..)).1
    have hp := ST.perm_flat (.node A z false .nil)
    rw [e] at hp
    rw [eds_far (N := N) fun b _ => (D.same b).1] at k
    exact k.perm (hp.symm.map _)

/-- What lead's way is made of has no node twice. -/
theorem ToD.nodupB {S : Nat → Prop} {P : Nat → Option Nat} {w0 w1 w2 : World} {N N1 : Nat → NdL} {K K1 : List (ST × Option Nat)} {n : Nat} {B : ST} (L : LdD S P w0 N K n w1 N1 K1 B) : (n :: B.list).Nodup := by
  have e : (ST.node .nil n false B).list = n :: B.list := by simp [ST.list]
  rw [← e]
  exact (ST.perm_flat _).nodup_iff.2 L.fs.ctx.nodup

end Go.Proofs.Ytlhkajlkapoabaa
