/-
  The chains of a forest, in plain words: K lists the chains' splay trees and what each hangs on; P is what is above a node in its tree.
-/
import Derived.Test.YtlhkajlkapoabaaLK10
namespace Go.Proofs.Ytlhkajlkapoabaa
open Go.RowKit Go.Maps
set_option linter.unusedVariables false

/-- A chain's nodes lead straight away from u. -/
def Line (P : Nat → Option Nat) : Option Nat → List Nat → Prop
  | _, [] => True
  | u, v :: l => P v = u ∧ Line P (some v) l

theorem line_append {P : Nat → Option Nat} : ∀ {l : List Nat} {u : Option Nat} {v : Nat} {m : List Nat}, Line P u (l ++ v :: m) ↔ Line P u (l ++ [v]) ∧ Line P (some v) m
  | [], u, v, m => ⟨fun h => ⟨⟨h.1, trivial⟩, h.2⟩, fun h => ⟨h.1.1, h.2⟩⟩
  | a :: l, u, v, m => by
    show P a = u ∧ Line P (some a) (l ++ v :: m) ↔ (P a = u ∧ Line P (some a) (l ++ [v])) ∧ Line P (some v) m
    rw [line_append (l := l)]
    exact ⟨fun ⟨h1, h2, h3⟩ => ⟨⟨h1, h2⟩, h3⟩, fun ⟨⟨h1, h2⟩, h3⟩ => ⟨h1, h2, h3⟩⟩

/-- Ranks: what is above a node has a smaller one. -/
def Ranks (P : Nat → Option Nat) (rk : Nat → Nat) : Prop := ∀ b g, P b = some g → rk g < rk b

theorem line_rank {P : Nat → Option Nat} {rk : Nat → Nat} (hr : Ranks P rk) : ∀ {l : List Nat} {g : Nat}, Line P (some g) l → ∀ b ∈ l, rk g < rk b
  | [], _, _, b, hb => by simp at hb
  | v :: l, g, ⟨h1, h2⟩, b, hb => by
    have h := hr v g h1
    rcases List.mem_cons.1 hb with rfl | hb
    · exact h
    · exact Nat.lt_trans h (line_rank hr h2 b hb)

def allK (K : List (ST × Option Nat)) : List Nat := K.flatMap fun c => c.1.flat

theorem allK_cons (c : ST × Option Nat) (K : List (ST × Option Nat)) : allK (c :: K) = c.1.flat ++ allK K := rfl

/-- The forest's chains in the nodes N. -/
structure Fs (S : Nat → Prop) (P : Nat → Option Nat) (N : Nat → NdL) (K : List (ST × Option Nat)) : Prop where
  full : ∀ c ∈ K, c.1 ≠ .nil
  part : ∀ b, S b ↔ b ∈ allK K
  nodup : (allK K).Nodup
  laid : ∀ c ∈ K, LaidS (nOf N) c.1 c.2
  told : ∀ c ∈ K, ToldS N c.1
  hang : ∀ c ∈ K, ∀ g, c.2 = some g → S g
  line : ∀ c ∈ K, Line P c.2 c.1.list
  rank : ∃ rk, Ranks P rk
  bs : sumE (eds N (allK K)) < 2 ^ 53
  bk : cntE (eds N (allK K)) < 2 ^ 53

section

variable {S : Nat → Prop} {P : Nat → Option Nat} {N N' : Nat → NdL} {K K' : List (ST × Option Nat)} {c : ST × Option Nat}

theorem eds_sum (N : Nat → NdL) {l l' : List Nat} (h : l.Perm l') : sumE (eds N l) = sumE (eds N l') := sumE_perm (h.map _)

theorem eds_cnt (N : Nat → NdL) {l l' : List Nat} (h : l.Perm l') : cntE (eds N l) = cntE (eds N l') := cntE_perm (h.map _)

theorem allK_perm (h : K.Perm K') : (allK K).Perm (allK K') := h.flatMap_right _

theorem Fs.perm (h : Fs S P N K) (hp : K.Perm K') : Fs S P N K' where
  full c hc := h.full c (hp.mem_iff.2 hc)
  part b := (h.part b).trans (allK_perm hp).mem_iff
  nodup := (allK_perm hp).nodup_iff.1 h.nodup
  laid c hc := h.laid c (hp.mem_iff.2 hc)
  told c hc := h.told c (hp.mem_iff.2 hc)
  hang c hc := h.hang c (hp.mem_iff.2 hc)
  line c hc := h.line c (hp.mem_iff.2 hc)
  rank := h.rank
  bs := by rw [← eds_sum N (allK_perm hp)]; exact h.bs
  bk := by rw [← eds_cnt N (allK_perm hp)]; exact h.bk

theorem mem_allK {b : Nat} : b ∈ allK K ↔ ∃ c ∈ K, b ∈ c.1.flat := by unfold allK; rw [List.mem_flatMap]

/-- The chain of a node, taken out. -/
theorem Fs.find (h : Fs S P N K) {b : Nat} (hb : S b) : ∃ c K1, K.Perm (c :: K1) ∧ b ∈ c.1.flat := by
  obtain ⟨c, hc, hbc⟩ := mem_allK.1 ((h.part b).1 hb)
  obtain ⟨s, t, e⟩ := List.append_of_mem hc
  exact ⟨c, s ++ t, by rw [e]; exact List.perm_middle, hbc⟩

theorem Fs.clo (h : Fs S P N K) : Clo S (nOf N) := fun b hb d hd => by
  obtain ⟨c, hc, hbc⟩ := mem_allK.1 ((h.part b).1 hb)
  rcases laid_clo (h.laid c hc) b hbc d hd with hh | hh
  · exact (h.part d).2 (mem_allK.2 ⟨c, hc, hh⟩)
  · exact h.hang c hc d hh

/-- What a chain hangs on is none of its nodes. -/
theorem Fs.hang_out (h : Fs S P N (c :: K)) {g : Nat} (hg : c.2 = some g) : g ∉ c.1.flat := fun hm => by
  obtain ⟨rk, hr⟩ := h.rank
  have hl := h.line c (List.mem_cons_self ..)
  rw [hg] at hl
  exact Nat.lt_irrefl _ (line_rank hr hl g ((ST.perm_flat c.1).mem_iff.2 hm))

theorem Fs.apart (h : Fs S P N (c :: K)) {b : Nat} (hb : b ∈ c.1.flat) : ∀ c' ∈ K, b ∉ c'.1.flat := fun c' hc' hm => by
  have hn := h.nodup
  rw [allK_cons] at hn
  exact (List.nodup_append.1 hn).2.2 b hb b (mem_allK.2 ⟨c', hc', hm⟩) rfl

theorem laid_kid {M : Nat → LN} : ∀ {y : ST} {u : Option Nat}, LaidS M y u → ∀ b ∈ y.flat, ∀ d, (M b).l = some d ∨ (M b).r = some d → d ∈ y.flat
  | .nil, _, _, b, hb, _, _ => by simp [ST.flat] at hb
  | .node l a t r, u, ⟨h1, h2, h3⟩, b, hb, d, hd => by
    simp only [ST.flat, List.mem_append, List.mem_cons] at hb ⊢
    rcases hb with hb | rfl | hb
    · exact .inl (laid_kid h2 b hb d hd)
    · rw [h1] at hd
      rcases hd with hd | hd
      · exact .inl (ST.root_mem hd)
      · exact .inr (.inr (ST.root_mem hd))
    · exact .inr (.inr (laid_kid h3 b hb d hd))

theorem Fs.ctx (h : Fs S P N (c :: K)) : Ctx S c.2 N c.1 where
  inS b hb := (h.part b).2 (by rw [allK_cons]; exact List.mem_append_left _ hb)
  nodup := by have := h.nodup; rw [allK_cons] at this; exact (List.nodup_append.1 this).1
  clo := h.clo
  uS := h.hang c (List.mem_cons_self ..)
  out g hg := by
    have ho := h.hang_out hg
    refine ⟨ho, fun p hp => ?_⟩
    obtain ⟨c', hc', hgc⟩ := mem_allK.1 ((h.part g).1 (h.hang c (List.mem_cons_self ..) g hg))
    have hk : ∀ d, (N g).n.l = some d ∨ (N g).n.r = some d → d ∈ c'.1.flat := laid_kid (h.laid c' hc') g hgc
    rcases List.mem_cons.1 hc' with rfl | hc'
    · exact absurd hgc ho
    · exact ⟨fun e => h.apart hp c' hc' (hk p (.inl e)), fun e => h.apart hp c' hc' (hk p (.inr e))⟩
  bs := by
    have := h.bs
    unfold eds at this ⊢
    rw [allK_cons, List.map_append, sumE_append] at this
    omega
  bk := by
    have := h.bk
    unfold eds at this ⊢
    rw [allK_cons, List.map_append, cntE_append] at this
    omega

/-- A chain turns its splay tree. -/
theorem Fs.turn {w0 w : World} {y : ST} (h : Fs S P N (c :: K)) (R : Rt S w0 c.2 N c.1 w N' y) : Fs S P N' ((y, c.2) :: K) where
  full c' hc' := by
    rcases List.mem_cons.1 hc' with rfl | hc'
    · intro e
      have e : y = .nil := e
      have hp := R.perm
      rw [e] at hp
      have h0 : c.1.flat = [] := List.Perm.eq_nil hp.symm
      cases hc : c.1 with
      | nil => exact h.full c (List.mem_cons_self ..) hc
      | node l a t r => rw [hc] at h0; simp [ST.flat] at h0
    · exact h.full c' (List.mem_cons_of_mem _ hc')
  part b := by
    rw [h.part b, allK_cons, allK_cons]
    exact (R.perm.symm.append_right _).mem_iff
  nodup := by
    have := h.nodup
    rw [allK_cons] at this ⊢
    exact (R.perm.symm.append_right _).nodup_iff.1 this
  laid c' hc' := by
    rcases List.mem_cons.1 hc' with rfl | hc'
    · exact R.laid
    · refine laidS_far (h.laid c' (List.mem_cons_of_mem _ hc')) fun b hb => ?_
      unfold nOf
      rw [R.off b fun hm => h.apart hm c' hc' hb]
  told c' hc' := by
    rcases List.mem_cons.1 hc' with rfl | hc'
    · exact R.told
    · refine told_far (h.told c' (List.mem_cons_of_mem _ hc')) fun b hb => ?_
      rw [R.off b fun hm => h.apart hm c' hc' hb]
      exact ⟨rfl, rfl, rfl, rfl⟩
  hang c' hc' := by
    rcases List.mem_cons.1 hc' with rfl | hc'
    · exact h.hang c (List.mem_cons_self ..)
    · exact h.hang c' (List.mem_cons_of_mem _ hc')
  line c' hc' := by
    rcases List.mem_cons.1 hc' with rfl | hc'
    · show Line P c.2 y.list
      rw [R.list]
      exact h.line c (List.mem_cons_self ..)
    · exact h.line c' (List.mem_cons_of_mem _ hc')
  rank := h.rank
  bs := by
    rw [eds_far (N := N) fun b _ => (R.same b).1, allK_cons]
    show sumE (eds N (y.flat ++ allK K)) < _
    rw [eds_sum N (R.perm.append_right _)]
    exact h.bs
  bk := by
    rw [eds_far (N := N) fun b _ => (R.same b).1, allK_cons]
    show cntE (eds N (y.flat ++ allK K)) < _
    rw [eds_cnt N (R.perm.append_right _)]
    exact h.bk

end

/-- A splay tree that may be none, as a list of chains. -/
def optK (y : ST) (u : Option Nat) : List (ST × Option Nat) :=
  match y with
  | .nil => []
  | y => [(y, u)]

theorem allK_opt (y : ST) (u : Option Nat) : allK (optK y u) = y.flat := by
  cases y with
  | nil => rfl
  | node l a t r => show allK [(ST.node l a t r, u)] = _; rw [allK_cons]; show _ ++ [] = _; rw [List.append_nil]

theorem mem_optK {y : ST} {u : Option Nat} {c : ST × Option Nat} (h : c ∈ optK y u) : c = (y, u) ∧ y ≠ .nil := by
  cases y with
  | nil => simp [optK] at h
  | node l a t r =>
    have h : c ∈ [(ST.node l a t r, u)] := h
    exact ⟨List.mem_singleton.1 h, by intro e; cases e⟩

end Go.Proofs.Ytlhkajlkapoabaa
