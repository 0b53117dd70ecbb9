/-
  What is told of a splay tree's nodes, in plain words.
-/
import Derived.Test.YtlhkajlkapoabaaLK7
namespace Go.Proofs.Ytlhkajlkapoabaa
open Go.RowKit Go.Maps
set_option linter.unusedVariables false

theorem above_iff (a b : Eg) : a.above b = true ↔ b.w < a.w ∨ (a.w = b.w ∧ b.id < a.id) := by
  unfold Eg.above
  simp

theorem above_no (a b : Eg) : a.above b = false ↔ ¬ (b.w < a.w ∨ (a.w = b.w ∧ b.id < a.id)) := by
  rw [← above_iff]
  cases a.above b <;> simp

/-- m is one of the greatest of L. -/
def IsMax (m : Eg) (L : List Eg) : Prop := m ∈ L ∧ ∀ e ∈ L, e.above m = false

theorem IsMax.perm {m : Eg} {L L' : List Eg} (h : IsMax m L) (hp : L.Perm L') : IsMax m L' := ⟨hp.mem_iff.1 h.1, fun e he => h.2 e (hp.mem_iff.2 he)⟩

theorem isMax_pick {m x : Eg} {L L' : List Eg} (h : IsMax m L) (h' : IsMax x L') : IsMax (if x.above m then x else m) (L ++ L') := by
  by_cases hx : x.above m = true
  · rw [if_pos hx]
    refine ⟨List.mem_append_right _ h'.1, fun e he => ?_⟩
    rcases List.mem_append.1 he with he | he
    · have h1 := (above_no _ _).1 (h.2 e he)
      have h2 := (above_iff _ _).1 hx
      exact (above_no _ _).2 (by omega)
    · exact h'.2 e he
  · rw [if_neg hx]
    refine ⟨List.mem_append_left _ h.1, fun e he => ?_⟩
    rcases List.mem_append.1 he with he | he
    · exact h.2 e he
    · have h1 := (above_no _ _).1 (h'.2 e he)
      have h2 : ¬ (m.w < x.w ∨ (x.w = m.w ∧ m.id < x.id)) := fun hh => hx ((above_iff _ _).2 hh)
      exact (above_no _ _).2 (by omega)

def sumE (L : List Eg) : Nat := (L.map Eg.stepS).sum

def cntE (L : List Eg) : Nat := (L.map Eg.stepK).sum

theorem sumE_append (L L' : List Eg) : sumE (L ++ L') = sumE L + sumE L' := by unfold sumE; rw [List.map_append, List.sum_append]

theorem cntE_append (L L' : List Eg) : cntE (L ++ L') = cntE L + cntE L' := by unfold cntE; rw [List.map_append, List.sum_append]

theorem sumE_cons (e : Eg) (L : List Eg) : sumE (e :: L) = e.stepS + sumE L := by unfold sumE; rw [List.map_cons, List.sum_cons]

theorem cntE_cons (e : Eg) (L : List Eg) : cntE (e :: L) = e.stepK + cntE L := by unfold cntE; rw [List.map_cons, List.sum_cons]

theorem sumE_perm {L L' : List Eg} (h : L.Perm L') : sumE L = sumE L' := (h.map _).sum_nat

theorem cntE_perm {L L' : List Eg} (h : L.Perm L') : cntE L = cntE L' := (h.map _).sum_nat

/-- What a node says of itself and all below it. -/
structure TD (x : NdL) (L : List Eg) : Prop where
  max : IsMax x.m L
  s : x.s = sumE L
  k : x.k = cntE L

theorem TD.perm {x : NdL} {L L' : List Eg} (h : TD x L) (hp : L.Perm L') : TD x L' := ⟨h.max.perm hp, h.s.trans (sumE_perm hp), h.k.trans (cntE_perm hp)⟩

def eds (N : Nat → NdL) (l : List Nat) : List Eg := l.map fun b => (N b).e

def ToldS (N : Nat → NdL) : ST → Prop
  | .nil => True
  | .node l a _ r => TD (N a) (eds N (l.flat ++ a :: r.flat)) ∧ ToldS N l ∧ ToldS N r

/-- Two nodes tell the same. -/
def Alk (x y : NdL) : Prop := x.e = y.e ∧ x.m = y.m ∧ x.s = y.s ∧ x.k = y.k

theorem eds_far {N N' : Nat → NdL} {l : List Nat} (h : ∀ b ∈ l, (N' b).e = (N b).e) : eds N' l = eds N l := List.map_congr_left h

theorem TD.alk {x y : NdL} {L : List Eg} (h : TD x L) (ha : Alk y x) : TD y L := ⟨by rw [ha.2.1]; exact h.max, by rw [ha.2.2.1]; exact h.s, by rw [ha.2.2.2]; exact h.k⟩

theorem told_far {N N' : Nat → NdL} : ∀ {x : ST}, ToldS N x → (∀ b ∈ x.flat, Alk (N' b) (N b)) → ToldS N' x
  | .nil, _, _ => trivial
  | .node l a t r, ⟨h1, h2, h3⟩, hf => by
    refine ⟨?_, told_far h2 fun b hb => hf b (by simp [ST.flat, hb]), told_far h3 fun b hb => hf b (by simp [ST.flat, hb])⟩
    rw [eds_far (l := l.flat ++ a :: r.flat) (N := N) fun b hb => (hf b hb).1]
    exact h1.alk (hf a (by simp [ST.flat]))

theorem told_tog {N : Nat → NdL} {x : ST} (h : ToldS N x) : ToldS N x.tog := by
  cases x with
  | nil => trivial
  | node l a t r => exact h

theorem told_set {N : Nat → NdL} {x : ST} (h : ToldS N x) : ToldS N x.set := by
  cases x with
  | nil => trivial
  | node l a t r =>
    have hp := ST.perm_set (.node l a t r)
    unfold ST.set at hp ⊢
    obtain ⟨h1, h2, h3⟩ := h
    cases t
    · exact ⟨h1, h2, h3⟩
    · exact ⟨h1.perm ((show (l.flat ++ a :: r.flat).Perm (r.tog.flat ++ a :: l.tog.flat) from hp.symm).map _), told_tog h3, told_tog h2⟩

theorem told_root {N : Nat → NdL} {x : ST} (h : ToldS N x) : sOf (x.root.map N) = sumE (eds N x.flat) ∧ kOf (x.root.map N) = cntE (eds N x.flat) := by
  cases x with
  | nil => exact ⟨rfl, rfl⟩
  | node l a t r => exact ⟨h.1.s, h.1.k⟩

theorem told_max {N : Nat → NdL} {x : ST} (h : ToldS N x) {m : Eg} {L : List Eg} (hm : IsMax m L) : IsMax (pickM m (x.root.map N)) (L ++ eds N x.flat) := by
  cases x with
  | nil =>
    show IsMax m (L ++ [])
    rw [List.append_nil]
    exact hm
  | node l a t r => exact isMax_pick hm h.1.max

/-- A node whose children have told of themselves tells. -/
theorem told_tell {N : Nat → NdL} {l r : ST} {a : Nat} {t : Bool} (hl : ToldS N l) (hr : ToldS N r) (el : (N a).n.l = l.root) (er : (N a).n.r = r.root) (al : a ∉ l.flat) (ar : a ∉ r.flat) : ToldS (tellAt N a) (.node l a t r) := by
  have hf : ∀ b, b ≠ a → tellAt N a b = N b := fun b hb => tellAt_ne N hb
  have hx : ∀ b, b ≠ a → Alk (tellAt N a b) (N b) := fun b hb => by rw [hf b hb]; exact ⟨rfl, rfl, rfl, rfl⟩
  have he : ∀ b, (tellAt N a b).e = (N b).e := fun b => by
    by_cases h : b = a
    · subst h; unfold tellAt; rw [updL_same]; rfl
    · rw [hf b h]
  refine ⟨?_, told_far hl fun b hb => hx b (fun e => al (e ▸ hb)), told_far hr fun b hb => hx b (fun e => ar (e ▸ hb))⟩
  rw [eds_far (N := N) fun b _ => he b]
  have e : tellAt N a a = (N a).tellX (l.root.map N) (r.root.map N) := by unfold tellAt; rw [updL_same, el, er]
  rw [e]
  have hp : ([(N a).e] ++ eds N l.flat ++ eds N r.flat).Perm (eds N (l.flat ++ a :: r.flat)) := by
    unfold eds
    rw [List.map_append, List.map_cons]
    exact List.perm_middle.symm
  refine TD.perm ⟨?_, ?_, ?_⟩ hp
  · exact told_max hr (told_max hl (m := (N a).e) (L := [(N a).e]) ⟨List.mem_singleton.2 rfl, fun e he => by
      rw [List.mem_singleton.1 he]
      exact (above_no _ _).2 (by omega)⟩)
  · show (N a).e.stepS + sOf _ + sOf _ = _
    rw [(told_root hl).1, (told_root hr).1, sumE_append, sumE_append, sumE_cons]
    rfl
  · show (N a).e.stepK + kOf _ + kOf _ = _
    rw [(told_root hl).2, (told_root hr).2, cntE_append, cntE_append, cntE_cons]
    rfl

/-- What frames tell, when L hangs in them. -/
def ToldC (N : Nat → NdL) : List Fr → List Nat → Prop
  | [], _ => True
  | f :: F, L => TD (N f.a) (eds N (L ++ f.a :: f.o.flat)) ∧ ToldS N f.o ∧ ToldC N F (L ++ f.a :: f.o.flat)

theorem toldC_perm {N : Nat → NdL} : ∀ {F : List Fr} {L L' : List Nat}, ToldC N F L → L.Perm L' → ToldC N F L'
  | [], _, _, _, _ => trivial
  | f :: F, L, L', ⟨h1, h2, h3⟩, hp => ⟨h1.perm ((hp.append_right _).map _), h2, toldC_perm h3 (hp.append_right _)⟩

theorem toldC_far {N N' : Nat → NdL} : ∀ {F : List Fr} {L : List Nat}, ToldC N F L → (∀ b ∈ flatC F, Alk (N' b) (N b)) → (∀ b, (N' b).e = (N b).e) → ToldC N' F L
  | [], _, _, _, _ => trivial
  | f :: F, L, ⟨h1, h2, h3⟩, hf, he => by
    refine ⟨?_, told_far h2 fun b hb => hf b (by simp [flatC, hb]), toldC_far h3 (fun b hb => hf b (by simp [flatC, hb])) he⟩
    rw [eds_far (N := N) fun b _ => he b]
    exact h1.alk (hf f.a (by simp [flatC]))

theorem Fr.told_fill {N : Nat → NdL} (f : Fr) (s : ST) : ToldS N (f.fill s) ↔ ToldS N s ∧ TD (N f.a) (eds N (s.flat ++ f.a :: f.o.flat)) ∧ ToldS N f.o := by
  have hp := f.perm_fill s
  obtain ⟨a, t, d, o⟩ := f
  unfold Fr.fill at hp ⊢
  cases d
  · show TD (N a) (eds N (s.flat ++ a :: o.flat)) ∧ ToldS N s ∧ ToldS N o ↔ _
    exact ⟨fun ⟨h1, h2, h3⟩ => ⟨h2, h1, h3⟩, fun ⟨h2, h1, h3⟩ => ⟨h1, h2, h3⟩⟩
  · have hp : (o.flat ++ a :: s.flat).Perm (s.flat ++ a :: o.flat) := hp
    show TD (N a) (eds N (o.flat ++ a :: s.flat)) ∧ ToldS N o ∧ ToldS N s ↔ _
    exact ⟨fun ⟨h1, h3, h2⟩ => ⟨h2, h1.perm (hp.map _), h3⟩, fun ⟨h2, h1, h3⟩ => ⟨h1.perm (hp.symm.map _), h3, h2⟩⟩

theorem told_fill {N : Nat → NdL} : ∀ (F : List Fr) (s : ST), ToldS N (fillF F s) ↔ ToldS N s ∧ ToldC N F s.flat
  | [], s => ⟨fun h => ⟨h, trivial⟩, fun h => h.1⟩
  | f :: F, s => by
    show ToldS N (fillF F (f.fill s)) ↔ _
    rw [told_fill F (f.fill s), Fr.told_fill]
    constructor
    · rintro ⟨⟨h1, h2, h3⟩, h4⟩
      exact ⟨h1, h2, h3, toldC_perm h4 (f.perm_fill s)⟩
    · rintro ⟨h1, h2, h3, h4⟩
      exact ⟨⟨h1, h2, h3⟩, toldC_perm h4 (f.perm_fill s).symm⟩

end Go.Proofs.Ytlhkajlkapoabaa
