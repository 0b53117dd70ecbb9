/-
  A vertex that has no edge stands alone, and may go.
-/
import Derived.Test.YtlhkajlkapoabaaLK25
namespace Go.Proofs.Ytlhkajlkapoabaa
open Go.RowKit Go.Maps
set_option linter.unusedVariables false

section

variable {S : Nat → Prop} {P : Nat → Option Nat} {N : Nat → NdL} {F : LF} {vs es : Int → Option Nat} {K : List (ST × Option Nat)}

/-- Nothing is next to a vertex without edges. -/
theorem Gd.alone (h : Gd S P N F vs es) {v : Int} {a : Nat} (hv : vs v = some a) (hd : F.deg v = 0) {x : Nat} (hx : S x) : ¬ Adj P a x := by
  intro ha
  obtain ⟨i, hi⟩ := h.vadj v a hv x hx ha
  obtain ⟨e, he, rfl⟩ := (h.ek i).1 ⟨x, hi⟩
  have hS : S a := (h.full a).2 (.inl ⟨v, hv⟩)
  have hm : e ∈ F.es.filter fun e => e.u == v || e.v == v := by
    refine List.mem_filter.2 ⟨he, ?_⟩
    simp only [Bool.or_eq_true, beq_iff_eq]
    rcases (h.adj e he x hi a hS).1 ha.symm with e1 | e1
    · exact .inl (h.vinj _ _ a e1 hv)
    · exact .inr (h.vinj _ _ a e1 hv)
  have : 0 < (F.es.filter fun e => e.u == v || e.v == v).length := List.length_pos_of_mem hm
  unfold LF.deg at hd
  omega

/-- A node that nothing is next to is a chain of its own. -/
theorem Fs.lone (h : Fs S P N K) {a : Nat} (ha : S a) (hno : ∀ x, S x → ¬ Adj P a x) : ∃ t K1, K.Perm ((.node .nil a t .nil, none) :: K1) ∧ ∀ c ∈ K1, c.2 ≠ some a := by
  obtain ⟨⟨y, u⟩, K1, hp, hm⟩ := h.find ha
  have hf := h.perm hp
  have hl : Line P u y.list := hf.line _ (List.mem_cons_self ..)
  have hm' : a ∈ y.list := (ST.perm_flat y).mem_iff.2 hm
  have hin : ∀ b ∈ y.list, S b := fun b hb => (hf.part b).2 (by rw [allK_cons]; exact List.mem_append_left _ ((ST.perm_flat y).mem_iff.1 hb))
  have hPa : P a = none := by
    cases hg : P a with
    | none => rfl
    | some g => exact absurd (.inl hg) (hno g (hf.up_in ha hg))
  obtain ⟨s, t, e⟩ := List.append_of_mem hm'
  have hs : s = [] := by
    rcases snoc_or (l := s) with e1 | ⟨k, d, e1⟩
    · exact e1
    · exfalso
      rw [e, e1, List.append_assoc] at hl
      have h1 : P a = some d := (line_append.1 hl).2.1
      rw [hPa] at h1
      cases h1
  subst hs
  have ht : t = [] := by
    cases t with
    | nil => rfl
    | cons d t =>
      exfalso
      rw [e] at hl
      have h1 : P d = some a := hl.2.1
      exact hno d (hin d (by rw [e]; simp)) (.inr h1)
  subst ht
  have hu : u = none := by
    rw [e] at hl
    exact hl.1.symm.trans hPa
  subst hu
  obtain ⟨t, et⟩ := one_node (show y.list = [a] from e)
  subst et
  refine ⟨t, K1, hp, fun c hc hca => ?_⟩
  have hl2 := hf.line c (List.mem_cons_of_mem _ hc)
  rw [hca] at hl2
  cases hcl : c.1.list with
  | nil =>
    have hp2 := ST.perm_flat c.1
    rw [hcl] at hp2
    have h0 : c.1.flat = [] := List.Perm.eq_nil hp2.symm
    cases hc1 : c.1 with
    | nil => exact hf.full c (List.mem_cons_of_mem _ hc) hc1
    | node l b t r => rw [hc1] at h0; simp [ST.flat] at h0
  | cons b l =>
    rw [hcl] at hl2
    have hb : b ∈ c.1.flat := (ST.perm_flat c.1).mem_iff.1 (by rw [hcl]; simp)
    exact hno b ((hf.part b).2 (mem_allK.2 ⟨c, List.mem_cons_of_mem _ hc, hb⟩)) (.inr hl2.1)

/-- A vertex goes. -/
theorem Gd.delV (h : Gd S P N F vs es) {v : Int} {a : Nat} (hv : vs v = some a) (hd : F.deg v = 0) : Gd (fun k => S k ∧ k ≠ a) P N ⟨F.vs.filter (fun u => u != v), F.es⟩ (fun u => if u = v then none else vs u) es := by
  have hvs : ∀ u x, (if u = v then none else vs u) = some x ↔ u ≠ v ∧ vs u = some x := fun u x => by
    by_cases hu : u = v
    · subst hu
      rw [if_pos rfl]
      exact ⟨(fun e => by cases e), (fun e => absurd rfl e.1)⟩
    · rw [if_neg hu]
      exact ⟨(fun e => ⟨hu, e⟩), (fun e => e.2)⟩
  have hne : ∀ u x, u ≠ v → vs u = some x → x ≠ a := fun u x hu hx e => hu (h.vinj u v a (e ▸ hx) hv)
  have hdeg : ∀ e ∈ F.es, e.u ≠ v ∧ e.v ≠ v := fun e he => by
    constructor <;> intro hh
    · have hm : e ∈ F.es.filter fun e => e.u == v || e.v == v := List.mem_filter.2 ⟨he, by simp [hh]⟩
      have : 0 < (F.es.filter fun e => e.u == v || e.v == v).length := List.length_pos_of_mem hm
      unfold LF.deg at hd
      omega
    · have hm : e ∈ F.es.filter fun e => e.u == v || e.v == v := List.mem_filter.2 ⟨he, by simp [hh]⟩
      have : 0 < (F.es.filter fun e => e.u == v || e.v == v).length := List.length_pos_of_mem hm
      unfold LF.deg at hd
      omega
  refine ⟨?_, h.ek, h.vnd.filter _, h.idnd, ?_, h.einj, ?_, ?_, ?_, h.eN, ?_, ?_, ?_⟩
  · intro u
    rw [List.mem_filter, ← h.vk u]
    simp only [bne_iff_ne]
    constructor
    · rintro ⟨x, e⟩
      obtain ⟨h1, h2⟩ := (hvs u x).1 e
      exact ⟨⟨x, h2⟩, h1⟩
    · rintro ⟨⟨x, e⟩, h1⟩
      exact ⟨x, (hvs u x).2 ⟨h1, e⟩⟩
  · intro u u' x e e'
    exact h.vinj u u' x ((hvs u x).1 e).2 ((hvs u' x).1 e').2
  · intro u i x e
    exact h.apart u i x ((hvs u x).1 e).2
  · intro k
    rw [h.full k]
    constructor
    · rintro ⟨⟨u, e⟩ | ⟨i, e⟩, hk⟩
      · exact .inl ⟨u, (hvs u k).2 ⟨fun e' => hk (by rw [e', hv] at e; injection e with e; exact e.symm), e⟩⟩
      · exact .inr ⟨i, e⟩
    · rintro (⟨u, e⟩ | ⟨i, e⟩)
      · obtain ⟨h1, h2⟩ := (hvs u k).1 e
        exact ⟨.inl ⟨u, h2⟩, hne u k h1 h2⟩
      · exact ⟨.inr ⟨i, e⟩, fun e' => h.apart v i a hv (e' ▸ e)⟩
  · intro u x e
    exact h.vN u x ((hvs u x).1 e).2
  · intro e he
    obtain ⟨h1, h2, h3⟩ := h.ends e he
    obtain ⟨d1, d2⟩ := hdeg e he
    exact ⟨List.mem_filter.2 ⟨h1, by simpa using d1⟩, List.mem_filter.2 ⟨h2, by simpa using d2⟩, h3⟩
  · intro e he k hk x hx
    obtain ⟨d1, d2⟩ := hdeg e he
    rw [if_neg d1, if_neg d2]
    exact h.adj e he k hk x hx.1
  · intro u b hb x hx hh
    exact h.vadj u b ((hvs u b).1 hb).2 x hx.1 hh

end

end Go.Proofs.Ytlhkajlkapoabaa
