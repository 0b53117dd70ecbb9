/-
  A forest of vertices and edges in plain words, and the nodes that stand for them.
-/
import Derived.Test.YtlhkajlkapoabaaLK22
namespace Go.Proofs.Ytlhkajlkapoabaa
open Go.RowKit Go.Maps
set_option linter.unusedVariables false

theorem line_in {P : Nat → Option Nat} : ∀ {l : List Nat} {u : Option Nat}, Line P u l → ∀ b ∈ l, ∀ g, P b = some g → g ∈ l ∨ u = some g
  | [], _, _, b, hb, _, _ => by simp at hb
  | v :: l, u, ⟨h1, h2⟩, b, hb, g, hg => by
    rcases List.mem_cons.1 hb with rfl | hb
    · exact .inr (h1.symm.trans hg)
    · rcases line_in h2 b hb g hg with h | h
      · exact .inl (List.mem_cons_of_mem _ h)
      · injection h with h; exact .inl (h ▸ List.mem_cons_self ..)

/-- What is above a node of the forest is one of its nodes. -/
theorem Fs.up_in {S : Nat → Prop} {P : Nat → Option Nat} {N : Nat → NdL} {K : List (ST × Option Nat)} (h : Fs S P N K) {b g : Nat} (hb : S b) (hg : P b = some g) : S g := by
  obtain ⟨c, hc, hbc⟩ := mem_allK.1 ((h.part b).1 hb)
  rcases line_in (h.line c hc) b ((ST.perm_flat c.1).mem_iff.2 hbc) g hg with hh | hh
  · exact (h.part g).2 (mem_allK.2 ⟨c, hc, (ST.perm_flat c.1).mem_iff.1 hh⟩)
  · exact h.hang c hc g hh

theorem Fs.adj_in {S : Nat → Prop} {P : Nat → Option Nat} {N : Nat → NdL} {K : List (ST × Option Nat)} (h : Fs S P N K) {a b : Nat} (ha : S a) (hb : S b) (hn : Adj P a b) : S a ∧ S b := ⟨ha, hb⟩

/-- A forest: its vertices and edges. -/
structure LF where
  vs : List Int
  es : List Eg

def LF.deg (F : LF) (v : Int) : Int := ((F.es.filter fun e => e.u == v || e.v == v).length : Nat)

/-- The nodes that stand for a forest's vertices and edges. -/
structure Gd (S : Nat → Prop) (P : Nat → Option Nat) (N : Nat → NdL) (F : LF) (vs es : Int → Option Nat) : Prop where
  vk : ∀ v, (∃ a, vs v = some a) ↔ v ∈ F.vs
  ek : ∀ i, (∃ k, es i = some k) ↔ ∃ e ∈ F.es, e.id = i
  vnd : F.vs.Nodup
  idnd : (F.es.map Eg.id).Nodup
  vinj : ∀ u v a, vs u = some a → vs v = some a → u = v
  einj : ∀ i j k, es i = some k → es j = some k → i = j
  apart : ∀ v i a, vs v = some a → es i ≠ some a
  full : ∀ k, S k ↔ (∃ v, vs v = some k) ∨ ∃ i, es i = some k
  vN : ∀ v a, vs v = some a → (N a).e = Eg.zero ∧ (N a).d = F.deg v
  eN : ∀ e ∈ F.es, ∀ k, es e.id = some k → (N k).e = e
  ends : ∀ e ∈ F.es, e.u ∈ F.vs ∧ e.v ∈ F.vs ∧ e.u ≠ e.v
  adj : ∀ e ∈ F.es, ∀ k, es e.id = some k → ∀ x, S x → (Adj P k x ↔ vs e.u = some x ∨ vs e.v = some x)
  vadj : ∀ v a, vs v = some a → ∀ x, S x → Adj P a x → ∃ i, es i = some x

theorem one_of_nodup : ∀ {l : List Eg}, (l.map Eg.id).Nodup → ∀ e ∈ l, ∀ e' ∈ l, e.id = e'.id → e = e'
  | [], _, e, he, _, _, _ => by cases he
  | x :: l, h, e, he, e', he', h1 => by
    obtain ⟨n1, n2⟩ := List.nodup_cons.1 h
    rcases List.mem_cons.1 he with h2 | h2 <;> rcases List.mem_cons.1 he' with h3 | h3
    · rw [h2, h3]
    · exact absurd (List.mem_map.2 ⟨e', h3, by rw [← h1, h2]⟩) n1
    · exact absurd (List.mem_map.2 ⟨e, h2, by rw [h1, h3]⟩) n1
    · exact one_of_nodup n2 e h2 e' h3 h1

/-- A vertex comes. -/
theorem Gd.addV {S : Nat → Prop} {P : Nat → Option Nat} {N : Nat → NdL} {F : LF} {vs es : Int → Option Nat} {K : List (ST × Option Nat)} (h : Gd S P N F vs es) (hf : Fs S P N K) {a : Nat} (ha : ¬ S a) {v : Int} (hv : v ∉ F.vs) :
    Gd (fun k => S k ∨ k = a) (setP P a none) (updL N a (toldL Eg.zero 0)) ⟨F.vs ++ [v], F.es⟩ (fun u => if u = v then some a else vs u) es := by
  have hvn : ∀ x, vs v ≠ some x := fun x e => hv ((h.vk v).1 ⟨x, e⟩)
  have hSv : ∀ u x, vs u = some x → S x := fun u x e => (h.full x).2 (.inl ⟨u, e⟩)
  have hSe : ∀ i x, es i = some x → S x := fun i x e => (h.full x).2 (.inr ⟨i, e⟩)
  have hna : ∀ x, S x → x ≠ a := fun x hx e => ha (e ▸ hx)
  have hP : ∀ x y, S x → S y → (Adj (setP P a none) x y ↔ Adj P x y) := fun x y hx hy => by
    unfold Adj
    rw [setP_ne (hna x hx), setP_ne (hna y hy)]
  have hPa : ∀ x, S x → ¬ Adj (setP P a none) x a := fun x hx hh => by
    rcases hh with e | e
    · rw [setP_ne (hna x hx)] at e
      exact ha (hf.up_in hx e)
    · rw [setP_same] at e
      cases e
  have hvs : ∀ u x, (if u = v then some a else vs u) = some x ↔ (u = v ∧ x = a) ∨ vs u = some x := fun u x => by
    by_cases hu : u = v
    · subst hu
      rw [if_pos rfl]
      constructor
      · intro e; injection e with e; exact .inl ⟨rfl, e.symm⟩
      · rintro (⟨-, e⟩ | e)
        · rw [e]
        · exact absurd e (hvn x)
    · rw [if_neg hu]
      constructor
      · exact .inr
      · rintro (⟨e, -⟩ | e)
        · exact absurd e hu
        · exact e
  refine ⟨?_, h.ek, ?_, h.idnd, ?_, h.einj, ?_, ?_, ?_, ?_, ?_, ?_, ?_⟩
  · intro u
    rw [List.mem_append, List.mem_singleton, ← h.vk u]
    constructor
    · rintro ⟨x, e⟩
      rcases (hvs u x).1 e with ⟨e, -⟩ | e
      · exact .inr e
      · exact .inl ⟨x, e⟩
    · rintro (⟨x, e⟩ | e)
      · exact ⟨x, (hvs u x).2 (.inr e)⟩
      · exact ⟨a, (hvs u a).2 (.inl ⟨e, rfl⟩)⟩
  · exact List.nodup_append.2 ⟨h.vnd, by simp, fun x hx y hy e => hv (by rw [List.mem_singleton.1 hy] at e; exact e ▸ hx)⟩
  · intro u u' x e e'
    rcases (hvs u x).1 e with ⟨e1, e2⟩ | e1 <;> rcases (hvs u' x).1 e' with ⟨e3, e4⟩ | e3
    · rw [e1, e3]
    · exact absurd (hSv _ _ e3) (e2 ▸ ha)
    · exact absurd (hSv _ _ e1) (e4 ▸ ha)
    · exact h.vinj u u' x e1 e3
  · intro u i x e
    rcases (hvs u x).1 e with ⟨-, e2⟩ | e1
    · intro he; exact ha (e2 ▸ hSe i x he)
    · exact h.apart u i x e1
  · intro k
    rw [h.full k]
    constructor
    · rintro ((⟨u, e⟩ | ⟨i, e⟩) | e)
      · exact .inl ⟨u, (hvs u k).2 (.inr e)⟩
      · exact .inr ⟨i, e⟩
      · exact .inl ⟨v, (hvs v k).2 (.inl ⟨rfl, e⟩)⟩
    · rintro (⟨u, e⟩ | ⟨i, e⟩)
      · rcases (hvs u k).1 e with ⟨-, e2⟩ | e1
        · exact .inr e2
        · exact .inl (.inl ⟨u, e1⟩)
      · exact .inl (.inr ⟨i, e⟩)
  · intro u x e
    rcases (hvs u x).1 e with ⟨e1, e2⟩ | e1
    · subst e1 e2
      rw [updL_same]
      refine ⟨rfl, ?_⟩
      show (0 : Int) = ((F.es.filter fun e => e.u == u || e.v == u).length : Nat)
      have : F.es.filter (fun e => e.u == u || e.v == u) = [] := List.filter_eq_nil_iff.2 fun e he => by
        obtain ⟨h1, h2, -⟩ := h.ends e he
        simp only [Bool.or_eq_true, beq_iff_eq, not_or]
        exact ⟨fun e => hv (e ▸ h1), fun e => hv (e ▸ h2)⟩
      rw [this]
      rfl
    · rw [updL_ne N _ (hna x (hSv u x e1))]
      exact h.vN u x e1
  · intro e he k hk
    rw [updL_ne N _ (hna k (hSe _ k hk))]
    exact h.eN e he k hk
  · intro e he
    obtain ⟨h1, h2, h3⟩ := h.ends e he
    exact ⟨List.mem_append_left _ h1, List.mem_append_left _ h2, h3⟩
  · intro e he k hk x hx
    have hkS := hSe _ k hk
    obtain ⟨h1, h2, -⟩ := h.ends e he
    have hu : e.u ≠ v := fun e' => hv (e' ▸ h1)
    have hw : e.v ≠ v := fun e' => hv (e' ▸ h2)
    rw [if_neg hu, if_neg hw]
    rcases hx with hx | hx
    · rw [hP k x hkS hx]
      exact h.adj e he k hk x hx
    · subst hx
      constructor
      · intro hh; exact absurd hh (hPa k hkS)
      · rintro (e' | e')
        · exact absurd (hSv _ _ e') ha
        · exact absurd (hSv _ _ e') ha
  · intro u b hb x hx hh
    rcases (hvs u b).1 hb with ⟨-, e2⟩ | e1
    · subst e2
      rcases hx with hx | hx
      · exact absurd hh.symm (hPa x hx)
      · subst hx
        rcases hh with e | e <;> (rw [setP_same] at e; cases e)
    · have hbS := hSv u b e1
      rcases hx with hx | hx
      · exact h.vadj u b e1 x hx ((hP b x hbS hx).1 hh)
      · subst hx
        exact absurd hh (hPa b hbS)

end Go.Proofs.Ytlhkajlkapoabaa
