/-
  An edge comes, in plain words.
-/
import Derived.Test.YtlhkajlkapoabaaLK27
namespace Go.Proofs.Ytlhkajlkapoabaa
open Go.RowKit Go.Maps
set_option linter.unusedVariables false

theorem deg_snoc (V : List Int) (E : List Eg) (e : Eg) (v : Int) : (LF.mk V (E ++ [e])).deg v = (LF.mk V E).deg v + if e.u = v ∨ e.v = v then 1 else 0 := by
  unfold LF.deg
  dsimp only
  rw [List.filter_append, List.length_append]
  by_cases h : e.u = v ∨ e.v = v
  · have hb : (e.u == v || e.v == v) = true := by simpa using h
    rw [if_pos h]
    simp [hb]
  · have hb : (e.u == v || e.v == v) = false := by
      cases hx : (e.u == v || e.v == v)
      · rfl
      · exact absurd (by simpa using hx) h
    rw [if_neg h]
    simp [hb]

theorem Gd.link {S : Nat → Prop} {P P' : Nat → Option Nat} {N N' : Nat → NdL} {F : LF} {vs es : Int → Option Nat} (h : Gd S P N F vs es) {k a b : Nat} (hk : ¬ S k) {e : Eg} (hu : vs e.u = some a) (hv : vs e.v = some b) (hne : e.u ≠ e.v) (hid : es e.id = none)
    (hadj : ∀ x y, (S x ∨ x = k) → (S y ∨ y = k) → (Adj P' x y ↔ (S x ∧ S y ∧ Adj P x y) ∨ (x = k ∧ (y = a ∨ y = b)) ∨ (y = k ∧ (x = a ∨ x = b))))
    (he : ∀ x, S x → (N' x).e = (N x).e) (hek : (N' k).e = e) (hd : ∀ x, S x → (N' x).d = (N x).d + if x = a ∨ x = b then 1 else 0) :
    Gd (fun x => S x ∨ x = k) P' N' ⟨F.vs, F.es ++ [e]⟩ vs (fun i => if i = e.id then some k else es i) := by
  have hSv : ∀ u x, vs u = some x → S x := fun u x e => (h.full x).2 (.inl ⟨u, e⟩)
  have hSe : ∀ i x, es i = some x → S x := fun i x e => (h.full x).2 (.inr ⟨i, e⟩)
  have hes : ∀ i x, (if i = e.id then some k else es i) = some x ↔ (i = e.id ∧ x = k) ∨ es i = some x := fun i x => by
    by_cases hi : i = e.id
    · subst hi
      rw [if_pos rfl, hid]
      constructor
      · intro e'; injection e' with e'; exact .inl ⟨rfl, e'.symm⟩
      · rintro (⟨-, e'⟩ | e')
        · rw [e']
        · cases e'
    · rw [if_neg hi]
      constructor
      · exact .inr
      · rintro (⟨e', -⟩ | e')
        · exact absurd e' hi
        · exact e'
  have hnew : ∀ x ∈ F.es, x.id ≠ e.id := fun x hx hh => by
    obtain ⟨q, hq⟩ := (h.ek x.id).2 ⟨x, hx, rfl⟩
    rw [hh, hid] at hq
    cases hq
  have haS := hSv _ _ hu
  have hbS := hSv _ _ hv
  refine ⟨h.vk, ?_, h.vnd, ?_, h.vinj, ?_, ?_, ?_, ?_, ?_, ?_, ?_, ?_⟩
  · intro i
    constructor
    · rintro ⟨x, hx⟩
      rcases (hes i x).1 hx with ⟨e1, -⟩ | e1
      · exact ⟨e, by simp, e1.symm⟩
      · obtain ⟨y, hy, hyi⟩ := (h.ek i).1 ⟨x, e1⟩
        exact ⟨y, List.mem_append_left _ hy, hyi⟩
    · rintro ⟨y, hy, hyi⟩
      rcases List.mem_append.1 hy with hy | hy
      · obtain ⟨x, hx⟩ := (h.ek i).2 ⟨y, hy, hyi⟩
        exact ⟨x, (hes i x).2 (.inr hx)⟩
      · rw [List.mem_singleton.1 hy] at hyi
        exact ⟨k, (hes i k).2 (.inl ⟨hyi.symm, rfl⟩)⟩
  · show ((F.es ++ [e]).map Eg.id).Nodup
    rw [List.map_append]
    refine List.nodup_append.2 ⟨h.idnd, by simp, fun x hx y hy hh => ?_⟩
    obtain ⟨z, hz, rfl⟩ := List.mem_map.1 hx
    have hy : y = e.id := by simpa using hy
    exact hnew z hz (hh.trans hy)
  · intro i j x e1 e2
    rcases (hes i x).1 e1 with ⟨h1, h2⟩ | h1 <;> rcases (hes j x).1 e2 with ⟨h3, h4⟩ | h3
    · rw [h1, h3]
    · exact absurd (hSe _ _ h3) (h2 ▸ hk)
    · exact absurd (hSe _ _ h1) (h4 ▸ hk)
    · exact h.einj i j x h1 h3
  · intro v i x hx hi
    rcases (hes i x).1 hi with ⟨-, h2⟩ | h1
    · exact hk (h2 ▸ hSv _ _ hx)
    · exact h.apart v i x hx h1
  · intro x
    rw [h.full x]
    constructor
    · rintro ((⟨u, e1⟩ | ⟨i, e1⟩) | e1)
      · exact .inl ⟨u, e1⟩
      · exact .inr ⟨i, (hes i x).2 (.inr e1)⟩
      · exact .inr ⟨e.id, (hes e.id x).2 (.inl ⟨rfl, e1⟩)⟩
    · rintro (⟨u, e1⟩ | ⟨i, e1⟩)
      · exact .inl (.inl ⟨u, e1⟩)
      · rcases (hes i x).1 e1 with ⟨-, h2⟩ | h1
        · exact .inr h2
        · exact .inl (.inr ⟨i, h1⟩)
  · intro v x hx
    obtain ⟨h1, h2⟩ := h.vN v x hx
    have hxS := hSv _ _ hx
    refine ⟨(he x hxS).trans h1, ?_⟩
    rw [hd x hxS, h2, deg_snoc]
    have hiff : (x = a ∨ x = b) ↔ (e.u = v ∨ e.v = v) := by
      constructor
      · rintro (e1 | e1)
        · exact .inl (h.vinj _ _ a hu (e1 ▸ hx))
        · exact .inr (h.vinj _ _ b hv (e1 ▸ hx))
      · rintro (e1 | e1)
        · rw [e1, hx] at hu; injection hu with hu; exact .inl hu
        · rw [e1, hx] at hv; injection hv with hv; exact .inr hv
    by_cases hc : x = a ∨ x = b
    · rw [if_pos hc, if_pos (hiff.1 hc)]
    · rw [if_neg hc, if_neg (fun hh => hc (hiff.2 hh))]
  · intro y hy x hx
    rcases List.mem_append.1 hy with hy | hy
    · rcases (hes y.id x).1 hx with ⟨h1, -⟩ | h1
      · exact absurd h1 (hnew y hy)
      · rw [he x (hSe _ _ h1)]
        exact h.eN y hy x h1
    · have hy := List.mem_singleton.1 hy
      subst hy
      rcases (hes y.id x).1 hx with ⟨-, h2⟩ | h1
      · rw [h2]; exact hek
      · rw [hid] at h1; cases h1
  · intro y hy
    rcases List.mem_append.1 hy with hy | hy
    · exact h.ends y hy
    · rw [List.mem_singleton.1 hy]
      exact ⟨(h.vk _).1 ⟨a, hu⟩, (h.vk _).1 ⟨b, hv⟩, hne⟩
  · intro y hy q hq x hx
    rcases List.mem_append.1 hy with hy | hy
    · rcases (hes y.id q).1 hq with ⟨h1, -⟩ | h1
      · exact absurd h1 (hnew y hy)
      · have hqS := hSe _ _ h1
        have hqk : q ≠ k := fun e1 => hk (e1 ▸ hqS)
        have hqa : q ≠ a := fun e1 => h.apart _ _ a hu (e1 ▸ h1)
        have hqb : q ≠ b := fun e1 => h.apart _ _ b hv (e1 ▸ h1)
        rw [hadj q x (.inl hqS) hx]
        rcases hx with hx | hx
        · rw [← h.adj y hy q h1 x hx]
          constructor
          · rintro (⟨-, -, hh⟩ | ⟨e1, -⟩ | ⟨e1, e2⟩)
            · exact hh
            · exact absurd e1 hqk
            · exact absurd (e1 ▸ hx) hk
          · exact fun hh => .inl ⟨hqS, hx, hh⟩
        · subst hx
          constructor
          · rintro (⟨-, hh, -⟩ | ⟨e1, -⟩ | ⟨-, e2 | e2⟩)
            · exact absurd hh hk
            · exact absurd e1 hqk
            · exact absurd e2 hqa
            · exact absurd e2 hqb
          · rintro (e1 | e1)
            · exact absurd (hSv _ _ e1) hk
            · exact absurd (hSv _ _ e1) hk
    · have hy := List.mem_singleton.1 hy
      subst hy
      have hqk : q = k := by
        rcases (hes y.id q).1 hq with ⟨-, h2⟩ | h1
        · exact h2
        · rw [hid] at h1; cases h1
      subst hqk
      rw [hadj q x (.inr rfl) hx, hu, hv]
      constructor
      · rintro (⟨hh, -, -⟩ | ⟨-, e2 | e2⟩ | ⟨e1, e2 | e2⟩)
        · exact absurd hh hk
        · exact .inl (by rw [e2])
        · exact .inr (by rw [e2])
        · exact absurd (e2 ▸ haS) hk
        · exact absurd (e2 ▸ hbS) hk
      · rintro (e1 | e1)
        · injection e1 with e1; exact .inr (.inl ⟨rfl, .inl e1.symm⟩)
        · injection e1 with e1; exact .inr (.inl ⟨rfl, .inr e1.symm⟩)
  · intro v q hq x hx hh
    have hqS := hSv _ _ hq
    have hqk : q ≠ k := fun e1 => hk (e1 ▸ hqS)
    rcases (hadj q x (.inl hqS) hx).1 hh with ⟨-, h2, h3⟩ | ⟨e1, -⟩ | ⟨e1, -⟩
    · obtain ⟨i, hi⟩ := h.vadj v q hq x h2 h3
      exact ⟨i, (hes i x).2 (.inr hi)⟩
    · exact absurd e1 hqk
    · exact ⟨e.id, (hes e.id x).2 (.inl ⟨rfl, e1⟩)⟩

end Go.Proofs.Ytlhkajlkapoabaa
