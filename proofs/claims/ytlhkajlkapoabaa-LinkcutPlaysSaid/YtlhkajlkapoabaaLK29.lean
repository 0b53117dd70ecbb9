/-
  An edge goes, in plain words.
-/
import Derived.Test.YtlhkajlkapoabaaLK28
namespace Go.Proofs.Ytlhkajlkapoabaa
open Go.RowKit Go.Maps
set_option linter.unusedVariables false

theorem deg_out : ∀ {E : List Eg} (V : List Int) {e : Eg} (v : Int), (E.map Eg.id).Nodup → e ∈ E → (LF.mk V E).deg v = (LF.mk V (E.filter fun x => x.id != e.id)).deg v + if e.u = v ∨ e.v = v then 1 else 0
  | [], _, e, _, _, he => by cases he
  | x :: E, V, e, v, hn, he => by
    obtain ⟨n1, n2⟩ := List.nodup_cons.1 hn
    have hx : ∀ E' : List Eg, (LF.mk V (x :: E')).deg v = (LF.mk V E').deg v + if x.u = v ∨ x.v = v then 1 else 0 := fun E' => by
      unfold LF.deg
      dsimp only
      by_cases h : x.u = v ∨ x.v = v
      · have hb : (x.u == v || x.v == v) = true := by simpa using h
        rw [if_pos h, List.filter_cons, if_pos hb, List.length_cons]
        omega
      · have hb : ¬ (x.u == v || x.v == v) = true := fun hh => h (by simpa using hh)
        rw [if_neg h, List.filter_cons, if_neg hb]
        omega
    rcases List.mem_cons.1 he with h1 | h1
    · subst h1
      have hf : (e :: E).filter (fun x => x.id != e.id) = E := by
        rw [List.filter_cons, if_neg (by simp)]
        refine List.filter_eq_self.2 fun y hy => ?_
        have : y.id ≠ e.id := fun hh => n1 (List.mem_map.2 ⟨y, hy, hh⟩)
        simpa using this
      rw [hf]
      exact hx E
    · have hne : x.id ≠ e.id := fun hh => n1 (List.mem_map.2 ⟨e, h1, hh.symm⟩)
      have hf : (x :: E).filter (fun x => x.id != e.id) = x :: E.filter (fun x => x.id != e.id) := by
        rw [List.filter_cons, if_pos (by simpa using hne)]
      rw [hf, hx, hx, deg_out V v n2 h1]
      omega

theorem Gd.cut {S : Nat → Prop} {P P' : Nat → Option Nat} {N N' : Nat → NdL} {F : LF} {vs es : Int → Option Nat} (h : Gd S P N F vs es) {k a b : Nat} {e : Eg} (hm : e ∈ F.es) (hk : es e.id = some k) (hu : vs e.u = some a) (hv : vs e.v = some b)
    (hadj : ∀ x y, S x → S y → x ≠ k → y ≠ k → (Adj P' x y ↔ Adj P x y))
    (he : ∀ x, S x → x ≠ k → (N' x).e = (N x).e) (hd : ∀ x, S x → x ≠ k → (N x).d = (N' x).d + if x = a ∨ x = b then 1 else 0) :
    Gd (fun x => S x ∧ x ≠ k) P' N' ⟨F.vs, F.es.filter fun x => x.id != e.id⟩ vs (fun i => if i = e.id then none else es i) := by
  have hSv : ∀ u x, vs u = some x → S x := fun u x e => (h.full x).2 (.inl ⟨u, e⟩)
  have hSe : ∀ i x, es i = some x → S x := fun i x e => (h.full x).2 (.inr ⟨i, e⟩)
  have hvk : ∀ u x, vs u = some x → x ≠ k := fun u x hx hh => h.apart u e.id x hx (hh ▸ hk)
  have hes : ∀ i x, (if i = e.id then none else es i) = some x ↔ i ≠ e.id ∧ es i = some x := fun i x => by
    by_cases hi : i = e.id
    · rw [if_pos hi]
      exact ⟨(fun e' => by cases e'), (fun e' => absurd hi e'.1)⟩
    · rw [if_neg hi]
      exact ⟨(fun e' => ⟨hi, e'⟩), (fun e' => e'.2)⟩
  have hek : ∀ i x, i ≠ e.id → es i = some x → x ≠ k := fun i x hi hx hh => hi (h.einj i e.id k (hh ▸ hx) hk)
  have hin : ∀ y, y ∈ F.es.filter (fun x => x.id != e.id) ↔ y ∈ F.es ∧ y.id ≠ e.id := fun y => by
    rw [List.mem_filter]
    simp only [bne_iff_ne]
  refine ⟨h.vk, ?_, h.vnd, ?_, h.vinj, ?_, ?_, ?_, ?_, ?_, ?_, ?_, ?_⟩
  · intro i
    constructor
    · rintro ⟨x, hx⟩
      obtain ⟨h1, h2⟩ := (hes i x).1 hx
      obtain ⟨y, hy, hyi⟩ := (h.ek i).1 ⟨x, h2⟩
      exact ⟨y, (hin y).2 ⟨hy, by rw [hyi]; exact h1⟩, hyi⟩
    · rintro ⟨y, hy, hyi⟩
      obtain ⟨h1, h2⟩ := (hin y).1 hy
      obtain ⟨x, hx⟩ := (h.ek i).2 ⟨y, h1, hyi⟩
      exact ⟨x, (hes i x).2 ⟨hyi ▸ h2, hx⟩⟩
  · exact h.idnd.sublist (List.filter_sublist.map _)
  · intro i j x e1 e2
    exact h.einj i j x ((hes i x).1 e1).2 ((hes j x).1 e2).2
  · intro v i x hx hi
    exact h.apart v i x hx ((hes i x).1 hi).2
  · intro x
    rw [h.full x]
    constructor
    · rintro ⟨⟨u, e1⟩ | ⟨i, e1⟩, hx⟩
      · exact .inl ⟨u, e1⟩
      · exact .inr ⟨i, (hes i x).2 ⟨fun hi => hx (by rw [hi, hk] at e1; injection e1 with e1; exact e1.symm), e1⟩⟩
    · rintro (⟨u, e1⟩ | ⟨i, e1⟩)
      · exact ⟨.inl ⟨u, e1⟩, hvk u x e1⟩
      · obtain ⟨h1, h2⟩ := (hes i x).1 e1
        exact ⟨.inr ⟨i, h2⟩, hek i x h1 h2⟩
  · intro v x hx
    obtain ⟨h1, h2⟩ := h.vN v x hx
    have hxS := hSv _ _ hx
    have hxk := hvk _ _ hx
    refine ⟨(he x hxS hxk).trans h1, ?_⟩
    have h3 := hd x hxS hxk
    have h4 := deg_out F.vs v h.idnd hm
    have h4 : F.deg v = (LF.mk F.vs (F.es.filter fun x => x.id != e.id)).deg v + if e.u = v ∨ e.v = v then 1 else 0 := h4
    have hiff : (x = a ∨ x = b) ↔ (e.u = v ∨ e.v = v) := by
      constructor
      · rintro (e1 | e1)
        · exact .inl (h.vinj _ _ a hu (e1 ▸ hx))
        · exact .inr (h.vinj _ _ b hv (e1 ▸ hx))
      · rintro (e1 | e1)
        · rw [e1, hx] at hu; injection hu with hu; exact .inl hu
        · rw [e1, hx] at hv; injection hv with hv; exact .inr hv
    rw [h2, h4] at h3
    by_cases hc : x = a ∨ x = b
    · rw [if_pos hc, if_pos (hiff.1 hc)] at h3; omega
    · rw [if_neg hc, if_neg (fun hh => hc (hiff.2 hh))] at h3; omega
  · intro y hy x hx
    obtain ⟨h1, h2⟩ := (hin y).1 hy
    have hx' := ((hes y.id x).1 hx).2
    rw [he x (hSe _ _ hx') (hek _ _ h2 hx')]
    exact h.eN y h1 x hx'
  · intro y hy
    exact h.ends y ((hin y).1 hy).1
  · intro y hy q hq x hx
    obtain ⟨h1, h2⟩ := (hin y).1 hy
    have hq' := ((hes y.id q).1 hq).2
    rw [hadj q x (hSe _ _ hq') hx.1 (hek _ _ h2 hq') hx.2]
    exact h.adj y h1 q hq' x hx.1
  · intro v q hq x hx hh
    have hqS := hSv _ _ hq
    obtain ⟨i, hi⟩ := h.vadj v q hq x hx.1 ((hadj q x hqS hx.1 (hvk _ _ hq) hx.2).1 hh)
    exact ⟨i, (hes i x).2 ⟨fun e1 => hx.2 (by rw [e1, hk] at hi; injection hi with hi; exact hi.symm), hi⟩⟩

end Go.Proofs.Ytlhkajlkapoabaa
