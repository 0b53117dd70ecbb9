/-
  A forest in plain words: what Cut makes of it. No walk of code.
-/
import Derived.Test.YtlakcldgolpaiaaEW7
namespace Go.Proofs.Ytlakcldgolpaiaa
set_option linter.unusedVariables false

theorem up_apart {V : Type} {M : RM V} {X Y : List Nat} {R : List (List Nat)} (ok : M.Ok) {c d : Nat} (r : M.rows.Perm (X :: Y :: [c] :: [d] :: R)) : c ∉ X ∧ c ∉ Y ∧ c ≠ d ∧ ∀ zs ∈ R, c ∉ zs := by
  have ap := perm_apart ok (r.trans ((List.Perm.cons _ (List.Perm.swap _ _ _)).trans (List.Perm.swap _ _ _))) (a := c) (by simp)
  exact ⟨ap X (by simp), ap Y (by simp), fun e => ap [d] (by simp) (by simp [e]), fun zs hz => ap zs (by simp [hz])⟩

section

variable {V : Type} {M : RM V} {pv : Int → Option Nat} {pe : Int → Option (Nat × Nat)} {who : List Tok} {free : List Nat} {edges : List Edg} {W : List (List Nat)} {xs : List Nat} {p0 p1 : Nat}

theorem FOk.cut (h : FOk M pv pe who free edges (xs :: W)) {id : Int} (he : pe id = some (p0, p1)) (h0 : p0 ∈ xs) :
    ∃ X Y, CutOutM M xs (W ++ lone free) p0 p1 X Y ∧ (∀ c, c ∈ xs ↔ c ∈ X ∨ c ∈ Y ∨ c = p0 ∨ c = p1) ∧ ∀ (who' : List Tok) (free' : List Nat), who'.length = who.length → (∀ c ∈ (X :: Y :: W).flatten, tok who' c = tok who c) → free'.Perm (p0 :: p1 :: free) →
      FOk (cutM M p0 p1) pv (putE pe id none) who' free' (edges.filter fun e => !decide (e.1 = id)) (X :: Y :: W) := by
  obtain ⟨es, ht, hes⟩ := h.tour xs (by simp)
  obtain ⟨hp1, hnd⟩ := h.pair he h0 ht
  obtain ⟨hne, -, -, t0, t1⟩ := h.edge id p0 p1 he
  obtain ⟨f, l, A, X, B, hx, ho⟩ := two_split h0 hp1 hne
  have tf : tok who f = et id ∧ tok who l = et id := by
    rcases ho with ⟨rfl, rfl⟩ | ⟨rfl, rfl⟩
    · exact ⟨t0, t1⟩
    · exact ⟨t1, t0⟩
  have k1 := ht
  rw [hx, List.map_append, List.map_cons, List.map_append, List.map_cons, tf.1, tf.2] at k1
  obtain ⟨es1, es2, p, q, hc0⟩ := tour_cuts k1 hnd id (X.map (tok who)) (B.map (tok who) ++ A.map (tok who)) ⟨A.map (tok who), et id :: (X.map (tok who) ++ et id :: B.map (tok who)), rfl, by simp⟩
  have hc : CutOut es id (X.map (tok who)) ((A ++ B).map (tok who)) es1 es2 p q :=
    ⟨hc0.fst, by rw [List.map_append]; exact .turn hc0.snd, hc0.perm, by
      have := hc0.ends
      simp only [List.map_append, List.mem_append] at this ⊢
      rcases this with ⟨h1, h2⟩ | ⟨h1, h2⟩
      · exact .inl ⟨h1, h2.symm⟩
      · exact .inr ⟨h1, h2.symm⟩⟩
  obtain ⟨Y, hY0⟩ : ∃ Y, Y = A ++ B := ⟨_, rfl⟩
  have hX : X ≠ [] := fun e => tour_ne hc.fst (by rw [e]; rfl)
  have hAB : A ++ B ≠ [] := fun e => tour_ne hc.snd (by rw [e]; rfl)
  have C := cutPP h.ok hx h.rows ho hX hAB
  have hm0 : ∀ c, c ∈ xs ↔ c ∈ X ∨ c ∈ A ++ B ∨ c = p0 ∨ c = p1 := by
    intro c
    rw [hx]
    simp only [List.mem_append, List.mem_cons]
    rcases ho with ⟨rfl, rfl⟩ | ⟨rfl, rfl⟩
    · grind
    · grind
  rw [← hY0] at hc C hm0
  refine ⟨X, Y, C, hm0, fun who' free' hlen same hfree => ?_⟩
  have hm : ∀ c, c ∈ (xs :: W).flatten ↔ c ∈ (X :: Y :: W).flatten ∨ c = p0 ∨ c = p1 := by
    intro c
    have := hm0 c
    simp only [List.flatten_cons, List.mem_append]
    rw [this]
    constructor
    · rintro ((h | h | h | h) | h) <;> simp [h]
    · rintro ((h | h | h) | h | h) <;> simp [h]
  have a0 := up_apart C.ok C.rows
  have a1 := up_apart C.ok (C.rows.trans (List.Perm.cons _ (List.Perm.cons _ (List.Perm.swap _ _ _))))
  have apart : ∀ c, c = p0 ∨ c = p1 → c ∉ (X :: Y :: W).flatten := by
    intro c hc hi
    obtain ⟨zs, hzs, hcz⟩ := List.mem_flatten.1 hi
    have hzs2 : zs = X ∨ zs = Y ∨ zs ∈ W ++ lone free := by
      rcases List.mem_cons.1 hzs with h | h
      · exact .inl h
      · rcases List.mem_cons.1 h with h | h
        · exact .inr (.inl h)
        · exact .inr (.inr (List.mem_append_left _ h))
    rcases hc with rfl | rfl
    · rcases hzs2 with rfl | rfl | hzs2
      · exact a0.1 hcz
      · exact a0.2.1 hcz
      · exact a0.2.2.2 zs hzs2 hcz
    · rcases hzs2 with rfl | rfl | hzs2
      · exact a1.1 hcz
      · exact a1.2.1 hcz
      · exact a1.2.2.2 zs hzs2 hcz
  have tk : ∀ c, c = p0 ∨ c = p1 → tok who c = et id := by
    rintro c (rfl | rfl)
    · exact t0
    · exact t1
  have nid : id ∉ ids (es1 ++ es2) := by
    have := (ids_perm hc.perm).nodup_iff.1 hnd
    exact (List.nodup_cons.1 (show (id :: ids (es1 ++ es2)).Nodup from this)).1
  have keep : ∀ e ∈ es1 ++ es2, e ∈ edges.filter fun e => !decide (e.1 = id) := by
    intro e hm
    refine List.mem_filter.2 ⟨hes e (hc.perm.mem_iff.2 (List.mem_cons_of_mem _ hm)), ?_⟩
    have : e.1 ≠ id := fun h => nid (List.mem_map.2 ⟨e, hm, h⟩)
    simpa using this
  refine ⟨C.ok, by rw [hlen, cut_own2]; exact h.len, ?_, ?_, ?_, ?_, ?_, ?_, ?_⟩
  · refine C.rows.trans ?_
    show (X :: Y :: [p0] :: [p1] :: (W ++ lone free)).Perm (X :: Y :: (W ++ lone free'))
    refine List.Perm.cons _ (List.Perm.cons _ ?_)
    have e1 : (lone free').Perm ([p0] :: [p1] :: lone free) := hfree.map _
    refine List.Perm.trans ?_ (e1.symm.append_left W)
    exact ((List.perm_middle).trans (List.Perm.cons _ List.perm_middle)).symm
  · intro zs hz
    have st : ∀ c ∈ zs, tok who' c = tok who c := fun c hcz => same c (List.mem_flatten.2 ⟨zs, hz, hcz⟩)
    rw [tok_map st]
    rcases List.mem_cons.1 hz with rfl | hz
    · exact ⟨es1, hc.fst, fun e hm => keep e (List.mem_append_left _ hm)⟩
    rcases List.mem_cons.1 hz with rfl | hz
    · exact ⟨es2, hc.snd, fun e hm => keep e (List.mem_append_right _ hm)⟩
    · obtain ⟨fs, h1, h2⟩ := h.tour zs (by simp [hz])
      refine ⟨fs, h1, fun e hm => List.mem_filter.2 ⟨h2 e hm, ?_⟩⟩
      have : e.1 ≠ id := by
        intro e1
        have h3 := (tour_et h1).2 (List.mem_map.2 ⟨e, hm, e1⟩)
        obtain ⟨c, hcz, h4⟩ := List.mem_map.1 h3
        obtain ⟨b, d, h5, h6⟩ := h.only c (List.mem_flatten.2 ⟨zs, by simp [hz], hcz⟩) id h4
        rw [he] at h5
        injection h5 with h5
        injection h5 with h7 h8
        subst h7 h8
        exact apart c h6 (List.mem_flatten.2 ⟨zs, by simp [hz], hcz⟩)
      simpa using this
  · exact (List.filter_sublist.map _).nodup h.nd
  · intro i c
    rw [h.vert i c, hm]
    constructor
    · rintro ⟨h1 | h1, h2⟩
      · exact ⟨h1, by rw [same c h1]; exact h2⟩
      · rw [tk c h1] at h2
        exact absurd h2.symm (vt_ne_et _ _)
    · rintro ⟨h1, h2⟩
      exact ⟨.inl h1, by rw [← same c h1]; exact h2⟩
  · intro i c d e
    unfold putE at e
    split at e
    · cases e
    · rename_i hi
      obtain ⟨h1, h2, h3, h4, h5⟩ := h.edge i c d e
      have hcn : c ∈ (X :: Y :: W).flatten := by
        rcases (hm c).1 h2 with h | h
        · exact h
        · rw [tk c h] at h4; exact absurd (by injection h4 with _ e; exact e.symm) hi
      have hdn : d ∈ (X :: Y :: W).flatten := by
        rcases (hm d).1 h3 with h | h
        · exact h
        · rw [tk d h] at h5; exact absurd (by injection h5 with _ e; exact e.symm) hi
      exact ⟨h1, hcn, hdn, by rw [same c hcn]; exact h4, by rw [same d hdn]; exact h5⟩
  · intro c hcn i hi
    rw [same c hcn] at hi
    obtain ⟨x, y, h1, h2⟩ := h.only c ((hm c).2 (.inl hcn)) i hi
    have hne2 : i ≠ id := by
      intro e
      rw [e, he] at h1
      injection h1 with h1
      injection h1 with h3 h4
      subst h3 h4
      exact apart c h2 hcn
    exact ⟨x, y, by unfold putE; rw [if_neg hne2]; exact h1, h2⟩
  · intro i
    unfold putE
    by_cases e : i = id
    · rw [if_pos e]
      simp only [ne_eq, not_true_eq_false, iff_false]
      intro hi
      obtain ⟨z, hz1, hz2⟩ := List.mem_map.1 hi
      have := (List.mem_filter.1 hz1).2
      rw [hz2, e] at this
      simp at this
    · rw [if_neg e, ← h.has i]
      constructor
      · intro hi
        obtain ⟨z, hz1, hz2⟩ := List.mem_map.1 hi
        exact List.mem_map.2 ⟨z, (List.mem_filter.1 hz1).1, hz2⟩
      · intro hi
        obtain ⟨z, hz1, hz2⟩ := List.mem_map.1 hi
        exact List.mem_map.2 ⟨z, List.mem_filter.2 ⟨hz1, by rw [hz2]; simpa using e⟩, hz2⟩

end

end Go.Proofs.Ytlakcldgolpaiaa
