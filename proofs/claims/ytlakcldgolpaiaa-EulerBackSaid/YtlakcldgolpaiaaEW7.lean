/-
  A forest in plain words: what Link makes of it. No walk of code.
-/
import Derived.Test.YtlakcldgolpaiaaEW6
namespace Go.Proofs.Ytlakcldgolpaiaa
set_option linter.unusedVariables false

theorem tok_map {who who' : List Tok} {xs : List Nat} (h : ∀ c ∈ xs, tok who' c = tok who c) : xs.map (tok who') = xs.map (tok who) := List.map_congr_left h

def putE (pe : Int → Option (Nat × Nat)) (id : Int) (v : Option (Nat × Nat)) : Int → Option (Nat × Nat) := fun i => if i = id then v else pe i

theorem turned {who : List Tok} {xs P Q Z : List Nat} {a : Nat} {es : List Edg} (h : Tour (xs.map (tok who)) es) (hx : xs = P ++ a :: Q) (hz : Z = Q ++ P) : Tour (tok who a :: Z.map (tok who)) es := by
  subst hx hz
  rw [List.map_append] at h
  have := Tour.turn h
  simpa using this

section

variable {V : Type} {M : RM V} {pv : Int → Option Nat} {pe : Int → Option (Nat × Nat)} {who : List Tok} {free : List Nat} {edges : List Edg} {W : List (List Nat)} {xs ys : List Nat} {a b p0 p1 : Nat}

theorem FOk.link (h : FOk M pv pe who free edges (xs :: ys :: W)) {id u v : Int} (ha : a ∈ xs) (hb : b ∈ ys) (tu : tok who a = vt u) (tv : tok who b = vt v) (hid : pe id = none) {M1 : RM V} {who1 : List Tok} {free1 : List Nat} (ok1 : M1.Ok) (len1 : who1.length = M1.own.length + 1)
    (rows1 : M1.rows.Perm (xs :: ys :: [p0] :: [p1] :: (W ++ lone free1))) (same : ∀ c ∈ (xs :: ys :: W).flatten, tok who1 c = tok who c) (t0 : tok who1 p0 = et id) (t1 : tok who1 p1 = et id) :
    ∃ P Q Z, LinkOut M1 xs ys (W ++ lone free1) a b p0 p1 P Q Z ∧ FOk (linkM M1 a b p0 p1) pv (putE pe id (some (p0, p1))) who1 free1 ((id, u, v) :: edges) ((P ++ a :: (p0 :: ((b :: Z) ++ p1 :: Q))) :: W) := by
  obtain ⟨P, Q, Z, L⟩ := linkP ok1 rows1 ha hb
  refine ⟨P, Q, Z, L, ?_⟩
  have hx := L.z1
  obtain ⟨P2, Q2, hy, hz2⟩ := L.z2
  have hmem : ∀ c, c ∈ ((P ++ a :: (p0 :: ((b :: Z) ++ p1 :: Q))) :: W).flatten ↔ c ∈ (xs :: ys :: W).flatten ∨ c = p0 ∨ c = p1 := by
    intro c
    rw [hx, hy, hz2]
    simp only [List.flatten_cons, List.mem_append, List.mem_cons]
    grind
  have q0 : p0 ∉ (xs :: ys :: W).flatten ∧ p1 ∉ (xs :: ys :: W).flatten ∧ p0 ≠ p1 := by
    have r1 : M1.rows.Perm (xs :: ys :: [p1] :: [p0] :: (W ++ lone free1)) := rows1.trans (List.Perm.cons _ (List.Perm.cons _ (List.Perm.swap _ _ _)))
    have up : ∀ (c d : Nat), M1.rows.Perm (xs :: ys :: [c] :: [d] :: (W ++ lone free1)) → c ∉ (xs :: ys :: W).flatten ∧ c ≠ d := by
      intro c d r
      have ap := perm_apart ok1 (r.trans ((List.Perm.cons _ (List.Perm.swap _ _ _)).trans (List.Perm.swap _ _ _))) (a := c) (by simp)
      refine ⟨fun hm => ?_, fun e => ap [d] (by simp) (by simp [e])⟩
      obtain ⟨zs, hz, hc⟩ := List.mem_flatten.1 hm
      refine ap zs ?_ hc
      simp only [List.mem_cons, List.mem_append] at hz ⊢
      rcases hz with h | h | h <;> simp [h]
    exact ⟨(up _ _ rows1).1, (up _ _ r1).1, (up _ _ rows1).2⟩
  have tv' : ∀ c, c = p0 ∨ c = p1 → tok who1 c = et id := by
    rintro c (rfl | rfl)
    · exact t0
    · exact t1
  have no : id ∉ ids edges := fun hi => (h.has id).1 hi hid
  have sx : ∀ c ∈ xs, tok who1 c = tok who c := fun c hc => same c (by simp [hc])
  have sy : ∀ c ∈ ys, tok who1 c = tok who c := fun c hc => same c (by simp [hc])
  refine ⟨L.ok, by rw [link_own]; exact len1, L.rows, ?_, ?_, ?_, ?_, ?_, ?_⟩
  · intro zs hz
    rcases List.mem_cons.1 hz with rfl | hz
    · obtain ⟨es, h1, h2⟩ := h.tour xs (by simp)
      obtain ⟨fs, h3, h4⟩ := h.tour ys (by simp)
      rw [← tok_map sx] at h1
      rw [← tok_map sy] at h3
      have k2 := turned h3 hy hz2
      rw [sy b hb, tv] at k2
      rw [hx, List.map_append, List.map_cons, sx a ha, tu] at h1
      have k3 := tour_insert (P := P.map (tok who1) ++ [vt u]) (Q := Q.map (tok who1)) (id := id) (u := u) (v := v) (p := u) (q := v) (by simpa using h1) (.inr ⟨Q.map (tok who1) ++ P.map (tok who1), by simp⟩) k2 (.inl ⟨_, rfl⟩) (.inl ⟨rfl, rfl⟩)
      refine ⟨(id, u, v) :: (es ++ fs), ?_, ?_⟩
      · simp only [List.map_append, List.map_cons, t0, t1, sx a ha, sy b hb, tu, tv]
        simpa using k3
      · intro e he
        rcases List.mem_cons.1 he with rfl | he
        · exact List.mem_cons_self ..
        · rcases List.mem_append.1 he with he | he
          · exact List.mem_cons_of_mem _ (h2 e he)
          · exact List.mem_cons_of_mem _ (h4 e he)
    · obtain ⟨es, h1, h2⟩ := h.tour zs (by simp [hz])
      rw [← tok_map (who' := who1) (fun c hc => same c (by simp only [List.flatten_cons, List.mem_append]; exact .inr (.inr (List.mem_flatten.2 ⟨zs, hz, hc⟩))))] at h1
      exact ⟨es, h1, fun e he => List.mem_cons_of_mem _ (h2 e he)⟩
  · show (id :: ids edges).Nodup
    exact List.nodup_cons.2 ⟨no, h.nd⟩
  · intro i c
    rw [hmem]
    constructor
    · intro e
      obtain ⟨h1, h2⟩ := (h.vert i c).1 e
      exact ⟨.inl h1, by rw [same c h1]; exact h2⟩
    · rintro ⟨h1 | h1, h2⟩
      · exact (h.vert i c).2 ⟨h1, by rw [← same c h1]; exact h2⟩
      · rw [tv' c h1] at h2
        exact absurd h2.symm (vt_ne_et _ _)
  · intro i c d e
    rw [hmem, hmem]
    unfold putE at e
    split at e
    · rename_i hi
      injection e with e
      injection e with e1 e2
      subst e1 e2 hi
      exact ⟨q0.2.2, .inr (.inl rfl), .inr (.inr rfl), t0, t1⟩
    · obtain ⟨h1, h2, h3, h4, h5⟩ := h.edge i c d e
      exact ⟨h1, .inl h2, .inl h3, by rw [same c h2]; exact h4, by rw [same d h3]; exact h5⟩
  · intro c hc i hi
    unfold putE
    rcases (hmem c).1 hc with h1 | h1
    · rw [same c h1] at hi
      obtain ⟨x, y, h2, h3⟩ := h.only c h1 i hi
      have hne : i ≠ id := fun e => by rw [e, hid] at h2; cases h2
      exact ⟨x, y, by rw [if_neg hne]; exact h2, h3⟩
    · rw [tv' c h1] at hi
      have : id = i := by injection hi
      exact ⟨p0, p1, by rw [if_pos this.symm], h1⟩
  · intro i
    show i ∈ id :: ids edges ↔ _
    unfold putE
    by_cases e : i = id
    · simp [e]
    · rw [if_neg e, ← h.has i]
      simp [e]

/-- One edge's two places stand in one walk, and its ids stand once. -/
theorem FOk.pair (h : FOk M pv pe who free edges (xs :: W)) {id : Int} (he : pe id = some (p0, p1)) (h0 : p0 ∈ xs) {es : List Edg} (ht : Tour (xs.map (tok who)) es) : p1 ∈ xs ∧ (ids es).Nodup := by
  have hnd : xs.Nodup := row_nodup h.ok (h.rows.mem_iff.2 (List.mem_cons_self ..))
  have key : ∀ i b c, pe i = some (b, c) → (xs.map (tok who)).count (et i) ≤ 2 ∧ (b ∈ xs → (xs.map (tok who)).count (et i) = 2 → c ∈ xs) := by
    intro i b c hi
    have hcnt : (xs.map (tok who)).count (et i) = (xs.filter fun d => tok who d == et i).length := by
      rw [List.count_eq_countP, List.countP_map, List.countP_eq_length_filter]; rfl
    have hsub : (xs.filter fun d => tok who d == et i) ⊆ [b, c] := by
      intro d hd
      obtain ⟨h1, h2⟩ := List.mem_filter.1 hd
      obtain ⟨b', c', h3, h4⟩ := h.only d (by simp [h1]) i (by simpa using h2)
      rw [hi] at h3
      injection h3 with h3
      injection h3 with h5 h6
      subst h5 h6
      simpa using h4
    have hndf : (xs.filter fun d => tok who d == et i).Nodup := hnd.filter _
    rw [hcnt]
    refine ⟨hndf.length_le_of_subset hsub, fun hb h2 => ?_⟩
    by_cases hc : c ∈ xs
    · exact hc
    · exfalso
      have hsub2 : (xs.filter fun d => tok who d == et i) ⊆ [b] := by
        intro d hd
        have h1 := hsub hd
        simp at h1 ⊢
        rcases h1 with h1 | h1
        · exact h1
        · rw [h1] at hd; exact absurd (List.mem_filter.1 hd).1 hc
      have := hndf.length_le_of_subset hsub2
      simp at this
      omega
  have hmem : ∀ i, i ∈ ids es → ∃ b c, pe i = some (b, c) := by
    intro i hi
    have := (tour_et ht).2 hi
    obtain ⟨d, hd, e⟩ := List.mem_map.1 this
    obtain ⟨b, c, h1, _⟩ := h.only d (by simp [hd]) i e
    exact ⟨b, c, h1⟩
  refine ⟨?_, List.nodup_iff_count.2 fun i => ?_⟩
  · refine (key id p0 p1 he).2 h0 ?_
    have h1 := tour_count ht id
    have h2 : 0 < (xs.map (tok who)).count (et id) := List.count_pos_iff.2 (List.mem_map.2 ⟨p0, h0, (h.edge id p0 p1 he).2.2.2.1⟩)
    have h3 := (key id p0 p1 he).1
    omega
  · by_cases hi : i ∈ ids es
    · obtain ⟨b, c, h1⟩ := hmem i hi
      have h2 := (key i b c h1).1
      have h3 := tour_count ht i
      omega
    · rw [List.count_eq_zero.2 hi]; omega

end

end Go.Proofs.Ytlakcldgolpaiaa
