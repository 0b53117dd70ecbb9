/-
  What EulerBack asks: the trees behind Link, and behind Cut of the same edge. No walk.
-/
import Derived.Test.YtlakcldgolpaiaaZEL10
import Derived.Test.YtlakcldgolpaiaaZEL14
import Derived.Test.YtlakcldgolpaiaaZEC16
namespace Go.Proofs.Ytlakcldgolpaiaa
set_option linter.unusedVariables false

theorem mem_insI {n : Int} : ∀ {xs : List Int} {i : Int}, i ∈ insI n xs ↔ i ∈ xs ∨ i = n
  | [], i => by simp [insI]
  | x :: r, i => by
    rw [insI_cons]
    split
    · simp only [List.mem_cons]; constructor
      · rintro (h | h | h); exact .inr h; exact .inl (.inl h); exact .inl (.inr h)
      · rintro ((h | h) | h); exact .inr (.inl h); exact .inr (.inr h); exact .inl h
    · rw [List.mem_cons, mem_insI, List.mem_cons, or_assoc]

theorem insI_sorted {n : Int} : ∀ {xs : List Int}, xs.Pairwise (· < ·) → n ∉ xs → (insI n xs).Pairwise (· < ·)
  | [], _, _ => by simp [insI]
  | x :: r, h, hn => by
    rw [insI_cons]
    obtain ⟨h1, h2⟩ := List.pairwise_cons.1 h
    have hxn : n ≠ x := fun e => hn (by rw [e]; simp)
    split
    · rename_i hlt
      refine List.pairwise_cons.2 ⟨fun y hy => ?_, h⟩
      rcases List.mem_cons.1 hy with rfl | hy
      · exact hlt
      · have := h1 y hy; omega
    · rename_i hlt
      refine List.pairwise_cons.2 ⟨fun y hy => ?_, insI_sorted h2 fun e => hn (List.mem_cons_of_mem _ e)⟩
      rcases mem_insI.1 hy with hy | rfl
      · exact h1 y hy
      · omega

theorem insI_rise {n : Int} {xs : List Int} {P P' : Int → Prop} (h : Rise xs P) (hn : ¬ P n) (he : ∀ i, P' i ↔ P i ∨ i = n) : Rise (insI n xs) P' :=
  ⟨insI_sorted h.1 fun e => hn ((h.2 n).1 e), fun i => by rw [mem_insI, h.2, he]⟩

theorem insI_len (n : Int) : ∀ xs : List Int, (insI n xs).length = xs.length + 1
  | [] => rfl
  | x :: r => by
    rw [insI_cons]
    split
    · rfl
    · rw [List.length_cons, insI_len n r, List.length_cons]

theorem conn_link {E : List Edg} {id u v x y : Int} : Conn ((id, u, v) :: E) x y ↔ Conn E x y ∨ (Conn E x u ∧ Conn E v y) ∨ (Conn E x v ∧ Conn E u y) := by
  have hm : ∀ e ∈ E, e ∈ (id, u, v) :: E := fun e he => List.mem_cons_of_mem _ he
  have h1 := Conn.one (es := (id, u, v) :: E) (List.mem_cons_self ..)
  constructor
  · intro h
    induction h with
    | refl => exact .inl (.refl _)
    | @step a b i p q _ he hx ih =>
      rcases List.mem_cons.1 he with he | he
      · injection he with e1 e2
        injection e2 with e2 e3
        subst e2 e3
        rcases hx with ⟨rfl, rfl⟩ | ⟨rfl, rfl⟩
        · rcases ih with ih | ih | ih
          · exact .inr (.inl ⟨ih, .refl _⟩)
          · exact .inr (.inl ⟨ih.1, .refl _⟩)
          · exact .inl ih.1
        · rcases ih with ih | ih | ih
          · exact .inr (.inr ⟨ih, .refl _⟩)
          · exact .inl ih.1
          · exact .inr (.inr ⟨ih.1, .refl _⟩)
      · rcases ih with ih | ih | ih
        · exact .inl (.step ih he hx)
        · exact .inr (.inl ⟨ih.1, .step ih.2 he hx⟩)
        · exact .inr (.inr ⟨ih.1, .step ih.2 he hx⟩)
  · rintro (h | ⟨h, h'⟩ | ⟨h, h'⟩)
    · exact h.mono hm
    · exact ((h.mono hm).trans h1.1).trans (h'.mono hm)
    · exact ((h.mono hm).trans h1.2).trans (h'.mono hm)

section

variable {G : FS} {id u v w : Int}

theorem linkA_is (h : G.linkE id u v = 0) : (G.linkA id u v).vs = G.vs ∧ (G.linkA id u v).edges = (id, u, v) :: G.edges := by
  have ha : G.linkA id u v = G.link id u v ((G.pv u).getD 0) ((G.pv v).getD 0) := by unfold FS.linkA; rw [if_pos h]
  rw [ha]
  exact ⟨rfl, rfl⟩

/-- The two trees become one. -/
theorem link_tree (h : G.linkE id u v = 0) (i : Int) : (G.linkA id u v).inV v i ↔ G.inV u i ∨ G.inV v i := by
  obtain ⟨h1, h2⟩ := linkA_is h
  obtain ⟨-, -, -, -, hu, hv, hn⟩ := linkE_ok h
  unfold FS.inV
  rw [h1, h2, conn_link]
  constructor
  · rintro ⟨a, b | b | b⟩
    · exact .inr ⟨a, b⟩
    · exact absurd b.1.symm hn
    · exact .inl ⟨a, b.2⟩
  · rintro (⟨a, b⟩ | ⟨a, b⟩)
    · exact ⟨a, .inr (.inr ⟨.refl _, b⟩)⟩
    · exact ⟨a, .inl b⟩

/-- No vertex stands in both. -/
theorem link_apart (h : G.linkE id u v = 0) {i : Int} (hi : i ∈ G.treeV v) : i ∉ G.treeV u := by
  obtain ⟨-, -, -, -, hu, hv, hn⟩ := linkE_ok h
  intro hj
  exact hn ((((G.riseV hu).2 i).1 hj).2.trans (((G.riseV hv).2 i).1 hi).2.symm)

/-- All other vertices stay in their trees. -/
theorem link_other (h : G.linkE id u v = 0) (hw : w ∉ (G.linkA id u v).treeV v) : (G.linkA id u v).treeV w = G.treeV w := by
  obtain ⟨h1, h2⟩ := linkA_is h
  obtain ⟨-, -, -, -, hu, hv, hn⟩ := linkE_ok h
  by_cases hin : w ∈ G.vs
  · have hin' : w ∈ (G.linkA id u v).vs := by rw [h1]; exact hin
    have hv' : v ∈ (G.linkA id u v).vs := by rw [h1]; exact hv
    have hno : ¬ (G.inV u w ∨ G.inV v w) := fun e => hw (((G.linkA id u v).riseV hv').2 w |>.2 ((link_tree h w).2 e))
    refine rise_unique ((G.linkA id u v).riseV hin') ((G.riseV hin).congr fun i => ?_)
    unfold FS.inV
    rw [h1, h2, conn_link]
    constructor
    · exact fun e => ⟨e.1, .inl e.2⟩
    · rintro ⟨a, b | b | b⟩
      · exact ⟨a, b⟩
      · exact absurd (.inl ⟨hin, b.1.symm⟩) hno
      · exact absurd (.inr ⟨hin, b.1.symm⟩) hno
  · rw [G.outV hin, (G.linkA id u v).outV (by rw [h1]; exact hin)]

theorem link_err (h : G.linkE id u v = 0) (w : Int) : (G.linkA id u v).errV w = G.errV w := by unfold FS.errV; rw [(linkA_is h).1]

/-- Cut takes back what Link did. -/
theorem link_cut (h : G.linkE id u v = 0) : (G.linkA id u v).cutE id = 0 ∧ G.Like ((G.linkA id u v).cutA id) ∧ id ∉ ids ((G.linkA id u v).cutA id).edges := by
  obtain ⟨h1, h2⟩ := linkA_is h
  obtain ⟨ho, -, -, hid, -, -, -⟩ := linkE_ok h
  obtain ⟨c1, c2, -, -⟩ := cut_ok (F := G.linkA id u v) ⟨h1, h2⟩ (id := id) ho (by simp [ids])
  have hf : ((id, u, v) :: G.edges).filter (fun e => !decide (e.1 = id)) = G.edges := by
    rw [List.filter_cons]
    rw [if_neg (by simp)]
    refine List.filter_eq_self.2 fun e he => ?_
    have : e.1 ≠ id := fun e1 => hid (List.mem_map.2 ⟨e, he, e1⟩)
    simp [this]
  have c3 := c2.es
  rw [hf] at c3
  exact ⟨c1, ⟨c2.vs, c3⟩, by rw [c3]; exact hid⟩

/-- What a link that is refused tells. -/
theorem link_refused (h : G.linkE id u v = 51) : G.errV u ≠ 0 ∨ G.errV v ≠ 0 := by
  by_cases hu : u ∈ G.vs
  · by_cases hv : v ∈ G.vs
    · exfalso
      unfold FS.linkE at h
      split at h
      · split at h
        · omega
        · rw [if_pos ⟨hu, hv⟩] at h
          split at h <;> omega
      · omega
    · right; rw [G.errV_out hv]; decide
  · left; rw [G.errV_out hu]; decide

theorem errV_cases (G : FS) (u : Int) : u ∈ G.vs ∧ G.errV u = 0 ∨ u ∉ G.vs ∧ G.errV u = 51 := by
  by_cases h : u ∈ G.vs
  · exact .inl ⟨h, G.errV_in h⟩
  · exact .inr ⟨h, G.errV_out h⟩

end

end Go.Proofs.Ytlakcldgolpaiaa
