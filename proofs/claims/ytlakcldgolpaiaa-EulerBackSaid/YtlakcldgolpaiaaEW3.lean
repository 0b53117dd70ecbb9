/-
  Closed walks: who is joined. No walk of code.
-/
import Derived.Test.YtlakcldgolpaiaaEW2
namespace Go.Proofs.Ytlakcldgolpaiaa
set_option linter.unusedVariables false

/-- Joined by edges. -/
inductive Conn (es : List Edg) : Int → Int → Prop
  | refl (u : Int) : Conn es u u
  | step {u v x id p q : Int} : Conn es u v → (id, p, q) ∈ es → (v = p ∧ x = q ∨ v = q ∧ x = p) → Conn es u x

theorem Conn.mono {es fs : List Edg} {u v : Int} (h : Conn es u v) (hs : ∀ e ∈ es, e ∈ fs) : Conn fs u v := by
  induction h with
  | refl => exact .refl _
  | step _ he hx ih => exact .step ih (hs _ he) hx

theorem Conn.trans {es : List Edg} {u v x : Int} (h : Conn es u v) (h' : Conn es v x) : Conn es u x := by
  induction h' with
  | refl => exact h
  | step _ he hx ih => exact .step ih he hx

theorem Conn.one {es : List Edg} {id p q : Int} (h : (id, p, q) ∈ es) : Conn es p q ∧ Conn es q p := ⟨.step (.refl _) h (.inl ⟨rfl, rfl⟩), .step (.refl _) h (.inr ⟨rfl, rfl⟩)⟩

theorem Conn.symm {es : List Edg} {u v : Int} (h : Conn es u v) : Conn es v u := by
  induction h with
  | refl => exact .refl _
  | @step v x id p q h1 he hx ih =>
    rcases hx with ⟨rfl, rfl⟩ | ⟨rfl, rfl⟩
    · exact (Conn.one he).2.trans ih
    · exact (Conn.one he).1.trans ih

theorem vt_ne_et (i j : Int) : vt i ≠ et j := fun e => by simp [vt, et] at e

theorem vt_inj {i j : Int} (h : vt i = vt j) : i = j := by injection h

theorem link_mem {A B : List Tok} {id x : Int} : vt x ∈ A ++ (et id :: (B ++ [et id])) ↔ vt x ∈ A ∨ vt x ∈ B := by
  rw [List.mem_append, List.mem_cons (a := vt x) (b := et id), List.mem_append, List.mem_singleton]
  constructor
  · rintro (h | h | h | h)
    · exact .inl h
    · exact absurd h (vt_ne_et _ _)
    · exact .inr h
    · exact absurd h (vt_ne_et _ _)
  · rintro (h | h)
    · exact .inl h
    · exact .inr (.inr (.inl h))

/-- An edge's ends stand in the walk. -/
theorem tour_ends {w : List Tok} {es : List Edg} (h : Tour w es) : ∀ id p q, (id, p, q) ∈ es → vt p ∈ w ∧ vt q ∈ w := by
  induction h with
  | vert u => intro id p q hm; cases hm
  | turn h ih => intro id p q hm; have := ih id p q hm; rw [List.mem_append, List.mem_append] at this ⊢; exact ⟨this.1.symm, this.2.symm⟩
  | perm hp _ ih => intro id p q hm; exact ih id p q (hp.mem_iff.2 hm)
  | @link A B es fs j u v p0 q0 h1 h2 hu hv hpq ih1 ih2 =>
    intro id p q hm
    rw [link_mem, link_mem]
    rcases List.mem_cons.1 hm with hm | hm
    · injection hm with e1 e2
      injection e2 with e2 e3
      subst e1 e2 e3
      rcases hpq with ⟨rfl, rfl⟩ | ⟨rfl, rfl⟩
      · exact ⟨.inl hu.mem, .inr hv.mem⟩
      · exact ⟨.inr hv.mem, .inl hu.mem⟩
    · rcases List.mem_append.1 hm with hm | hm
      · exact ⟨.inl (ih1 _ _ _ hm).1, .inl (ih1 _ _ _ hm).2⟩
      · exact ⟨.inr (ih2 _ _ _ hm).1, .inr (ih2 _ _ _ hm).2⟩

/-- All vertices of a walk are joined by its edges. -/
theorem tour_conn {w : List Tok} {es : List Edg} (h : Tour w es) : ∀ x y, vt x ∈ w → vt y ∈ w → Conn es x y := by
  induction h with
  | vert u =>
    intro x y hx hy
    rw [vt_inj (List.mem_singleton.1 hx), vt_inj (List.mem_singleton.1 hy)]
    exact .refl _
  | turn h ih => intro x y hx hy; exact ih x y (by rw [List.mem_append] at hx ⊢; exact hx.symm) (by rw [List.mem_append] at hy ⊢; exact hy.symm)
  | perm hp _ ih => intro x y hx hy; exact (ih x y hx hy).mono fun e he => hp.mem_iff.1 he
  | @link A B es fs j u v p q h1 h2 ha hb hpq ih1 ih2 =>
    have m1 : ∀ e ∈ es, e ∈ (j, p, q) :: (es ++ fs) := fun e he => by simp [he]
    have m2 : ∀ e ∈ fs, e ∈ (j, p, q) :: (es ++ fs) := fun e he => by simp [he]
    have huv : Conn ((j, p, q) :: (es ++ fs)) u v := by
      rcases hpq with ⟨rfl, rfl⟩ | ⟨rfl, rfl⟩
      · exact (Conn.one (List.mem_cons_self ..)).1
      · exact (Conn.one (List.mem_cons_self ..)).2
    have hu : ∀ x, vt x ∈ A ++ (et j :: (B ++ [et j])) → Conn ((j, p, q) :: (es ++ fs)) u x := by
      intro x hx
      rcases link_mem.1 hx with hx | hx
      · exact (ih1 u x ha.mem hx).mono m1
      · exact huv.trans ((ih2 v x hb.mem hx).mono m2)
    intro x y hx hy
    exact (hu x hx).symm.trans (hu y hy)

/-- Where each edge's ends stand in one walk, what is joined stands in one. -/
theorem conn_stays {es : List Edg} {S : Int → Prop} (hs : ∀ id p q, (id, p, q) ∈ es → (S p ↔ S q)) {u v : Int} (h : Conn es u v) : S u → S v := by
  induction h with
  | refl => exact id
  | step _ he hx ih =>
    intro hu
    rcases hx with ⟨rfl, rfl⟩ | ⟨rfl, rfl⟩
    · exact (hs _ _ _ he).1 (ih hu)
    · exact (hs _ _ _ he).2 (ih hu)

end Go.Proofs.Ytlakcldgolpaiaa
