/-
  Closed walks in plain words: a tree's walk, links and cuts. No walk of code.
-/
import Derived.Test.YtlakcldgolpaiaaRP4
namespace Go.Proofs.Ytlakcldgolpaiaa
set_option linter.unusedVariables false

/-- Whose a place is: a vertex's, an edge's. -/
abbrev Tok := Bool × Int

def vt (i : Int) : Tok := (false, i)

def et (i : Int) : Tok := (true, i)

abbrev Edg := Int × Int × Int

/-- A walk that begins or ends at a vertex. -/
def End (u : Int) (A : List Tok) : Prop := (∃ a, A = vt u :: a) ∨ ∃ a, A = a ++ [vt u]

theorem End.mem {u : Int} {A : List Tok} (h : End u A) : vt u ∈ A := by
  rcases h with ⟨a, rfl⟩ | ⟨a, rfl⟩ <;> simp

/-- A closed walk around a tree, with the tree's edges. -/
inductive Tour : List Tok → List Edg → Prop
  | vert (u : Int) : Tour [vt u] []
  | turn {a b : List Tok} {es : List Edg} : Tour (a ++ b) es → Tour (b ++ a) es
  | perm {w : List Tok} {es fs : List Edg} : es.Perm fs → Tour w es → Tour w fs
  | link {A B : List Tok} {es fs : List Edg} {id u v p q : Int} : Tour A es → Tour B fs → End u A → End v B → (p = u ∧ q = v ∨ p = v ∧ q = u) → Tour (A ++ (et id :: (B ++ [et id]))) ((id, p, q) :: (es ++ fs))

def ids (es : List Edg) : List Int := es.map fun e => e.1

theorem ids_app (es fs : List Edg) : ids (es ++ fs) = ids es ++ ids fs := by unfold ids; rw [List.map_append]

theorem ids_perm {es fs : List Edg} (h : es.Perm fs) : (ids es).Perm (ids fs) := h.map _

theorem tour_ne {w : List Tok} {es : List Edg} (h : Tour w es) : w ≠ [] := by
  induction h with
  | vert u => simp
  | @turn a b es h ih =>
    intro e
    have := List.append_eq_nil_iff.1 e
    exact ih (by rw [this.1, this.2]; rfl)
  | perm _ _ ih => exact ih
  | link => simp

theorem count_et_vt (i u : Int) (w : List Tok) : (vt u :: w).count (et i) = w.count (et i) := by
  rw [List.count_cons]
  have : (vt u == et i) = false := by simp [vt, et]
  rw [this]; simp

theorem count_et_et (i j : Int) (w : List Tok) : (et j :: w).count (et i) = w.count (et i) + if j = i then 1 else 0 := by
  rw [List.count_cons]
  by_cases h : j = i
  · subst h; simp
  · have : (et j == et i) = false := by simp [et, h]
    rw [this, if_neg h]; simp

/-- An edge stands at two places. -/
theorem tour_count {w : List Tok} {es : List Edg} (h : Tour w es) (i : Int) : w.count (et i) = 2 * (ids es).count i := by
  induction h with
  | vert u => rw [count_et_vt]; simp [ids]
  | turn h ih => rw [List.count_append, Nat.add_comm, ← List.count_append]; exact ih
  | perm hp _ ih => rw [ih, (ids_perm hp).count_eq]
  | @link A B es fs id u v p q h1 h2 hu hv hpq ih1 ih2 =>
    have e : ids ((id, p, q) :: (es ++ fs)) = id :: (ids es ++ ids fs) := by rw [← ids_app]; rfl
    rw [e, List.count_append, count_et_et, List.count_append, ih1, ih2, count_et_et, List.count_cons, List.count_append]
    by_cases hj : id = i
    · subst hj; simp; omega
    · have : (id == i) = false := by simpa using hj
      rw [if_neg hj, this]; simp; omega

theorem tour_et {w : List Tok} {es : List Edg} (h : Tour w es) {i : Int} : et i ∈ w ↔ i ∈ ids es := by
  have hc := tour_count h i
  rw [← List.count_pos_iff, ← List.count_pos_iff, hc]
  omega

/-- A tree has one vertex more than edges. -/
theorem tour_verts {w : List Tok} {es : List Edg} (h : Tour w es) : (w.filter fun t => !t.1).length = es.length + 1 := by
  induction h with
  | vert u => rfl
  | turn h ih => rw [List.filter_append, List.length_append, Nat.add_comm, ← List.length_append, ← List.filter_append]; exact ih
  | perm hp _ ih => rw [ih, hp.length_eq]
  | @link A B es fs id u v p q h1 h2 hu hv hpq ih1 ih2 =>
    have e : (A ++ (et id :: (B ++ [et id]))).filter (fun t => !t.1) = A.filter (fun t => !t.1) ++ B.filter (fun t => !t.1) := by
      rw [List.filter_append]
      congr 1
      rw [List.filter_cons_of_neg (by simp [et]), List.filter_append]
      simp [et]
    rw [e, List.length_append, ih1, ih2]
    simp
    omega

/-! ### Turning -/

def Rot (w w' : List Tok) : Prop := ∃ a b, w = a ++ b ∧ w' = b ++ a

theorem Rot.refl (w : List Tok) : Rot w w := ⟨[], w, rfl, by simp⟩

theorem Rot.symm {w w' : List Tok} (h : Rot w w') : Rot w' w := by obtain ⟨a, b, h1, h2⟩ := h; exact ⟨b, a, h2, h1⟩

theorem Rot.trans {w w' w'' : List Tok} (h : Rot w w') (h' : Rot w' w'') : Rot w w'' := by
  obtain ⟨a, b, rfl, rfl⟩ := h
  obtain ⟨c, d, h1, rfl⟩ := h'
  rcases List.append_eq_append_iff.1 h1 with ⟨t, rfl, rfl⟩ | ⟨t, rfl, rfl⟩
  · exact ⟨t, d ++ b, by simp, by simp⟩
  · exact ⟨a ++ c, t, by simp, by simp⟩

theorem Rot.count {w w' : List Tok} (h : Rot w w') (t : Tok) : w'.count t = w.count t := by
  obtain ⟨a, b, rfl, rfl⟩ := h
  rw [List.count_append, List.count_append, Nat.add_comm]

theorem Rot.mem {w w' : List Tok} (h : Rot w w') {t : Tok} : t ∈ w' ↔ t ∈ w := by
  obtain ⟨a, b, rfl, rfl⟩ := h
  rw [List.mem_append, List.mem_append, Or.comm]

theorem Rot.tour {w w' : List Tok} {es : List Edg} (h : Rot w w') (ht : Tour w es) : Tour w' es := by
  obtain ⟨a, b, rfl, rfl⟩ := h
  exact .turn ht

/-! ### What stands where -/

theorem split_first {t : Tok} : ∀ {a b c d : List Tok}, a ++ t :: b = c ++ t :: d → t ∉ a → t ∉ c → a = c ∧ b = d
  | [], b, [], d, h, _, _ => by simp at h; exact ⟨rfl, h⟩
  | [], b, y :: c, d, h, _, hc => by simp at h; exact absurd (by rw [h.1]; simp) hc
  | x :: a, b, [], d, h, ha, _ => by simp at h; exact absurd (by rw [h.1]; simp) ha
  | x :: a, b, y :: c, d, h, ha, hc => by
    simp at h
    obtain ⟨rfl, h⟩ := h
    obtain ⟨rfl, rfl⟩ := split_first h (fun e => ha (List.mem_cons_of_mem _ e)) (fun e => hc (List.mem_cons_of_mem _ e))
    exact ⟨rfl, rfl⟩

theorem split_last {t : Tok} {a b c d : List Tok} (h : a ++ t :: b = c ++ t :: d) (hb : t ∉ b) (hd : t ∉ d) : a = c ∧ b = d := by
  have h2 := congrArg List.reverse h
  simp only [List.reverse_append, List.reverse_cons, List.append_assoc, List.singleton_append] at h2
  obtain ⟨e1, e2⟩ := split_first h2 (by simpa using hb) (by simpa using hd)
  exact ⟨List.reverse_inj.1 e2, List.reverse_inj.1 e1⟩

/-- What a walk becomes where another one hangs on one of its vertices. -/
theorem tour_insert {P Q B : List Tok} {es fs : List Edg} {id u v p q : Int} (h1 : Tour (P ++ Q) es) (hu : End u (Q ++ P)) (h2 : Tour B fs) (hv : End v B) (hpq : p = u ∧ q = v ∨ p = v ∧ q = u) :
    Tour (P ++ ((et id :: (B ++ [et id])) ++ Q)) ((id, p, q) :: (es ++ fs)) := by
  have h4 := Tour.link (id := id) (Tour.turn h1) h2 hu hv hpq
  exact Rot.tour ⟨Q, P ++ (et id :: (B ++ [et id])), by simp, by simp⟩ h4

end Go.Proofs.Ytlakcldgolpaiaa

/-
  What a closed walk is cut into. No walk of code.
-/
namespace Go.Proofs.Ytlakcldgolpaiaa
set_option linter.unusedVariables false

theorem rot_inside {A K : List Tok} {t : Tok} {z : List Tok} (h : Rot (A ++ K) (t :: z)) (ht : t ∉ K) (hK : K ≠ []) : ∃ P Q, z = P ++ (K ++ Q) ∧ A = Q ++ t :: P := by
  have key : ∃ P Q, t :: z = P ++ (K ++ Q) ∧ A = Q ++ P := by
    obtain ⟨c, d, h1, h2⟩ := h
    rcases List.append_eq_append_iff.1 h1 with ⟨l, rfl, rfl⟩ | ⟨l, rfl, rfl⟩
    · cases d with
      | nil => exact ⟨A, [], by simpa using h2, by simp⟩
      | cons s d =>
        simp at h2
        exact absurd (by rw [h2.1]; simp) ht
    · exact ⟨l, c, by simpa using h2, rfl⟩
  obtain ⟨P, Q, h1, h2⟩ := key
  cases P with
  | nil =>
    cases K with
    | nil => exact absurd rfl hK
    | cons k K =>
      simp at h1
      exact absurd (by rw [h1.1]; simp) ht
  | cons s P =>
    simp at h1
    obtain ⟨rfl, h1⟩ := h1
    exact ⟨P, Q, by simpa using h1, h2⟩

theorem mid_of {x y P K Q : List Tok} {t : Tok} (h : x ++ t :: y = P ++ (K ++ Q)) (ht : t ∉ K) (hK : K ≠ []) : (∃ P2, P = x ++ t :: P2 ∧ y = P2 ++ (K ++ Q)) ∨ ∃ Q2, x = P ++ (K ++ Q2) ∧ Q = Q2 ++ t :: y := by
  rcases List.append_eq_append_iff.1 h with ⟨l, h1, h2⟩ | ⟨l, h1, h2⟩
  · cases l with
    | nil =>
      cases K with
      | nil => exact absurd rfl hK
      | cons k K =>
        simp at h2
        exact absurd (by rw [h2.1]; simp) ht
    | cons s l =>
      simp at h2
      obtain ⟨rfl, h2⟩ := h2
      exact .inl ⟨l, h1, by simpa using h2⟩
  · rcases List.append_eq_append_iff.1 h2 with ⟨l2, h3, h4⟩ | ⟨l2, h3, h4⟩
    · exact .inr ⟨l2, by rw [h1, h3], h4⟩
    · cases l2 with
      | nil =>
        simp at h3 h4
        exact .inr ⟨[], by rw [h1, ← h3]; simp, by simp [h4]⟩
      | cons s l2 =>
        simp at h4
        exact absurd (by rw [h3, h4.1]; simp) ht

/-- What an edge's going leaves. -/
structure CutOut (es : List Edg) (id : Int) (x y : List Tok) (es1 es2 : List Edg) (p q : Int) : Prop where
  fst : Tour x es1
  snd : Tour y es2
  perm : es.Perm ((id, p, q) :: (es1 ++ es2))
  ends : vt p ∈ x ∧ vt q ∈ y ∨ vt q ∈ x ∧ vt p ∈ y

def Cuts (w : List Tok) (es : List Edg) : Prop := (ids es).Nodup → ∀ (id : Int) (x y : List Tok), Rot w (et id :: (x ++ et id :: y)) → ∃ es1 es2 p q, CutOut es id x y es1 es2 p q

theorem head_vt {u i : Int} {a Q P : List Tok} (h : vt u :: a = Q ++ et i :: P) : ∃ Q1, Q = vt u :: Q1 := by
  cases Q with
  | nil => simp [vt, et] at h
  | cons s Q => simp at h; exact ⟨Q, by rw [h.1]⟩

theorem last_vt {u i : Int} {a Q P : List Tok} (h : a ++ [vt u] = Q ++ et i :: P) : ∃ P1, P = P1 ++ [vt u] := by
  rcases List.eq_nil_or_concat P with rfl | ⟨P1, x, rfl⟩
  · have := (List.append_inj' h rfl).2
    simp [vt, et] at this
  · refine ⟨P1, ?_⟩
    have h2 : a ++ [vt u] = (Q ++ et i :: P1) ++ [x] := by rw [h]; simp
    have := (List.append_inj' h2 rfl).2
    injection this with e
    rw [e]; simp

/-- A walk's end stays one where a piece between two places goes. -/
theorem end_cut {u i k : Int} {A Q X P : List Tok} (h : A = Q ++ et i :: (X ++ et k :: P)) (hu : End u A) : End u (Q ++ P) := by
  rcases hu with ⟨a, rfl⟩ | ⟨a, rfl⟩
  · obtain ⟨Q1, rfl⟩ := head_vt h
    exact .inl ⟨Q1 ++ P, by simp⟩
  · obtain ⟨P1, rfl⟩ := last_vt (show a ++ [vt u] = (Q ++ et i :: X) ++ et k :: P by rw [h]; simp)
    exact .inr ⟨Q ++ P1, by simp⟩

theorem cut_in {A B : List Tok} {es fs : List Edg} {j u v p q : Int} (hu : End u A) (hv : End v B) (ih : Cuts A es) (hB : Tour B fs) (hpq : p = u ∧ q = v ∨ p = v ∧ q = u) (nd : (ids es).Nodup) {id : Int} {x y : List Tok}
    (hr : Rot (A ++ (et j :: (B ++ [et j]))) (et id :: (x ++ et id :: y))) (hK : et id ∉ et j :: (B ++ [et j])) : ∃ es1 es2 p' q', CutOut ((j, p, q) :: (es ++ fs)) id x y es1 es2 p' q' := by
  obtain ⟨K, hKe⟩ : ∃ K, K = et j :: (B ++ [et j]) := ⟨_, rfl⟩
  rw [← hKe] at hr hK
  have hne : K ≠ [] := by rw [hKe]; simp
  obtain ⟨P, Q, h1, h2⟩ := rot_inside hr hK hne
  rcases mid_of h1 hK hne with ⟨P2, rfl, rfl⟩ | ⟨Q2, rfl, rfl⟩
  · obtain ⟨es1, es2, p', q', hc⟩ := ih nd id x (P2 ++ Q) ⟨Q, et id :: (x ++ et id :: P2), h2, by simp⟩
    have hy := tour_insert (id := j) hc.snd (end_cut h2 hu) hB hv hpq
    rw [← hKe] at hy
    refine ⟨es1, (j, p, q) :: (es2 ++ fs), p', q', hc.fst, hy, ?_, ?_⟩
    · refine (List.Perm.cons _ (hc.perm.append_right fs)).trans ?_
      refine (List.Perm.swap _ _ _).trans (List.Perm.cons _ ?_)
      refine List.Perm.trans ?_ List.perm_middle.symm
      simp
    · rcases hc.ends with ⟨e1, e2⟩ | ⟨e1, e2⟩
      · exact .inl ⟨e1, by simp at e2 ⊢; rcases e2 with h | h <;> simp [h]⟩
      · exact .inr ⟨e1, by simp at e2 ⊢; rcases e2 with h | h <;> simp [h]⟩
  · have h3 : A = Q2 ++ et id :: (y ++ et id :: P) := by rw [h2]; simp
    obtain ⟨es1, es2, p', q', hc⟩ := ih nd id (P ++ Q2) y ⟨Q2 ++ et id :: y, et id :: P, by rw [h3]; simp, by simp⟩
    have hx := tour_insert (id := j) hc.fst (end_cut h3 hu) hB hv hpq
    rw [← hKe] at hx
    refine ⟨(j, p, q) :: (es1 ++ fs), es2, p', q', hx, hc.snd, ?_, ?_⟩
    · refine (List.Perm.cons _ (hc.perm.append_right fs)).trans ?_
      refine (List.Perm.swap _ _ _).trans (List.Perm.cons _ (List.Perm.cons _ ?_))
      show ((es1 ++ es2) ++ fs).Perm ((es1 ++ fs) ++ es2)
      rw [List.append_assoc, List.append_assoc]
      exact List.Perm.append_left _ List.perm_append_comm
    · rcases hc.ends with ⟨e1, e2⟩ | ⟨e1, e2⟩
      · exact .inl ⟨by simp at e1 ⊢; rcases e1 with h | h <;> simp [h], e2⟩
      · exact .inr ⟨by simp at e1 ⊢; rcases e1 with h | h <;> simp [h], e2⟩

theorem et_ne {i j : Int} (h : i ≠ j) : et i ≠ et j := fun e => h (by injection e)

theorem tour_cuts {w : List Tok} {es : List Edg} (h : Tour w es) : Cuts w es := by
  induction h with
  | vert u =>
    intro nd id x y hr
    have := (hr.mem (t := et id)).1 (by simp)
    simp [et, vt] at this
  | @turn a b es h ih =>
    intro nd id x y hr
    exact ih nd id x y (Rot.trans ⟨a, b, rfl, rfl⟩ hr)
  | perm hp ht ih =>
    intro nd id x y hr
    obtain ⟨es1, es2, p, q, hc⟩ := ih ((ids_perm hp).nodup_iff.2 nd) id x y hr
    exact ⟨es1, es2, p, q, hc.fst, hc.snd, hp.symm.trans hc.perm, hc.ends⟩
  | @link A B es fs j u v p q h1 h2 hu hv hpq ih1 ih2 =>
    intro nd id x y hr
    have e : ids ((j, p, q) :: (es ++ fs)) = j :: (ids es ++ ids fs) := by rw [← ids_app]; rfl
    rw [e] at nd
    obtain ⟨nj, nef⟩ := List.nodup_cons.1 nd
    obtain ⟨ne, nf, nx⟩ := List.nodup_append.1 nef
    have ja : et j ∉ A := fun hm => nj (List.mem_append_left _ ((tour_et h1).1 hm))
    have jb : et j ∉ B := fun hm => nj (List.mem_append_right _ ((tour_et h2).1 hm))
    by_cases hij : id = j
    · subst hij
      have hcnt := hr.count (et id)
      have hw : (A ++ (et id :: (B ++ [et id]))).count (et id) = 2 := by
        rw [List.count_append, List.count_eq_zero.2 ja, count_et_et, List.count_append, List.count_eq_zero.2 jb, count_et_et]
        simp
      rw [hw, count_et_et, List.count_append, count_et_et] at hcnt
      simp at hcnt
      have hx0 : et id ∉ x := List.count_eq_zero.1 (by omega)
      have hfin : (x = B ∧ y = A) ∨ (x = A ∧ y = B) := by
        obtain ⟨c, d, h3, h4⟩ := hr
        cases d with
        | nil =>
          simp at h3 h4
          rw [← h4] at h3
          have hA := tour_ne h1
          cases A with
          | nil => exact absurd rfl hA
          | cons s A =>
            simp at h3
            exact absurd (by rw [h3.1]; simp) ja
        | cons s d =>
          simp at h4
          obtain ⟨rfl, h4⟩ := h4
          by_cases hc : et id ∈ c
          · have hd : et id ∉ d := by
              have h5 := congrArg (List.count (et id)) h4
              rw [List.count_append, count_et_et, List.count_append] at h5
              have h6 := List.count_pos_iff.2 hc
              simp at h5
              have hy0 : y.count (et id) = 0 := by omega
              have hx1 : x.count (et id) = 0 := by omega
              exact List.count_eq_zero.1 (by omega)
            obtain ⟨e1, e2⟩ := split_last (t := et id) (a := c) (b := d) (c := A ++ et id :: B) (d := []) (by rw [← h3]; simp) hd (by simp)
            subst e2
            rw [e1] at h4
            obtain ⟨e3, e4⟩ := split_first (by simpa using h4) hx0 ja
            exact .inr ⟨e3, e4⟩
          · obtain ⟨e1, e2⟩ := split_first (t := et id) (a := c) (b := d) (c := A) (d := B ++ [et id]) (by rw [← h3]) hc ja
            subst e1 e2
            obtain ⟨e3, e4⟩ := split_first (t := et id) (a := x) (b := y) (c := B) (d := c) (by rw [h4]; simp) hx0 jb
            exact .inl ⟨e3, e4⟩
      rcases hfin with ⟨rfl, rfl⟩ | ⟨rfl, rfl⟩
      · refine ⟨fs, es, p, q, h2, h1, List.Perm.cons _ List.perm_append_comm, ?_⟩
        rcases hpq with ⟨rfl, rfl⟩ | ⟨rfl, rfl⟩
        · exact .inr ⟨hv.mem, hu.mem⟩
        · exact .inl ⟨hv.mem, hu.mem⟩
      · refine ⟨es, fs, p, q, h1, h2, List.Perm.refl _, ?_⟩
        rcases hpq with ⟨rfl, rfl⟩ | ⟨rfl, rfl⟩
        · exact .inl ⟨hu.mem, hv.mem⟩
        · exact .inr ⟨hu.mem, hv.mem⟩
    · have hm := (hr.mem (t := et id)).1 (by simp)
      by_cases hA : et id ∈ A
      · have hB : et id ∉ B := fun hb => nx _ ((tour_et h1).1 hA) _ ((tour_et h2).1 hb) rfl
        refine cut_in hu hv ih1 h2 hpq ne hr ?_
        intro hk
        rcases List.mem_cons.1 hk with hk | hk
        · exact et_ne hij hk
        · rcases List.mem_append.1 hk with hk | hk
          · exact hB hk
          · exact et_ne hij (List.mem_singleton.1 hk)
      · have hr2 : Rot (B ++ (et j :: (A ++ [et j]))) (et id :: (x ++ et id :: y)) := Rot.trans ⟨B ++ [et j], A ++ [et j], by simp, by simp⟩ hr
        obtain ⟨es1, es2, p', q', hc⟩ := cut_in hv hu ih2 h1 hpq.symm nf hr2 (by
          intro hk
          rcases List.mem_cons.1 hk with hk | hk
          · exact et_ne hij hk
          · rcases List.mem_append.1 hk with hk | hk
            · exact hA hk
            · exact et_ne hij (List.mem_singleton.1 hk))
        exact ⟨es1, es2, p', q', hc.fst, hc.snd, (List.Perm.cons _ List.perm_append_comm).trans hc.perm, hc.ends⟩

end Go.Proofs.Ytlakcldgolpaiaa

/-
  Closed walks: who is joined. No walk of code.
-/
namespace Go.Proofs.Ytlakcldgolpaiaa
set_option linter.unusedVariables false

/-- Joined by edges. -/
inductive Conn (es : List Edg) : Int → Int → Prop
  | refl (u : Int) : Conn es u u
  | step {u v x id p q : Int} : Conn es u v → (id, p, q) ∈ es → (v = p ∧ x = q ∨ v = q ∧ x = p) → Conn es u x

theorem Conn.mono {es fs : List Edg} {u v : Int} (h : Conn es u v) (hs : ∀ e ∈ es, e ∈ fs) : Conn fs u v := by
  induction h with
  | refl => exact .refl _
  | step _ he hx ih => exact .step ih (hs _ he) hx

theorem Conn.trans {es : List Edg} {u v x : Int} (h : Conn es u v) (h' : Conn es v x) : Conn es u x := by
  induction h' with
  | refl => exact h
  | step _ he hx ih => exact .step ih he hx

theorem Conn.one {es : List Edg} {id p q : Int} (h : (id, p, q) ∈ es) : Conn es p q ∧ Conn es q p := ⟨.step (.refl _) h (.inl ⟨rfl, rfl⟩), .step (.refl _) h (.inr ⟨rfl, rfl⟩)⟩

theorem Conn.symm {es : List Edg} {u v : Int} (h : Conn es u v) : Conn es v u := by
  induction h with
  | refl => exact .refl _
  | @step v x id p q h1 he hx ih =>
    rcases hx with ⟨rfl, rfl⟩ | ⟨rfl, rfl⟩
    · exact (Conn.one he).2.trans ih
    · exact (Conn.one he).1.trans ih

theorem vt_ne_et (i j : Int) : vt i ≠ et j := fun e => by simp [vt, et] at e

theorem vt_inj {i j : Int} (h : vt i = vt j) : i = j := by injection h

theorem link_mem {A B : List Tok} {id x : Int} : vt x ∈ A ++ (et id :: (B ++ [et id])) ↔ vt x ∈ A ∨ vt x ∈ B := by
  rw [List.mem_append, List.mem_cons (a := vt x) (b := et id), List.mem_append, List.mem_singleton]
  constructor
  · rintro (h | h | h | h)
    · exact .inl h
    · exact absurd h (vt_ne_et _ _)
    · exact .inr h
    · exact absurd h (vt_ne_et _ _)
  · rintro (h | h)
    · exact .inl h
    · exact .inr (.inr (.inl h))

/-- An edge's ends stand in the walk. -/
theorem tour_ends {w : List Tok} {es : List Edg} (h : Tour w es) : ∀ id p q, (id, p, q) ∈ es → vt p ∈ w ∧ vt q ∈ w := by
  induction h with
  | vert u => intro id p q hm; cases hm
  | turn h ih => intro id p q hm; have := ih id p q hm; rw [List.mem_append, List.mem_append] at this ⊢; exact ⟨this.1.symm, this.2.symm⟩
  | perm hp _ ih => intro id p q hm; exact ih id p q (hp.mem_iff.2 hm)
  | @link A B es fs j u v p0 q0 h1 h2 hu hv hpq ih1 ih2 =>
    intro id p q hm
    rw [link_mem, link_mem]
    rcases List.mem_cons.1 hm with hm | hm
    · injection hm with e1 e2
      injection e2 with e2 e3
      subst e1 e2 e3
      rcases hpq with ⟨rfl, rfl⟩ | ⟨rfl, rfl⟩
      · exact ⟨.inl hu.mem, .inr hv.mem⟩
      · exact ⟨.inr hv.mem, .inl hu.mem⟩
    · rcases List.mem_append.1 hm with hm | hm
      · exact ⟨.inl (ih1 _ _ _ hm).1, .inl (ih1 _ _ _ hm).2⟩
      · exact ⟨.inr (ih2 _ _ _ hm).1, .inr (ih2 _ _ _ hm).2⟩

/-- All vertices of a walk are joined by its edges. -/
theorem tour_conn {w : List Tok} {es : List Edg} (h : Tour w es) : ∀ x y, vt x ∈ w → vt y ∈ w → Conn es x y := by
  induction h with
  | vert u =>
    intro x y hx hy
    rw [vt_inj (List.mem_singleton.1 hx), vt_inj (List.mem_singleton.1 hy)]
    exact .refl _
  | turn h ih => intro x y hx hy; exact ih x y (by rw [List.mem_append] at hx ⊢; exact hx.symm) (by rw [List.mem_append] at hy ⊢; exact hy.symm)
  | perm hp _ ih => intro x y hx hy; exact (ih x y hx hy).mono fun e he => hp.mem_iff.1 he
  | @link A B es fs j u v p q h1 h2 ha hb hpq ih1 ih2 =>
    have m1 : ∀ e ∈ es, e ∈ (j, p, q) :: (es ++ fs) := fun e he => by simp [he]
    have m2 : ∀ e ∈ fs, e ∈ (j, p, q) :: (es ++ fs) := fun e he => by simp [he]
    have huv : Conn ((j, p, q) :: (es ++ fs)) u v := by
      rcases hpq with ⟨rfl, rfl⟩ | ⟨rfl, rfl⟩
      · exact (Conn.one (List.mem_cons_self ..)).1
      · exact (Conn.one (List.mem_cons_self ..)).2
    have hu : ∀ x, vt x ∈ A ++ (et j :: (B ++ [et j])) → Conn ((j, p, q) :: (es ++ fs)) u x := by
      intro x hx
      rcases link_mem.1 hx with hx | hx
      · exact (ih1 u x ha.mem hx).mono m1
      · exact huv.trans ((ih2 v x hb.mem hx).mono m2)
    intro x y hx hy
    exact (hu x hx).symm.trans (hu y hy)

/-- Where each edge's ends stand in one walk, what is joined stands in one. -/
theorem conn_stays {es : List Edg} {S : Int → Prop} (hs : ∀ id p q, (id, p, q) ∈ es → (S p ↔ S q)) {u v : Int} (h : Conn es u v) : S u → S v := by
  induction h with
  | refl => exact id
  | step _ he hx ih =>
    intro hu
    rcases hx with ⟨rfl, rfl⟩ | ⟨rfl, rfl⟩
    · exact (hs _ _ _ he).1 (ih hu)
    · exact (hs _ _ _ he).2 (ih hu)

end Go.Proofs.Ytlakcldgolpaiaa

/-
  A rope's rows as they lie, whatever their order. No walk of code.
-/
namespace Go.Proofs.Ytlakcldgolpaiaa
set_option linter.unusedVariables false

theorem row_split {a : Nat} : ∀ {xs : List Nat}, a ∈ xs → ∃ P Q, xs = P ++ a :: Q ∧ a ∉ P
  | x :: xs, h => by
    by_cases e : x = a
    · subst e; exact ⟨[], xs, rfl, by simp⟩
    · have h2 : a ∈ xs := by rcases List.mem_cons.1 h with h | h; exact absurd h.symm e; exact h
      obtain ⟨P, Q, rfl, hP⟩ := row_split h2
      exact ⟨x :: P, Q, rfl, fun h => by rcases List.mem_cons.1 h with h | h; exact e h.symm; exact hP h⟩

section

variable {V : Type} {M : RM V} {R : List (List Nat)} {X Y : List Nat} {a b : Nat}

theorem perm_row (h : M.Ok) (hp : M.rows.Perm (X :: R)) (ha : a ∈ X) : M.rowOf a = X := (row_unique h (hp.mem_iff.2 (List.mem_cons_self ..)) ha).symm

theorem perm_known (h : M.Ok) (hp : M.rows.Perm (X :: R)) (ha : a ∈ X) : 1 ≤ a ∧ a ≤ M.own.length := row_known h (hp.mem_iff.2 (List.mem_cons_self ..)) ha

theorem perm_nd (h : M.Ok) (hp : M.rows.Perm R) : R.flatten.Nodup := ((perm_flatten hp).nodup_iff).1 h.nd

theorem perm_apart (h : M.Ok) (hp : M.rows.Perm (X :: R)) (ha : a ∈ X) : ∀ xs ∈ R, a ∉ xs := by
  have := perm_nd h hp
  rw [List.flatten_cons] at this
  intro xs hx hm
  exact (List.nodup_append.1 this).2.2 a ha a (List.mem_flatten.2 ⟨xs, hx, hm⟩) rfl

theorem perm_ne (h : M.Ok) (hp : M.rows.Perm (X :: Y :: R)) (ha : a ∈ X) (hb : b ∈ Y) : M.rowOf a ≠ M.rowOf b := by
  rw [perm_row h hp ha, perm_row h (hp.trans (List.Perm.swap _ _ _)) hb]
  intro e
  exact perm_apart h hp ha Y (List.mem_cons_self ..) (e ▸ ha)

theorem joinP (h : M.Ok) (hp : M.rows.Perm (X :: Y :: R)) (ha : a ∈ X) (hb : b ∈ Y) : (M.join a b).rows.Perm ((X ++ Y) :: R) := by
  have hp2 := hp.trans (List.Perm.swap _ _ _)
  unfold RM.join
  rw [perm_row h hp ha, perm_row h hp2 hb]
  refine List.perm_append_comm.trans ?_
  show ((X ++ Y) :: _).Perm _
  refine List.Perm.cons _ ?_
  refine (hp.filter _).trans ?_
  rw [List.filter_cons_of_neg (by simp [ha]), List.filter_cons_of_neg (by simp [hb]), List.filter_eq_self.2]
  intro xs hx
  have h1 := perm_apart h hp ha xs (List.mem_cons_of_mem _ hx)
  have h2 := perm_apart h hp2 hb xs (List.mem_cons_of_mem _ hx)
  simp [h1, h2]

theorem cutP (h : M.Ok) {P Q : List Nat} (hp : M.rows.Perm ((P ++ a :: Q) :: R)) (hP : P ≠ []) : (M.cut a).rows.Perm (P :: (a :: Q) :: R) := by
  unfold RM.cut
  have ha : a ∈ P ++ a :: Q := by simp
  have hnd := row_nodup h (hp.mem_iff.2 (List.mem_cons_self ..))
  refine (hp.flatMap_right _).trans ?_
  rw [List.flatMap_cons]
  have e1 : cutRow a (P ++ a :: Q) = [P, a :: Q] := by rw [cutRow_at rfl hnd, if_neg hP]
  have e2 : R.flatMap (cutRow a) = R := by
    have : ∀ L : List (List Nat), (∀ xs ∈ L, a ∉ xs) → L.flatMap (cutRow a) = L := by
      intro L
      induction L with
      | nil => intro _; rfl
      | cons x L ih =>
        intro hx
        rw [List.flatMap_cons, ih (fun xs hxs => hx xs (List.mem_cons_of_mem _ hxs))]
        unfold cutRow
        rw [if_neg (hx x (List.mem_cons_self ..))]
        rfl
    exact this R (perm_apart h hp ha)
  rw [e1, e2]
  exact List.Perm.refl _

theorem makeP (M : RM V) (v : V) : (M.make v).rows.Perm ([M.own.length + 1] :: M.rows) := by
  unfold RM.make
  exact List.perm_append_comm

end

end Go.Proofs.Ytlakcldgolpaiaa

/-
  A forest in plain words: a rope's rows are closed walks, or places that are nobody's. Turning a walk, linking two, cutting one. No walk of code.
-/
namespace Go.Proofs.Ytlakcldgolpaiaa
set_option linter.unusedVariables false

def tok (who : List Tok) (a : Nat) : Tok := who.getD a (false, 0)

def lone (free : List Nat) : List (List Nat) := free.map fun a => [a]

/-- A forest: its rope's rows are the walks W and the free places. -/
structure FOk {V : Type} (M : RM V) (pv : Int → Option Nat) (pe : Int → Option (Nat × Nat)) (who : List Tok) (free : List Nat) (edges : List Edg) (W : List (List Nat)) : Prop where
  ok : M.Ok
  len : who.length = M.own.length + 1
  rows : M.rows.Perm (W ++ lone free)
  tour : ∀ xs ∈ W, ∃ es, Tour (xs.map (tok who)) es ∧ ∀ e ∈ es, e ∈ edges
  nd : (ids edges).Nodup
  vert : ∀ v a, pv v = some a ↔ a ∈ W.flatten ∧ tok who a = vt v
  edge : ∀ id a b, pe id = some (a, b) → a ≠ b ∧ a ∈ W.flatten ∧ b ∈ W.flatten ∧ tok who a = et id ∧ tok who b = et id
  only : ∀ a ∈ W.flatten, ∀ id, tok who a = et id → ∃ b c, pe id = some (b, c) ∧ (a = b ∨ a = c)
  has : ∀ id, id ∈ ids edges ↔ pe id ≠ none

section

variable {V : Type} {M M' : RM V} {pv : Int → Option Nat} {pe : Int → Option (Nat × Nat)} {who : List Tok} {free : List Nat} {edges : List Edg} {W W' : List (List Nat)} {xs : List Nat} {a : Nat}

theorem FOk.row (h : FOk M pv pe who free edges W) (hx : xs ∈ W) (ha : a ∈ xs) : M.rowOf a = xs ∧ 1 ≤ a ∧ a ≤ M.own.length := by
  have hm : xs ∈ M.rows := h.rows.mem_iff.2 (List.mem_append_left _ hx)
  exact ⟨(row_unique h.ok hm ha).symm, row_known h.ok hm ha⟩

theorem FOk.rowNd (h : FOk M pv pe who free edges W) : (W ++ lone free).flatten.Nodup := perm_nd h.ok h.rows

/-- Other rows with the same places. -/
theorem FOk.rerow (h : FOk M pv pe who free edges W) (hok : M'.Ok) (hlen : M'.own.length = M.own.length) (hr : M'.rows.Perm (W' ++ lone free)) (hm : ∀ a, a ∈ W'.flatten ↔ a ∈ W.flatten) (ht : ∀ xs ∈ W', ∃ es, Tour (xs.map (tok who)) es ∧ ∀ e ∈ es, e ∈ edges) : FOk M' pv pe who free edges W' :=
  ⟨hok, by rw [hlen]; exact h.len, hr, ht, h.nd, fun v a => by rw [hm]; exact h.vert v a, fun id a b e => by rw [hm, hm]; exact h.edge id a b e, fun a ha id e => h.only a ((hm a).1 ha) id e, h.has⟩

theorem FOk.perm (h : FOk M pv pe who free edges W) (hp : W.Perm W') : FOk M pv pe who free edges W' :=
  h.rerow h.ok rfl (h.rows.trans (hp.append_right _)) (fun a => (perm_flatten hp).symm.mem_iff) (fun xs hx => h.tour xs (hp.mem_iff.2 hx))

/-- A walk begins at a place of its own from now on. -/
def turnM (M : RM V) (a : Nat) : RM V := if (M.rowOf a).head? = some a then M else (M.cut a).join a ((M.rowOf a).headD 0)

theorem turn_own (M : RM V) (a : Nat) : (turnM M a).own = M.own := by unfold turnM; split <;> rfl

theorem FOk.turn (h : FOk M pv pe who free edges (xs :: W)) (ha : a ∈ xs) : ∃ Z P Q, xs = P ++ a :: Q ∧ Z = Q ++ P ∧ FOk (turnM M a) pv pe who free edges ((a :: Z) :: W) := by
  obtain ⟨hr, hk⟩ := h.row (List.mem_cons_self ..) ha
  have hpart := row_split ha
  obtain ⟨P, Q, rfl, hna⟩ := hpart
  cases P with
  | nil =>
    refine ⟨Q, [], Q, rfl, by simp, ?_⟩
    have : turnM M a = M := by unfold turnM; rw [hr]; simp
    rw [this]
    exact h
  | cons x P =>
    have hxa : x ≠ a := fun e => hna (by rw [e]; simp)
    have e1 : turnM M a = (M.cut a).join a x := by
      unfold turnM
      rw [hr, if_neg (by simp [hxa])]
      rfl
    have hp : M.rows.Perm (((x :: P) ++ a :: Q) :: (W ++ lone free)) := h.rows
    have hc := cutP h.ok hp (by simp)
    have hcok := ok_cut h.ok a
    have hc2 := hc.trans (List.Perm.swap _ _ _)
    have hj := joinP hcok hc2 (a := a) (b := x) (by simp) (by simp)
    have hjok : ((M.cut a).join a x).Ok := ok_join hcok (perm_known hcok hc2 (by simp)) (perm_known hcok hc (by simp)) (perm_ne hcok hc2 (by simp) (by simp))
    refine ⟨Q ++ x :: P, x :: P, Q, rfl, rfl, ?_⟩
    rw [e1]
    refine h.rerow hjok rfl (by simpa using hj) (fun b => ?_) (fun ys hy => ?_)
    · simp only [List.flatten_cons, List.mem_append, List.mem_cons]
      grind
    · rcases List.mem_cons.1 hy with rfl | hy
      · obtain ⟨es, h1, h2⟩ := h.tour _ (List.mem_cons_self ..)
        refine ⟨es, ?_, h2⟩
        rw [List.map_append] at h1
        have := Tour.turn h1
        simpa using this
      · exact h.tour ys (List.mem_cons_of_mem _ hy)

end

end Go.Proofs.Ytlakcldgolpaiaa

/-
  What turning, linking and cutting make of a rope's rows. No walk of code.
-/
namespace Go.Proofs.Ytlakcldgolpaiaa
set_option linter.unusedVariables false

section

variable {V : Type} {M : RM V} {R : List (List Nat)} {xs ys : List Nat} {a b p0 p1 : Nat}

theorem turnP (h : M.Ok) (hp : M.rows.Perm (xs :: R)) (ha : a ∈ xs) : ∃ Z P Q, xs = P ++ a :: Q ∧ Z = Q ++ P ∧ (turnM M a).Ok ∧ (turnM M a).rows.Perm ((a :: Z) :: R) := by
  have hr := perm_row h hp ha
  obtain ⟨P, Q, rfl, hna⟩ := row_split ha
  cases P with
  | nil =>
    have e : turnM M a = M := by unfold turnM; rw [hr]; simp
    exact ⟨Q, [], Q, rfl, by simp, by rw [e]; exact h, by rw [e]; exact hp⟩
  | cons x P =>
    have hxa : x ≠ a := fun e => hna (by rw [e]; simp)
    have e1 : turnM M a = (M.cut a).join a x := by
      unfold turnM
      rw [hr, if_neg (by simp [hxa])]
      rfl
    have hc := cutP h hp (by simp)
    have hcok := ok_cut h a
    have hc2 := hc.trans (List.Perm.swap _ _ _)
    have hj := joinP hcok hc2 (a := a) (b := x) (by simp) (by simp)
    refine ⟨Q ++ x :: P, x :: P, Q, rfl, rfl, ?_, ?_⟩
    · rw [e1]
      exact ok_join hcok (perm_known hcok hc2 (by simp)) (perm_known hcok hc (by simp)) (perm_ne hcok hc2 (by simp) (by simp))
    · rw [e1]
      simpa using hj

/-- Where a walk is turned the two ends are two rows. -/
theorem turn_ne (h : M.Ok) (hp : M.rows.Perm (xs :: R)) (ha : a ∈ xs) (hne : (M.rowOf a).head? ≠ some a) : ∃ x, (M.rowOf a).headD 0 = x ∧ (1 ≤ a ∧ a ≤ M.own.length) ∧ (1 ≤ x ∧ x ≤ M.own.length) ∧ (M.cut a).rowOf a ≠ (M.cut a).rowOf x := by
  have hr := perm_row h hp ha
  obtain ⟨P, Q, rfl, hna⟩ := row_split ha
  cases P with
  | nil => rw [hr] at hne; exact absurd rfl hne
  | cons x P =>
    have hc := cutP h hp (by simp)
    have hcok := ok_cut h a
    refine ⟨x, by rw [hr]; rfl, perm_known h hp ha, perm_known h hp (by simp), perm_ne hcok (hc.trans (List.Perm.swap _ _ _)) (by simp) (by simp)⟩

/-- The place behind another one in its row; 0 if there is none. -/
def nextN (M : RM V) (a : Nat) : Nat := ((M.rowOf a)[(M.rowOf a).idxOf a + 1]?).getD 0

/-- The place ahead of another one in its row; 0 if there is none. -/
def prevN (M : RM V) (a : Nat) : Nat := if (M.rowOf a).idxOf a = 0 then 0 else ((M.rowOf a)[(M.rowOf a).idxOf a - 1]?).getD 0

def cut0 (M : RM V) (a : Nat) : RM V := if a = 0 then M else M.cut a

def join0 (M : RM V) (a b : Nat) : RM V := if a = 0 ∨ b = 0 then M else M.join a b

theorem cut0_own (M : RM V) (a : Nat) : (cut0 M a).own = M.own := by unfold cut0; split <;> rfl

theorem join0_own (M : RM V) (a b : Nat) : (join0 M a b).own = M.own := by unfold join0; split <;> rfl

def optR (P : List Nat) : List (List Nat) := if P = [] then [] else [P]

theorem idx_split {P Q : List Nat} (hP : a ∉ P) : (P ++ a :: Q).idxOf a = P.length := by
  rw [List.idxOf_append, if_neg hP]; simp

theorem not_before {P Q : List Nat} (h : (P ++ a :: Q).Nodup) : a ∉ P := fun hm => (List.nodup_append.1 h).2.2 a hm a (by simp) rfl

theorem next_split (h : M.Ok) {P Q : List Nat} (hp : M.rows.Perm ((P ++ a :: Q) :: R)) : nextN M a = Q.headD 0 := by
  have hnd := row_nodup h (hp.mem_iff.2 (List.mem_cons_self ..))
  unfold nextN
  rw [perm_row h hp (by simp), idx_split (not_before hnd), List.getElem?_append_right (by omega)]
  cases Q <;> simp

theorem prev_split (h : M.Ok) {P Q : List Nat} (hp : M.rows.Perm ((P ++ a :: Q) :: R)) : prevN M a = P.getLastD 0 := by
  have hnd := row_nodup h (hp.mem_iff.2 (List.mem_cons_self ..))
  unfold prevN
  rw [perm_row h hp (by simp), idx_split (not_before hnd)]
  rcases List.eq_nil_or_concat P with rfl | ⟨P1, x, rfl⟩
  · simp
  · rw [if_neg (by simp)]
    simp

theorem cutO (h : M.Ok) {P Q : List Nat} (hp : M.rows.Perm ((P ++ a :: Q) :: R)) : (M.cut a).rows.Perm ((a :: Q) :: (optR P ++ R)) := by
  by_cases hP : P = []
  · subst hP
    have ha : a ∈ ([] : List Nat) ++ a :: Q := by simp
    have hnd := row_nodup h (hp.mem_iff.2 (List.mem_cons_self ..))
    have e2 : ∀ L : List (List Nat), (∀ xs ∈ L, a ∉ xs) → L.flatMap (cutRow a) = L := by
      intro L
      induction L with
      | nil => intro _; rfl
      | cons x L ih =>
        intro hx
        rw [List.flatMap_cons, ih (fun xs hxs => hx xs (List.mem_cons_of_mem _ hxs))]
        unfold cutRow
        rw [if_neg (hx x (List.mem_cons_self ..))]
        rfl
    unfold RM.cut
    refine (hp.flatMap_right _).trans ?_
    rw [List.flatMap_cons, e2 R (perm_apart h hp ha), cutRow_at rfl hnd, if_pos rfl]
    exact List.Perm.refl _
  · unfold optR
    rw [if_neg hP]
    exact (cutP h hp hP).trans (List.Perm.swap _ _ _)

def linkM (M : RM V) (a b p0 p1 : Nat) : RM V :=
  let M1 := turnM M b
  join0 ((((cut0 M1 (nextN M1 a)).join a p0).join p0 b).join b p1) p1 (nextN M1 a)

theorem link_own (M : RM V) (a b p0 p1 : Nat) : (linkM M a b p0 p1).own = M.own := by
  unfold linkM
  rw [join0_own]
  show (cut0 (turnM M b) _).own = _
  rw [cut0_own, turn_own]

/-- Two rows and two places become one. -/
structure LinkOut (M : RM V) (xs ys : List Nat) (R : List (List Nat)) (a b p0 p1 : Nat) (P Q Z : List Nat) : Prop where
  z1 : xs = P ++ a :: Q
  z2 : ∃ P Q, ys = P ++ b :: Q ∧ Z = Q ++ P
  ok : (linkM M a b p0 p1).Ok
  rows : (linkM M a b p0 p1).rows.Perm ((P ++ a :: (p0 :: ((b :: Z) ++ p1 :: Q))) :: R)
  ok1 : (turnM M b).Ok
  next : nextN (turnM M b) a = 0 ∨ 1 ≤ nextN (turnM M b) a ∧ nextN (turnM M b) a ≤ M.own.length
  ne1 : (cut0 (turnM M b) (nextN (turnM M b) a)).rowOf a ≠ (cut0 (turnM M b) (nextN (turnM M b) a)).rowOf p0
  ne2 : ((cut0 (turnM M b) (nextN (turnM M b) a)).join a p0).rowOf p0 ≠ ((cut0 (turnM M b) (nextN (turnM M b) a)).join a p0).rowOf b
  ne3 : (((cut0 (turnM M b) (nextN (turnM M b) a)).join a p0).join p0 b).rowOf b ≠ (((cut0 (turnM M b) (nextN (turnM M b) a)).join a p0).join p0 b).rowOf p1
  ne4 : nextN (turnM M b) a ≠ 0 → ((((cut0 (turnM M b) (nextN (turnM M b) a)).join a p0).join p0 b).join b p1).rowOf p1 ≠ ((((cut0 (turnM M b) (nextN (turnM M b) a)).join a p0).join p0 b).join b p1).rowOf (nextN (turnM M b) a)
  known : (1 ≤ a ∧ a ≤ M.own.length) ∧ (1 ≤ b ∧ b ≤ M.own.length) ∧ (1 ≤ p0 ∧ p0 ≤ M.own.length) ∧ (1 ≤ p1 ∧ p1 ≤ M.own.length)

/-- Four rows are joined one behind the other. -/
theorem joins3 {N : RM V} {P Z : List Nat} (h : N.Ok) (hp : N.rows.Perm ((P ++ [a]) :: [p0] :: (b :: Z) :: [p1] :: R)) :
    (N.rowOf a ≠ N.rowOf p0 ∧ (N.join a p0).rowOf p0 ≠ (N.join a p0).rowOf b ∧ ((N.join a p0).join p0 b).rowOf b ≠ ((N.join a p0).join p0 b).rowOf p1) ∧
    (((N.join a p0).join p0 b).join b p1).Ok ∧ (((N.join a p0).join p0 b).join b p1).rows.Perm ((P ++ a :: (p0 :: ((b :: Z) ++ [p1]))) :: R) ∧
    (1 ≤ a ∧ a ≤ N.own.length) ∧ (1 ≤ b ∧ b ≤ N.own.length) ∧ (1 ≤ p0 ∧ p0 ≤ N.own.length) ∧ (1 ≤ p1 ∧ p1 ≤ N.own.length) := by
  have s1 : N.rows.Perm ([p0] :: (P ++ [a]) :: (b :: Z) :: [p1] :: R) := hp.trans (List.Perm.swap _ _ _)
  have s2 : N.rows.Perm ((b :: Z) :: (P ++ [a]) :: [p0] :: [p1] :: R) := hp.trans ((List.Perm.cons _ (List.Perm.swap _ _ _)).trans (List.Perm.swap _ _ _))
  have s3 : N.rows.Perm ([p1] :: (P ++ [a]) :: [p0] :: (b :: Z) :: R) := hp.trans ((List.Perm.cons _ ((List.Perm.cons _ (List.Perm.swap _ _ _)).trans (List.Perm.swap _ _ _))).trans (List.Perm.swap _ _ _))
  have ka := perm_known h hp (a := a) (by simp)
  have kp0 := perm_known h s1 (a := p0) (by simp)
  have kb := perm_known h s2 (a := b) (by simp)
  have kp1 := perm_known h s3 (a := p1) (by simp)
  have n1 := perm_ne h hp (a := a) (b := p0) (by simp) (by simp)
  have ok3 := ok_join h ka kp0 n1
  have r3 := joinP h hp (a := a) (b := p0) (by simp) (by simp)
  have n2 := perm_ne ok3 r3 (a := p0) (b := b) (by simp) (by simp)
  have ok4 := ok_join ok3 kp0 kb n2
  have r4 := joinP ok3 r3 (a := p0) (b := b) (by simp) (by simp)
  have n3 := perm_ne ok4 r4 (a := b) (b := p1) (by simp) (by simp)
  have ok5 := ok_join ok4 kb kp1 n3
  have r5 := joinP ok4 r4 (a := b) (b := p1) (by simp) (by simp)
  exact ⟨⟨n1, n2, n3⟩, ok5, by simpa using r5, ka, kb, kp0, kp1⟩

theorem linkP (h : M.Ok) (hp : M.rows.Perm (xs :: ys :: [p0] :: [p1] :: R)) (ha : a ∈ xs) (hb : b ∈ ys) : ∃ P Q Z, LinkOut M xs ys R a b p0 p1 P Q Z := by
  obtain ⟨Z, P2, Q2, e3, e4, ok1, r1⟩ := turnP h (hp.trans (List.Perm.swap _ _ _)) hb
  have r1' : (turnM M b).rows.Perm (xs :: (b :: Z) :: [p0] :: [p1] :: R) := r1.trans (List.Perm.swap _ _ _)
  obtain ⟨P, Q, rfl, hna⟩ := row_split ha
  have hn := next_split ok1 r1'
  have own1 : (turnM M b).own.length = M.own.length := by rw [turn_own]
  cases Q with
  | nil =>
    have hn : nextN (turnM M b) a = 0 := hn
    have hc : cut0 (turnM M b) 0 = turnM M b := by unfold cut0; rw [if_pos rfl]
    have r2 : (turnM M b).rows.Perm ((P ++ [a]) :: [p0] :: (b :: Z) :: [p1] :: R) := r1'.trans (List.Perm.cons _ (List.Perm.swap _ _ _))
    obtain ⟨⟨n1, n2, n3⟩, ok5, r5, ka, kb, kp0, kp1⟩ := joins3 ok1 r2
    rw [own1] at ka kb kp0 kp1
    have hl : linkM M a b p0 p1 = (((turnM M b).join a p0).join p0 b).join b p1 := by
      unfold linkM
      simp only [hn, hc]
      unfold join0
      rw [if_pos (.inr rfl)]
    refine ⟨P, [], Z, rfl, ⟨P2, Q2, e3, e4⟩, by rw [hl]; exact ok5, by rw [hl]; exact r5, ok1, .inl hn, ?_, ?_, ?_, fun e => absurd hn e, ka, kb, kp0, kp1⟩
    · rw [hn, hc]; exact n1
    · rw [hn, hc]; exact n2
    · rw [hn, hc]; exact n3
  | cons q Q =>
    have hn : nextN (turnM M b) a = q := hn
    have kq := perm_known ok1 r1' (a := q) (by simp)
    have hq : q ≠ 0 := by omega
    have hc : cut0 (turnM M b) q = (turnM M b).cut q := by unfold cut0; rw [if_neg hq]
    have r1'' : (turnM M b).rows.Perm (((P ++ [a]) ++ q :: Q) :: (b :: Z) :: [p0] :: [p1] :: R) := by simpa using r1'
    have c2 := cutP ok1 r1'' (by simp)
    have ok2 := ok_cut ok1 q
    have r2 : ((turnM M b).cut q).rows.Perm ((P ++ [a]) :: [p0] :: (b :: Z) :: [p1] :: ((q :: Q) :: R)) := by
      refine c2.trans (List.Perm.cons _ ?_)
      have s1 : ((q :: Q) :: (b :: Z) :: [p0] :: [p1] :: R).Perm ((b :: Z) :: (q :: Q) :: [p0] :: [p1] :: R) := List.Perm.swap _ _ _
      have s2 : ((b :: Z) :: (q :: Q) :: [p0] :: [p1] :: R).Perm ((b :: Z) :: [p0] :: [p1] :: (q :: Q) :: R) := List.Perm.cons _ ((List.Perm.swap _ _ _).trans (List.Perm.cons _ (List.Perm.swap _ _ _)))
      exact s1.trans (s2.trans (List.Perm.swap _ _ _))
    obtain ⟨⟨n1, n2, n3⟩, ok5, r5, ka, kb, kp0, kp1⟩ := joins3 ok2 r2
    have own2 : ((turnM M b).cut q).own.length = M.own.length := own1
    rw [own2] at ka kb kp0 kp1
    have n4 := perm_ne ok5 r5 (a := p1) (b := q) (by simp) (by simp)
    rw [own1] at kq
    have ok6 := ok_join ok5 (a := p1) (b := q) (by show 1 ≤ p1 ∧ p1 ≤ ((turnM M b).cut q).own.length; rw [own2]; exact kp1) (by show 1 ≤ q ∧ q ≤ ((turnM M b).cut q).own.length; rw [own2]; exact kq) n4
    have r6 := joinP ok5 r5 (a := p1) (b := q) (by simp) (by simp)
    have hl : linkM M a b p0 p1 = (((((turnM M b).cut q).join a p0).join p0 b).join b p1).join p1 q := by
      unfold linkM
      simp only [hn, hc]
      unfold join0
      rw [if_neg (by omega)]
    refine ⟨P, q :: Q, Z, rfl, ⟨P2, Q2, e3, e4⟩, by rw [hl]; exact ok6, by rw [hl]; simpa using r6, ok1, .inr (by rw [hn]; exact kq), ?_, ?_, ?_, ?_, ka, kb, kp0, kp1⟩
    · rw [hn, hc]; exact n1
    · rw [hn, hc]; exact n2
    · rw [hn, hc]; exact n3
    · intro _; rw [hn, hc]; exact n4

/-- Which of two places stands ahead in its row. -/
def ordM (M : RM V) (p0 p1 : Nat) : Nat × Nat := if (M.rowOf p1).idxOf p1 < (M.rowOf p0).idxOf p0 then (p1, p0) else (p0, p1)

def partM (M : RM V) (f l : Nat) : RM V :=
  join0 (cut0 (((M.cut f).cut (nextN M f)).cut l) (nextN M l)) (prevN M f) (nextN M l)

theorem part_own (M : RM V) (f l : Nat) : (partM M f l).own = M.own := by
  unfold partM
  rw [join0_own, cut0_own]
  rfl

def cutM (M : RM V) (p0 p1 : Nat) : RM V := partM M (ordM M p0 p1).1 (ordM M p0 p1).2

theorem cut_own2 (M : RM V) (p0 p1 : Nat) : (cutM M p0 p1).own = M.own := part_own _ _ _

/-- A piece is taken out of a row. -/
structure PartOut (M : RM V) (R : List (List Nat)) (f l : Nat) (A X B : List Nat) : Prop where
  ok : (partM M f l).Ok
  rows : (partM M f l).rows.Perm (X :: (A ++ B) :: [f] :: [l] :: R)
  kf : 1 ≤ f ∧ f ≤ M.own.length
  kl : 1 ≤ l ∧ l ≤ M.own.length
  kn : 1 ≤ nextN M f ∧ nextN M f ≤ M.own.length
  kr : nextN M l = 0 ∨ 1 ≤ nextN M l ∧ nextN M l ≤ M.own.length
  kh : prevN M f = 0 ∨ 1 ≤ prevN M f ∧ prevN M f ≤ M.own.length
  ne : prevN M f ≠ 0 → nextN M l ≠ 0 → (cut0 (((M.cut f).cut (nextN M f)).cut l) (nextN M l)).rowOf (prevN M f) ≠ (cut0 (((M.cut f).cut (nextN M f)).cut l) (nextN M l)).rowOf (nextN M l)

theorem partP {f l : Nat} {A X B : List Nat} (h : M.Ok) (hp : M.rows.Perm ((A ++ f :: (X ++ l :: B)) :: R)) (hX : X ≠ []) (hAB : A ++ B ≠ []) : PartOut M R f l A X B := by
  cases X with
  | nil => exact absurd rfl hX
  | cons x X =>
  have hr := hp
  have kf := perm_known h hp (a := f) (by simp)
  have kx := perm_known h hp (a := x) (by simp)
  have kl := perm_known h hp (a := l) (by simp)
  have ef : nextN M f = x := next_split h hp
  have eh : prevN M f = A.getLastD 0 := prev_split h hp
  have el : nextN M l = B.headD 0 := next_split (P := A ++ f :: x :: X) h (by simpa using hp)
  have r1 := cutO h hp
  have ok1 := ok_cut h f
  have r2 : ((M.cut f).cut x).rows.Perm ([f] :: ((x :: X) ++ l :: B) :: (optR A ++ R)) := cutP (P := [f]) ok1 r1 (by simp)
  have ok2 := ok_cut ok1 x
  have r3 : (((M.cut f).cut x).cut l).rows.Perm ((x :: X) :: (l :: B) :: [f] :: (optR A ++ R)) := cutP ok2 (r2.trans (List.Perm.swap _ _ _)) (by simp)
  have ok3 := ok_cut ok2 l
  have hM : partM M f l = join0 (cut0 (((M.cut f).cut x).cut l) (B.headD 0)) (A.getLastD 0) (B.headD 0) := by unfold partM; rw [ef, eh, el]
  have o3 : (((M.cut f).cut x).cut l).own.length = M.own.length := rfl
  have key : ∀ T : List (List Nat), ((x :: X) :: [l] :: [f] :: T).Perm ((x :: X) :: [f] :: [l] :: T) := fun T => List.Perm.cons _ (List.Perm.swap _ _ _)
  have fin : ∀ (Y : List Nat), ((x :: X) :: [f] :: [l] :: (Y :: R)).Perm ((x :: X) :: Y :: [f] :: [l] :: R) := fun Y =>
    List.Perm.cons _ ((List.Perm.cons _ (List.Perm.swap _ _ _)).trans (List.Perm.swap _ _ _))
  cases B with
  | nil =>
    have hA : A ≠ [] := by simpa using hAB
    have e1 : cut0 (((M.cut f).cut x).cut l) 0 = ((M.cut f).cut x).cut l := by unfold cut0; rw [if_pos rfl]
    have e2 : partM M f l = ((M.cut f).cut x).cut l := by rw [hM]; show join0 (cut0 _ 0) _ 0 = _; rw [e1]; unfold join0; rw [if_pos (.inr rfl)]
    refine ⟨by rw [e2]; exact ok3, ?_, kf, kl, by rw [ef]; exact kx, .inl el, ?_, fun _ h2 => absurd el h2⟩
    · rw [e2]
      refine r3.trans ((key _).trans ?_)
      unfold optR
      rw [if_neg hA]
      simpa using fin A
    · rw [eh]
      rcases List.eq_nil_or_concat A with rfl | ⟨A1, y, rfl⟩
      · exact absurd rfl hA
      · right
        have : (A1.concat y).getLastD 0 = y := by simp
        rw [this]
        exact perm_known h hp (a := y) (by simp)
  | cons b B =>
    have kb := perm_known h hp (a := b) (by simp)
    have hb : b ≠ 0 := by omega
    have el : nextN M l = b := el
    have e1 : cut0 (((M.cut f).cut x).cut l) b = (((M.cut f).cut x).cut l).cut b := by unfold cut0; rw [if_neg hb]
    have r3' : (((M.cut f).cut x).cut l).rows.Perm (([l] ++ b :: B) :: (x :: X) :: [f] :: (optR A ++ R)) := r3.trans (List.Perm.swap _ _ _)
    have r4 : ((((M.cut f).cut x).cut l).cut b).rows.Perm ([l] :: (b :: B) :: (x :: X) :: [f] :: (optR A ++ R)) := cutP ok3 r3' (by simp)
    have ok4 := ok_cut ok3 b
    have r5 : ((((M.cut f).cut x).cut l).cut b).rows.Perm ((b :: B) :: (optR A ++ ((x :: X) :: [f] :: [l] :: R))) := by
      refine r4.trans ((List.Perm.swap _ _ _).trans (List.Perm.cons _ ?_))
      have s1 : ([l] :: (x :: X) :: [f] :: (optR A ++ R)).Perm ((x :: X) :: [f] :: [l] :: (optR A ++ R)) := (List.Perm.swap _ _ _).trans (List.Perm.cons _ (List.Perm.swap _ _ _))
      refine s1.trans ?_
      have s2 : ([(x :: X), [f], [l]] ++ optR A).Perm (optR A ++ [(x :: X), [f], [l]]) := List.perm_append_comm
      have s3 := s2.append_right R
      simpa using s3
    rcases List.eq_nil_or_concat A with rfl | ⟨A1, y, rfl⟩
    · have e2 : partM M f l = (((M.cut f).cut x).cut l).cut b := by rw [hM]; show join0 (cut0 _ b) 0 b = _; rw [e1]; unfold join0; rw [if_pos (.inl rfl)]
      refine ⟨by rw [e2]; exact ok4, ?_, kf, kl, by rw [ef]; exact kx, .inr (by rw [el]; exact kb), .inl eh, fun h1 _ => absurd eh h1⟩
      rw [e2]
      refine r5.trans ?_
      have : optR [] = [] := rfl
      rw [this]
      exact (List.perm_middle (a := b :: B) (l₁ := [(x :: X)]) (l₂ := [f] :: [l] :: R)).symm
    · have ey : (A1.concat y).getLastD 0 = y := by simp
      have ky := perm_known h hp (a := y) (by simp)
      have hy : y ≠ 0 := by omega
      have oA : optR (A1.concat y) = [A1.concat y] := by unfold optR; rw [if_neg (by simp)]
      rw [oA] at r5
      have r6 : ((((M.cut f).cut x).cut l).cut b).rows.Perm ((A1.concat y) :: (b :: B) :: ((x :: X) :: [f] :: [l] :: R)) := r5.trans (List.Perm.swap _ _ _)
      have n6 := perm_ne ok4 r6 (a := y) (b := b) (by simp) (by simp)
      have ok6 := ok_join ok4 ky kb n6
      have r7 := joinP ok4 r6 (a := y) (b := b) (by simp) (by simp)
      have e2 : partM M f l = ((((M.cut f).cut x).cut l).cut b).join y b := by rw [hM, ey]; show join0 (cut0 _ b) y b = _; rw [e1]; unfold join0; rw [if_neg (by omega)]
      refine ⟨by rw [e2]; exact ok6, ?_, kf, kl, by rw [ef]; exact kx, .inr (by rw [el]; exact kb), .inr (by rw [eh, ey]; exact ky), fun _ _ => ?_⟩
      · rw [e2]
        exact r7.trans (List.Perm.swap _ _ _)
      · rw [ef, el, eh, ey, e1]
        exact n6

/-- One row becomes two, and two places. -/
structure CutOutM (M : RM V) (xs : List Nat) (R : List (List Nat)) (p0 p1 : Nat) (X Y : List Nat) : Prop where
  ok : (cutM M p0 p1).Ok
  rows : (cutM M p0 p1).rows.Perm (X :: Y :: [p0] :: [p1] :: R)
  part : ∃ A B, PartOut M R (ordM M p0 p1).1 (ordM M p0 p1).2 A X B
  k0 : 1 ≤ p0 ∧ p0 ≤ M.own.length
  k1 : 1 ≤ p1 ∧ p1 ≤ M.own.length

theorem ord_fst (h : M.Ok) {f l : Nat} {A X B : List Nat} (hp : M.rows.Perm ((A ++ f :: (X ++ l :: B)) :: R)) : ordM M f l = (f, l) ∧ ordM M l f = (f, l) := by
  have hnd := row_nodup h (hp.mem_iff.2 (List.mem_cons_self ..))
  have e1 := perm_row h hp (a := f) (by simp)
  have e2 := perm_row h hp (a := l) (by simp)
  have i1 : (A ++ f :: (X ++ l :: B)).idxOf f = A.length := idx_split (not_before hnd)
  have hs : A ++ f :: (X ++ l :: B) = (A ++ f :: X) ++ l :: B := by simp
  have i2 : (A ++ f :: (X ++ l :: B)).idxOf l = (A ++ f :: X).length := by rw [hs]; exact idx_split (not_before (by rw [← hs]; exact hnd))
  unfold ordM
  rw [e1, e2, i1, i2]
  have : A.length < (A ++ f :: X).length := by simp
  rw [if_neg (by omega), if_pos this]
  exact ⟨rfl, rfl⟩

/-- Two places of a row, in their order. -/
theorem two_split {p0 p1 : Nat} (h0 : p0 ∈ xs) (h1 : p1 ∈ xs) (hne : p0 ≠ p1) : ∃ f l A X B, xs = A ++ f :: (X ++ l :: B) ∧ (f = p0 ∧ l = p1 ∨ f = p1 ∧ l = p0) := by
  obtain ⟨P, Q, rfl, hna⟩ := row_split h0
  rw [List.mem_append, List.mem_cons] at h1
  rcases h1 with h1 | h1 | h1
  · obtain ⟨A, X, rfl, -⟩ := row_split h1
    exact ⟨p1, p0, A, X, Q, by simp, .inr ⟨rfl, rfl⟩⟩
  · exact absurd h1.symm hne
  · obtain ⟨X, B, rfl, -⟩ := row_split h1
    exact ⟨p0, p1, P, X, B, rfl, .inl ⟨rfl, rfl⟩⟩

theorem cutPP (h : M.Ok) {f l : Nat} {A X B : List Nat} (hx : xs = A ++ f :: (X ++ l :: B)) (hp : M.rows.Perm (xs :: R)) (ho : f = p0 ∧ l = p1 ∨ f = p1 ∧ l = p0) (hX : X ≠ []) (hAB : A ++ B ≠ []) : CutOutM M xs R p0 p1 X (A ++ B) := by
  rw [hx] at hp
  have P := partP h hp hX hAB
  have O := ord_fst h hp
  rcases ho with ⟨rfl, rfl⟩ | ⟨rfl, rfl⟩
  · refine ⟨?_, ?_, ⟨A, B, ?_⟩, P.kf, P.kl⟩
    · unfold cutM; rw [O.1]; exact P.ok
    · unfold cutM; rw [O.1]; exact P.rows
    · rw [O.1]; exact P
  · refine ⟨?_, ?_, ⟨A, B, ?_⟩, P.kl, P.kf⟩
    · unfold cutM; rw [O.2]; exact P.ok
    · unfold cutM; rw [O.2]; exact P.rows.trans (List.Perm.cons _ (List.Perm.cons _ (List.Perm.swap _ _ _)))
    · rw [O.2]; exact P

end

end Go.Proofs.Ytlakcldgolpaiaa

/-
  A forest in plain words: what Link makes of it. No walk of code.
-/
namespace Go.Proofs.Ytlakcldgolpaiaa
set_option linter.unusedVariables false

theorem tok_map {who who' : List Tok} {xs : List Nat} (h : ∀ c ∈ xs, tok who' c = tok who c) : xs.map (tok who') = xs.map (tok who) := List.map_congr_left h

def putE (pe : Int → Option (Nat × Nat)) (id : Int) (v : Option (Nat × Nat)) : Int → Option (Nat × Nat) := fun i => if i = id then v else pe i

theorem turned {who : List Tok} {xs P Q Z : List Nat} {a : Nat} {es : List Edg} (h : Tour (xs.map (tok who)) es) (hx : xs = P ++ a :: Q) (hz : Z = Q ++ P) : Tour (tok who a :: Z.map (tok who)) es := by
  subst hx hz
  rw [List.map_append] at h
  have := Tour.turn h
  simpa using this

section

variable {V : Type} {M : RM V} {pv : Int → Option Nat} {pe : Int → Option (Nat × Nat)} {who : List Tok} {free : List Nat} {edges : List Edg} {W : List (List Nat)} {xs ys : List Nat} {a b p0 p1 : Nat}

theorem FOk.link (h : FOk M pv pe who free edges (xs :: ys :: W)) {id u v : Int} (ha : a ∈ xs) (hb : b ∈ ys) (tu : tok who a = vt u) (tv : tok who b = vt v) (hid : pe id = none) {M1 : RM V} {who1 : List Tok} {free1 : List Nat} (ok1 : M1.Ok) (len1 : who1.length = M1.own.length + 1)
    (rows1 : M1.rows.Perm (xs :: ys :: [p0] :: [p1] :: (W ++ lone free1))) (same : ∀ c ∈ (xs :: ys :: W).flatten, tok who1 c = tok who c) (t0 : tok who1 p0 = et id) (t1 : tok who1 p1 = et id) :
    ∃ P Q Z, LinkOut M1 xs ys (W ++ lone free1) a b p0 p1 P Q Z ∧ FOk (linkM M1 a b p0 p1) pv (putE pe id (some (p0, p1))) who1 free1 ((id, u, v) :: edges) ((P ++ a :: (p0 :: ((b :: Z) ++ p1 :: Q))) :: W) := by
  obtain ⟨P, Q, Z, L⟩ := linkP ok1 rows1 ha hb
  refine ⟨P, Q, Z, L, ?_⟩
  have hx := L.z1
  obtain ⟨P2, Q2, hy, hz2⟩ := L.z2
  have hmem : ∀ c, c ∈ ((P ++ a :: (p0 :: ((b :: Z) ++ p1 :: Q))) :: W).flatten ↔ c ∈ (xs :: ys :: W).flatten ∨ c = p0 ∨ c = p1 := by
    intro c
    rw [hx, hy, hz2]
    simp only [List.flatten_cons, List.mem_append, List.mem_cons]
    grind
  have q0 : p0 ∉ (xs :: ys :: W).flatten ∧ p1 ∉ (xs :: ys :: W).flatten ∧ p0 ≠ p1 := by
    have r1 : M1.rows.Perm (xs :: ys :: [p1] :: [p0] :: (W ++ lone free1)) := rows1.trans (List.Perm.cons _ (List.Perm.cons _ (List.Perm.swap _ _ _)))
    have up : ∀ (c d : Nat), M1.rows.Perm (xs :: ys :: [c] :: [d] :: (W ++ lone free1)) → c ∉ (xs :: ys :: W).flatten ∧ c ≠ d := by
      intro c d r
      have ap := perm_apart ok1 (r.trans ((List.Perm.cons _ (List.Perm.swap _ _ _)).trans (List.Perm.swap _ _ _))) (a := c) (by simp)
      refine ⟨fun hm => ?_, fun e => ap [d] (by simp) (by simp [e])⟩
      obtain ⟨zs, hz, hc⟩ := List.mem_flatten.1 hm
      refine ap zs ?_ hc
      simp only [List.mem_cons, List.mem_append] at hz ⊢
      rcases hz with h | h | h <;> simp [h]
    exact ⟨(up _ _ rows1).1, (up _ _ r1).1, (up _ _ rows1).2⟩
  have tv' : ∀ c, c = p0 ∨ c = p1 → tok who1 c = et id := by
    rintro c (rfl | rfl)
    · exact t0
    · exact t1
  have no : id ∉ ids edges := fun hi => (h.has id).1 hi hid
  have sx : ∀ c ∈ xs, tok who1 c = tok who c := fun c hc => same c (by simp [hc])
  have sy : ∀ c ∈ ys, tok who1 c = tok who c := fun c hc => same c (by simp [hc])
  refine ⟨L.ok, by rw [link_own]; exact len1, L.rows, ?_, ?_, ?_, ?_, ?_, ?_⟩
  · intro zs hz
    rcases List.mem_cons.1 hz with rfl | hz
    · obtain ⟨es, h1, h2⟩ := h.tour xs (by simp)
      obtain ⟨fs, h3, h4⟩ := h.tour ys (by simp)
      rw [← tok_map sx] at h1
      rw [← tok_map sy] at h3
      have k2 := turned h3 hy hz2
      rw [sy b hb, tv] at k2
      rw [hx, List.map_append, List.map_cons, sx a ha, tu] at h1
      have k3 := tour_insert (P := P.map (tok who1) ++ [vt u]) (Q := Q.map (tok who1)) (id := id) (u := u) (v := v) (p := u) (q := v) (by simpa using h1) (.inr ⟨Q.map (tok who1) ++ P.map (tok who1), by simp⟩) k2 (.inl ⟨_, rfl⟩) (.inl ⟨rfl, rfl⟩)
      refine ⟨(id, u, v) :: (es ++ fs), ?_, ?_⟩
      · simp only [List.map_append, List.map_cons, t0, t1, sx a ha, sy b hb, tu, tv]
        simpa using k3
      · intro e he
        rcases List.mem_cons.1 he with rfl | he
        · exact List.mem_cons_self ..
        · rcases List.mem_append.1 he with he | he
          · exact List.mem_cons_of_mem _ (h2 e he)
          · exact List.mem_cons_of_mem _ (h4 e he)
    · obtain ⟨es, h1, h2⟩ := h.tour zs (by simp [hz])
      rw [← tok_map (who' := who1) (fun c hc => same c (by simp only [List.flatten_cons, List.mem_append]; exact .inr (.inr (List.mem_flatten.2 ⟨zs, hz, hc⟩))))] at h1
      exact ⟨es, h1, fun e he => List.mem_cons_of_mem _ (h2 e he)⟩
  · show (id :: ids edges).Nodup
    exact List.nodup_cons.2 ⟨no, h.nd⟩
  · intro i c
    rw [hmem]
    constructor
    · intro e
      obtain ⟨h1, h2⟩ := (h.vert i c).1 e
      exact ⟨.inl h1, by rw [same c h1]; exact h2⟩
    · rintro ⟨h1 | h1, h2⟩
      · exact (h.vert i c).2 ⟨h1, by rw [← same c h1]; exact h2⟩
      · rw [tv' c h1] at h2
        exact absurd h2.symm (vt_ne_et _ _)
  · intro i c d e
    rw [hmem, hmem]
    unfold putE at e
    split at e
    · rename_i hi
      injection e with e
      injection e with e1 e2
      subst e1 e2 hi
      exact ⟨q0.2.2, .inr (.inl rfl), .inr (.inr rfl), t0, t1⟩
    · obtain ⟨h1, h2, h3, h4, h5⟩ := h.edge i c d e
      exact ⟨h1, .inl h2, .inl h3, by rw [same c h2]; exact h4, by rw [same d h3]; exact h5⟩
  · intro c hc i hi
    unfold putE
    rcases (hmem c).1 hc with h1 | h1
    · rw [same c h1] at hi
      obtain ⟨x, y, h2, h3⟩ := h.only c h1 i hi
      have hne : i ≠ id := fun e => by rw [e, hid] at h2; cases h2
      exact ⟨x, y, by rw [if_neg hne]; exact h2, h3⟩
    · rw [tv' c h1] at hi
      have : id = i := by injection hi
      exact ⟨p0, p1, by rw [if_pos this.symm], h1⟩
  · intro i
    show i ∈ id :: ids edges ↔ _
    unfold putE
    by_cases e : i = id
    · simp [e]
    · rw [if_neg e, ← h.has i]
      simp [e]

/-- One edge's two places stand in one walk, and its ids stand once. -/
theorem FOk.pair (h : FOk M pv pe who free edges (xs :: W)) {id : Int} (he : pe id = some (p0, p1)) (h0 : p0 ∈ xs) {es : List Edg} (ht : Tour (xs.map (tok who)) es) : p1 ∈ xs ∧ (ids es).Nodup := by
  have hnd : xs.Nodup := row_nodup h.ok (h.rows.mem_iff.2 (List.mem_cons_self ..))
  have key : ∀ i b c, pe i = some (b, c) → (xs.map (tok who)).count (et i) ≤ 2 ∧ (b ∈ xs → (xs.map (tok who)).count (et i) = 2 → c ∈ xs) := by
    intro i b c hi
    have hcnt : (xs.map (tok who)).count (et i) = (xs.filter fun d => tok who d == et i).length := by
      rw [List.count_eq_countP, List.countP_map, List.countP_eq_length_filter]; rfl
    have hsub : (xs.filter fun d => tok who d == et i) ⊆ [b, c] := by
      intro d hd
      obtain ⟨h1, h2⟩ := List.mem_filter.1 hd
      obtain ⟨b', c', h3, h4⟩ := h.only d (by simp [h1]) i (by simpa using h2)
      rw [hi] at h3
      injection h3 with h3
      injection h3 with h5 h6
      subst h5 h6
      simpa using h4
    have hndf : (xs.filter fun d => tok who d == et i).Nodup := hnd.filter _
    rw [hcnt]
    refine ⟨hndf.length_le_of_subset hsub, fun hb h2 => ?_⟩
    by_cases hc : c ∈ xs
    · exact hc
    · exfalso
      have hsub2 : (xs.filter fun d => tok who d == et i) ⊆ [b] := by
        intro d hd
        have h1 := hsub hd
        simp at h1 ⊢
        rcases h1 with h1 | h1
        · exact h1
        · rw [h1] at hd; exact absurd (List.mem_filter.1 hd).1 hc
      have := hndf.length_le_of_subset hsub2
      simp at this
      omega
  have hmem : ∀ i, i ∈ ids es → ∃ b c, pe i = some (b, c) := by
    intro i hi
    have := (tour_et ht).2 hi
    obtain ⟨d, hd, e⟩ := List.mem_map.1 this
    obtain ⟨b, c, h1, _⟩ := h.only d (by simp [hd]) i e
    exact ⟨b, c, h1⟩
  refine ⟨?_, List.nodup_iff_count.2 fun i => ?_⟩
  · refine (key id p0 p1 he).2 h0 ?_
    have h1 := tour_count ht id
    have h2 : 0 < (xs.map (tok who)).count (et id) := List.count_pos_iff.2 (List.mem_map.2 ⟨p0, h0, (h.edge id p0 p1 he).2.2.2.1⟩)
    have h3 := (key id p0 p1 he).1
    omega
  · by_cases hi : i ∈ ids es
    · obtain ⟨b, c, h1⟩ := hmem i hi
      have h2 := (key i b c h1).1
      have h3 := tour_count ht i
      omega
    · rw [List.count_eq_zero.2 hi]; omega

end

end Go.Proofs.Ytlakcldgolpaiaa

/-
  A forest in plain words: what Cut makes of it. No walk of code.
-/
namespace Go.Proofs.Ytlakcldgolpaiaa
set_option linter.unusedVariables false

theorem up_apart {V : Type} {M : RM V} {X Y : List Nat} {R : List (List Nat)} (ok : M.Ok) {c d : Nat} (r : M.rows.Perm (X :: Y :: [c] :: [d] :: R)) : c ∉ X ∧ c ∉ Y ∧ c ≠ d ∧ ∀ zs ∈ R, c ∉ zs := by
  have ap := perm_apart ok (r.trans ((List.Perm.cons _ (List.Perm.swap _ _ _)).trans (List.Perm.swap _ _ _))) (a := c) (by simp)
  exact ⟨ap X (by simp), ap Y (by simp), fun e => ap [d] (by simp) (by simp [e]), fun zs hz => ap zs (by simp [hz])⟩

section

variable {V : Type} {M : RM V} {pv : Int → Option Nat} {pe : Int → Option (Nat × Nat)} {who : List Tok} {free : List Nat} {edges : List Edg} {W : List (List Nat)} {xs : List Nat} {p0 p1 : Nat}

theorem FOk.cut (h : FOk M pv pe who free edges (xs :: W)) {id : Int} (he : pe id = some (p0, p1)) (h0 : p0 ∈ xs) :
    ∃ X Y, CutOutM M xs (W ++ lone free) p0 p1 X Y ∧ (∀ c, c ∈ xs ↔ c ∈ X ∨ c ∈ Y ∨ c = p0 ∨ c = p1) ∧ ∀ (who' : List Tok) (free' : List Nat), who'.length = who.length → (∀ c ∈ (X :: Y :: W).flatten, tok who' c = tok who c) → free'.Perm (p0 :: p1 :: free) →
      FOk (cutM M p0 p1) pv (putE pe id none) who' free' (edges.filter fun e => !decide (e.1 = id)) (X :: Y :: W) := by
  obtain ⟨es, ht, hes⟩ := h.tour xs (by simp)
  obtain ⟨hp1, hnd⟩ := h.pair he h0 ht
  obtain ⟨hne, -, -, t0, t1⟩ := h.edge id p0 p1 he
  obtain ⟨f, l, A, X, B, hx, ho⟩ := two_split h0 hp1 hne
  have tf : tok who f = et id ∧ tok who l = et id := by
    rcases ho with ⟨rfl, rfl⟩ | ⟨rfl, rfl⟩
    · exact ⟨t0, t1⟩
    · exact ⟨t1, t0⟩
  have k1 := ht
  rw [hx, List.map_append, List.map_cons, List.map_append, List.map_cons, tf.1, tf.2] at k1
  obtain ⟨es1, es2, p, q, hc0⟩ := tour_cuts k1 hnd id (X.map (tok who)) (B.map (tok who) ++ A.map (tok who)) ⟨A.map (tok who), et id :: (X.map (tok who) ++ et id :: B.map (tok who)), rfl, by simp⟩
  have hc : CutOut es id (X.map (tok who)) ((A ++ B).map (tok who)) es1 es2 p q :=
    ⟨hc0.fst, by rw [List.map_append]; exact .turn hc0.snd, hc0.perm, by
      have := hc0.ends
      simp only [List.map_append, List.mem_append] at this ⊢
      rcases this with ⟨h1, h2⟩ | ⟨h1, h2⟩
      · exact .inl ⟨h1, h2.symm⟩
      · exact .inr ⟨h1, h2.symm⟩⟩
  obtain ⟨Y, hY0⟩ : ∃ Y, Y = A ++ B := ⟨_, rfl⟩
  have hX : X ≠ [] := fun e => tour_ne hc.fst (by rw [e]; rfl)
  have hAB : A ++ B ≠ [] := fun e => tour_ne hc.snd (by rw [e]; rfl)
  have C := cutPP h.ok hx h.rows ho hX hAB
  have hm0 : ∀ c, c ∈ xs ↔ c ∈ X ∨ c ∈ A ++ B ∨ c = p0 ∨ c = p1 := by
    intro c
    rw [hx]
    simp only [List.mem_append, List.mem_cons]
    rcases ho with ⟨rfl, rfl⟩ | ⟨rfl, rfl⟩
    · grind
    · grind
  rw [← hY0] at hc C hm0
  refine ⟨X, Y, C, hm0, fun who' free' hlen same hfree => ?_⟩
  have hm : ∀ c, c ∈ (xs :: W).flatten ↔ c ∈ (X :: Y :: W).flatten ∨ c = p0 ∨ c = p1 := by
    intro c
    have := hm0 c
    simp only [List.flatten_cons, List.mem_append]
    rw [this]
    constructor
    · rintro ((h | h | h | h) | h) <;> simp [h]
    · rintro ((h | h | h) | h | h) <;> simp [h]
  have a0 := up_apart C.ok C.rows
  have a1 := up_apart C.ok (C.rows.trans (List.Perm.cons _ (List.Perm.cons _ (List.Perm.swap _ _ _))))
  have apart : ∀ c, c = p0 ∨ c = p1 → c ∉ (X :: Y :: W).flatten := by
    intro c hc hi
    obtain ⟨zs, hzs, hcz⟩ := List.mem_flatten.1 hi
    have hzs2 : zs = X ∨ zs = Y ∨ zs ∈ W ++ lone free := by
      rcases List.mem_cons.1 hzs with h | h
      · exact .inl h
      · rcases List.mem_cons.1 h with h | h
        · exact .inr (.inl h)
        · exact .inr (.inr (List.mem_append_left _ h))
    rcases hc with rfl | rfl
    · rcases hzs2 with rfl | rfl | hzs2
      · exact a0.1 hcz
      · exact a0.2.1 hcz
      · exact a0.2.2.2 zs hzs2 hcz
    · rcases hzs2 with rfl | rfl | hzs2
      · exact a1.1 hcz
      · exact a1.2.1 hcz
      · exact a1.2.2.2 zs hzs2 hcz
  have tk : ∀ c, c = p0 ∨ c = p1 → tok who c = et id := by
    rintro c (rfl | rfl)
    · exact t0
    · exact t1
  have nid : id ∉ ids (es1 ++ es2) := by
    have := (ids_perm hc.perm).nodup_iff.1 hnd
    exact (List.nodup_cons.1 (show (id :: ids (es1 ++ es2)).Nodup from this)).1
  have keep : ∀ e ∈ es1 ++ es2, e ∈ edges.filter fun e => !decide (e.1 = id) := by
    intro e hm
    refine List.mem_filter.2 ⟨hes e (hc.perm.mem_iff.2 (List.mem_cons_of_mem _ hm)), ?_⟩
    have : e.1 ≠ id := fun h => nid (List.mem_map.2 ⟨e, hm, h⟩)
    simpa using this
  refine ⟨C.ok, by rw [hlen, cut_own2]; exact h.len, ?_, ?_, ?_, ?_, ?_, ?_, ?_⟩
  · refine C.rows.trans ?_
    show (X :: Y :: [p0] :: [p1] :: (W ++ lone free)).Perm (X :: Y :: (W ++ lone free'))
    refine List.Perm.cons _ (List.Perm.cons _ ?_)
    have e1 : (lone free').Perm ([p0] :: [p1] :: lone free) := hfree.map _
    refine List.Perm.trans ?_ (e1.symm.append_left W)
    exact ((List.perm_middle).trans (List.Perm.cons _ List.perm_middle)).symm
  · intro zs hz
    have st : ∀ c ∈ zs, tok who' c = tok who c := fun c hcz => same c (List.mem_flatten.2 ⟨zs, hz, hcz⟩)
    rw [tok_map st]
    rcases List.mem_cons.1 hz with rfl | hz
    · exact ⟨es1, hc.fst, fun e hm => keep e (List.mem_append_left _ hm)⟩
    rcases List.mem_cons.1 hz with rfl | hz
    · exact ⟨es2, hc.snd, fun e hm => keep e (List.mem_append_right _ hm)⟩
    · obtain ⟨fs, h1, h2⟩ := h.tour zs (by simp [hz])
      refine ⟨fs, h1, fun e hm => List.mem_filter.2 ⟨h2 e hm, ?_⟩⟩
      have : e.1 ≠ id := by
        intro e1
        have h3 := (tour_et h1).2 (List.mem_map.2 ⟨e, hm, e1⟩)
        obtain ⟨c, hcz, h4⟩ := List.mem_map.1 h3
        obtain ⟨b, d, h5, h6⟩ := h.only c (List.mem_flatten.2 ⟨zs, by simp [hz], hcz⟩) id h4
        rw [he] at h5
        injection h5 with h5
        injection h5 with h7 h8
        subst h7 h8
        exact apart c h6 (List.mem_flatten.2 ⟨zs, by simp [hz], hcz⟩)
      simpa using this
  · exact (List.filter_sublist.map _).nodup h.nd
  · intro i c
    rw [h.vert i c, hm]
    constructor
    · rintro ⟨h1 | h1, h2⟩
      · exact ⟨h1, by rw [same c h1]; exact h2⟩
      · rw [tk c h1] at h2
        exact absurd h2.symm (vt_ne_et _ _)
    · rintro ⟨h1, h2⟩
      exact ⟨.inl h1, by rw [← same c h1]; exact h2⟩
  · intro i c d e
    unfold putE at e
    split at e
    · cases e
    · rename_i hi
      obtain ⟨h1, h2, h3, h4, h5⟩ := h.edge i c d e
      have hcn : c ∈ (X :: Y :: W).flatten := by
        rcases (hm c).1 h2 with h | h
        · exact h
        · rw [tk c h] at h4; exact absurd (by injection h4 with _ e; exact e.symm) hi
      have hdn : d ∈ (X :: Y :: W).flatten := by
        rcases (hm d).1 h3 with h | h
        · exact h
        · rw [tk d h] at h5; exact absurd (by injection h5 with _ e; exact e.symm) hi
      exact ⟨h1, hcn, hdn, by rw [same c hcn]; exact h4, by rw [same d hdn]; exact h5⟩
  · intro c hcn i hi
    rw [same c hcn] at hi
    obtain ⟨x, y, h1, h2⟩ := h.only c ((hm c).2 (.inl hcn)) i hi
    have hne2 : i ≠ id := by
      intro e
      rw [e, he] at h1
      injection h1 with h1
      injection h1 with h3 h4
      subst h3 h4
      exact apart c h2 hcn
    exact ⟨x, y, by unfold putE; rw [if_neg hne2]; exact h1, h2⟩
  · intro i
    unfold putE
    by_cases e : i = id
    · rw [if_pos e]
      simp only [ne_eq, not_true_eq_false, iff_false]
      intro hi
      obtain ⟨z, hz1, hz2⟩ := List.mem_map.1 hi
      have := (List.mem_filter.1 hz1).2
      rw [hz2, e] at this
      simp at this
    · rw [if_neg e, ← h.has i]
      constructor
      · intro hi
        obtain ⟨z, hz1, hz2⟩ := List.mem_map.1 hi
        exact List.mem_map.2 ⟨z, (List.mem_filter.1 hz1).1, hz2⟩
      · intro hi
        obtain ⟨z, hz1, hz2⟩ := List.mem_map.1 hi
        exact List.mem_map.2 ⟨z, List.mem_filter.2 ⟨hz1, by rw [hz2]; simpa using e⟩, hz2⟩

end

end Go.Proofs.Ytlakcldgolpaiaa

/-
  A forest in plain words: none, a vertex more, one less; who is joined. No walk of code.
-/
namespace Go.Proofs.Ytlakcldgolpaiaa
set_option linter.unusedVariables false

def putV (pv : Int → Option Nat) (v : Int) (x : Option Nat) : Int → Option Nat := fun i => if i = v then x else pv i

theorem fok_new {V : Type} : FOk (RM.new : RM V) (fun _ => none) (fun _ => none) [(false, 0)] [] [] [] :=
  ⟨⟨by simp [RM.new], fun a => by simp [RM.new]; omega, fun xs hx => by simp [RM.new] at hx⟩, rfl, by simp [RM.new, lone], fun xs hx => by simp at hx, by simp [ids], fun v a => by simp, fun id a b e => by simp at e, fun a ha => by simp at ha, fun id => by simp [ids]⟩

section

variable {V : Type} {M : RM V} {pv : Int → Option Nat} {pe : Int → Option (Nat × Nat)} {who : List Tok} {free : List Nat} {edges : List Edg} {W : List (List Nat)} {xs : List Nat} {a b : Nat}

theorem FOk.addv (h : FOk M pv pe who free edges W) {v : Int} (hv : pv v = none) {M1 : RM V} {who1 : List Tok} {free1 : List Nat} (ok1 : M1.Ok) (len1 : who1.length = M1.own.length + 1) (rows1 : M1.rows.Perm ([a] :: (W ++ lone free1)))
    (same : ∀ c ∈ W.flatten, tok who1 c = tok who c) (t : tok who1 a = vt v) : FOk M1 (putV pv v (some a)) pe who1 free1 edges ([a] :: W) := by
  have ap := perm_apart ok1 rows1 (a := a) (by simp)
  have na : a ∉ W.flatten := fun hm => by
    obtain ⟨zs, hz, hc⟩ := List.mem_flatten.1 hm
    exact ap zs (List.mem_append_left _ hz) hc
  have hm : ∀ c, c ∈ ([a] :: W).flatten ↔ c = a ∨ c ∈ W.flatten := fun c => by simp
  refine ⟨ok1, len1, rows1, ?_, h.nd, ?_, ?_, ?_, h.has⟩
  · intro zs hz
    rcases List.mem_cons.1 hz with rfl | hz
    · exact ⟨[], by simp only [List.map_cons, List.map_nil, t]; exact .vert v, fun e he => by cases he⟩
    · obtain ⟨es, h1, h2⟩ := h.tour zs hz
      exact ⟨es, by rw [tok_map fun c hc => same c (List.mem_flatten.2 ⟨zs, hz, hc⟩)]; exact h1, h2⟩
  · intro i c
    rw [hm]
    unfold putV
    by_cases e : i = v
    · subst e
      rw [if_pos rfl]
      constructor
      · intro e; injection e with e; subst e; exact ⟨.inl rfl, t⟩
      · rintro ⟨rfl | h1, h2⟩
        · rfl
        · rw [same c h1] at h2
          rw [(h.vert i c).2 ⟨h1, h2⟩] at hv
          cases hv
    · rw [if_neg e, h.vert i c]
      constructor
      · rintro ⟨h1, h2⟩; exact ⟨.inr h1, by rw [same c h1]; exact h2⟩
      · rintro ⟨rfl | h1, h2⟩
        · rw [t] at h2; exact absurd (vt_inj h2).symm e
        · exact ⟨h1, by rw [← same c h1]; exact h2⟩
  · intro i c d e
    obtain ⟨h1, h2, h3, h4, h5⟩ := h.edge i c d e
    exact ⟨h1, (hm c).2 (.inr h2), (hm d).2 (.inr h3), by rw [same c h2]; exact h4, by rw [same d h3]; exact h5⟩
  · intro c hc i hi
    rcases (hm c).1 hc with rfl | hc
    · rw [t] at hi; exact absurd hi (vt_ne_et _ _)
    · rw [same c hc] at hi
      exact h.only c hc i hi

theorem FOk.delv (h : FOk M pv pe who free edges ([a] :: W)) {v : Int} (t : tok who a = vt v) {who1 : List Tok} {free1 : List Nat} (len1 : who1.length = who.length) (same : ∀ c ∈ W.flatten, tok who1 c = tok who c) (hf : free1.Perm (a :: free)) : FOk M (putV pv v none) pe who1 free1 edges W := by
  have rows1 : M.rows.Perm ([a] :: (W ++ lone free)) := h.rows
  have ap := perm_apart h.ok rows1 (a := a) (by simp)
  have na : a ∉ W.flatten := fun hm => by
    obtain ⟨zs, hz, hc⟩ := List.mem_flatten.1 hm
    exact ap zs (List.mem_append_left _ hz) hc
  have hm : ∀ c, c ∈ ([a] :: W).flatten ↔ c = a ∨ c ∈ W.flatten := fun c => by simp
  refine ⟨h.ok, by rw [len1]; exact h.len, ?_, ?_, h.nd, ?_, ?_, ?_, h.has⟩
  · refine rows1.trans (List.Perm.trans ?_ ((hf.map fun a => [a]).symm.append_left W))
    exact List.perm_middle.symm
  · intro zs hz
    obtain ⟨es, h1, h2⟩ := h.tour zs (List.mem_cons_of_mem _ hz)
    exact ⟨es, by rw [tok_map fun c hc => same c (List.mem_flatten.2 ⟨zs, hz, hc⟩)]; exact h1, h2⟩
  · intro i c
    unfold putV
    by_cases e : i = v
    · subst e
      rw [if_pos rfl]
      constructor
      · intro e; cases e
      · rintro ⟨h1, h2⟩
        rw [same c h1] at h2
        have e1 := (h.vert i c).2 ⟨(hm c).2 (.inr h1), h2⟩
        have e2 := (h.vert i a).2 ⟨(hm a).2 (.inl rfl), t⟩
        rw [e1] at e2
        injection e2 with e2
        exact absurd (e2 ▸ h1) na
    · rw [if_neg e, h.vert i c]
      constructor
      · rintro ⟨h1, h2⟩
        rcases (hm c).1 h1 with rfl | h1
        · rw [t] at h2; exact absurd (vt_inj h2).symm e
        · exact ⟨h1, by rw [same c h1]; exact h2⟩
      · rintro ⟨h1, h2⟩
        exact ⟨(hm c).2 (.inr h1), by rw [← same c h1]; exact h2⟩
  · intro i c d e
    obtain ⟨h1, h2, h3, h4, h5⟩ := h.edge i c d e
    have g : ∀ x, x ∈ ([a] :: W).flatten → tok who x = et i → x ∈ W.flatten := fun x hx ht => by
      rcases (hm x).1 hx with rfl | hx
      · rw [t] at ht; exact absurd ht (vt_ne_et _ _)
      · exact hx
    exact ⟨h1, g c h2 h4, g d h3 h5, by rw [same c (g c h2 h4)]; exact h4, by rw [same d (g d h3 h5)]; exact h5⟩
  · intro c hc i hi
    rw [same c hc] at hi
    exact h.only c ((hm c).2 (.inr hc)) i hi

theorem FOk.walkOf (h : FOk M pv pe who free edges W) (ha : a ∈ W.flatten) : M.rowOf a ∈ W ∧ a ∈ M.rowOf a := by
  obtain ⟨zs, hz, hc⟩ := List.mem_flatten.1 ha
  rw [(h.row hz hc).1]
  exact ⟨hz, hc⟩

theorem ids_inj {edges : List Edg} (nd : (ids edges).Nodup) : ∀ {i p q p' q' : Int}, (i, p, q) ∈ edges → (i, p', q') ∈ edges → p = p' ∧ q = q' := by
  induction edges with
  | nil => intro i p q p' q' h; cases h
  | cons e es ih =>
    intro i p q p' q' h1 h2
    have nd' : (e.1 :: ids es).Nodup := nd
    obtain ⟨n1, n2⟩ := List.nodup_cons.1 nd'
    rcases List.mem_cons.1 h1 with h1 | h1 <;> rcases List.mem_cons.1 h2 with h2 | h2
    · rw [← h1] at h2; injection h2 with _ h2; injection h2 with h3 h4; exact ⟨h3.symm, h4.symm⟩
    · exact absurd (List.mem_map.2 ⟨_, h2, by rw [← h1]⟩) n1
    · exact absurd (List.mem_map.2 ⟨_, h1, by rw [← h2]⟩) n1
    · exact ih n2 h1 h2

/-- An edge's ends stand in one walk. -/
theorem FOk.ends (h : FOk M pv pe who free edges W) {id p q : Int} (he : (id, p, q) ∈ edges) : ∃ zs ∈ W, ∃ c d, c ∈ zs ∧ d ∈ zs ∧ pv p = some c ∧ pv q = some d := by
  have h1 := (h.has id).1 (List.mem_map.2 ⟨_, he, rfl⟩)
  obtain ⟨⟨b, c⟩, hb⟩ := Option.ne_none_iff_exists'.1 h1
  obtain ⟨-, h2, -, h3, -⟩ := h.edge id b c hb
  obtain ⟨zs, hz, hbz⟩ := List.mem_flatten.1 h2
  obtain ⟨es, k1, k2⟩ := h.tour zs hz
  have h4 := (tour_et k1).1 (List.mem_map.2 ⟨b, hbz, h3⟩)
  obtain ⟨⟨i, p', q'⟩, h5, h6⟩ := List.mem_map.1 h4
  have h6 : i = id := h6
  subst h6
  obtain ⟨rfl, rfl⟩ := ids_inj h.nd he (k2 _ h5)
  obtain ⟨e1, e2⟩ := tour_ends k1 _ _ _ h5
  obtain ⟨x, hx1, hx2⟩ := List.mem_map.1 e1
  obtain ⟨y, hy1, hy2⟩ := List.mem_map.1 e2
  exact ⟨zs, hz, x, y, hx1, hy1, (h.vert _ _).2 ⟨List.mem_flatten.2 ⟨zs, hz, hx1⟩, hx2⟩, (h.vert _ _).2 ⟨List.mem_flatten.2 ⟨zs, hz, hy1⟩, hy2⟩⟩

/-- Who is joined stands in one walk. -/
theorem FOk.joined (h : FOk M pv pe who free edges W) {u v : Int} (hu : pv u = some a) (hv : pv v = some b) : M.rowOf a = M.rowOf b ↔ Conn edges u v := by
  obtain ⟨au, tu⟩ := (h.vert u a).1 hu
  obtain ⟨bu, tv⟩ := (h.vert v b).1 hv
  obtain ⟨w1, w2⟩ := h.walkOf au
  obtain ⟨w3, w4⟩ := h.walkOf bu
  constructor
  · intro e
    obtain ⟨es, k1, k2⟩ := h.tour _ w1
    exact (tour_conn k1 u v (List.mem_map.2 ⟨a, w2, tu⟩) (List.mem_map.2 ⟨b, by rw [e]; exact w4, tv⟩)).mono k2
  · intro hc
    have := conn_stays (S := fun x => ∃ c, pv x = some c ∧ c ∈ M.rowOf a) (fun id p q he => by
      obtain ⟨zs, hz, c, d, hc, hd, pc, pd⟩ := h.ends he
      have key : ∀ x y, x ∈ zs → y ∈ zs → x ∈ M.rowOf a → y ∈ M.rowOf a := fun x y hx hy hxa => by
        rw [← (h.row w1 hxa).1, (h.row hz hx).1]; exact hy
      constructor
      · rintro ⟨c', e1, e2⟩
        rw [pc] at e1; injection e1 with e1; subst e1
        exact ⟨d, pd, key _ _ hc hd e2⟩
      · rintro ⟨c', e1, e2⟩
        rw [pd] at e1; injection e1 with e1; subst e1
        exact ⟨c, pc, key _ _ hd hc e2⟩) hc ⟨a, hu, w2⟩
    obtain ⟨c, e1, e2⟩ := this
    rw [hv] at e1; injection e1 with e1; subst e1
    exact ((h.row w1 e2).1).symm

end

end Go.Proofs.Ytlakcldgolpaiaa
