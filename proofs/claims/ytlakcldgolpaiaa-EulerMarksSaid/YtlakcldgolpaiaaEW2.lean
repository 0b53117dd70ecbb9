/-
  What a closed walk is cut into. No walk of code.
-/
import Derived.Test.YtlakcldgolpaiaaEW1
namespace Go.Proofs.Ytlakcldgolpaiaa
set_option linter.unusedVariables false

theorem rot_inside {A K : List Tok} {t : Tok} {z : List Tok} (h : Rot (A ++ K) (t :: z)) (ht : t ∉ K) (hK : K ≠ []) : ∃ P Q, z = P ++ (K ++ Q) ∧ A = Q ++ t :: P := by
  have key : ∃ P Q, t :: z = P ++ (K ++ Q) ∧ A = Q ++ P := by
    obtain ⟨c, d, h1, h2⟩ := h
    rcases List.append_eq_append_iff.1 h1 with ⟨l, rfl, rfl⟩ | ⟨l, rfl, rfl⟩
    · cases d with
      | nil => exact ⟨A, [], by simpa using h2, by simp⟩
      | cons s d =>
        simp at h2
        exact absurd (by rw [h2.1]; simp) ht
    · exact ⟨l, c, by simpa using h2, rfl⟩
  obtain ⟨P, Q, h1, h2⟩ := key
  cases P with
  | nil =>
    cases K with
    | nil => exact absurd rfl hK
    | cons k K =>
      simp at h1
      exact absurd (by rw [h1.1]; simp) ht
  | cons s P =>
    simp at h1
    obtain ⟨rfl, h1⟩ := h1
    exact ⟨P, Q, by simpa using h1, h2⟩

theorem mid_of {x y P K Q : List Tok} {t : Tok} (h : x ++ t :: y = P ++ (K ++ Q)) (ht : t ∉ K) (hK : K ≠ []) : (∃ P2, P = x ++ t :: P2 ∧ y = P2 ++ (K ++ Q)) ∨ ∃ Q2, x = P ++ (K ++ Q2) ∧ Q = Q2 ++ t :: y := by
  rcases List.append_eq_append_iff.1 h with ⟨l, h1, h2⟩ | ⟨l, h1, h2⟩
  · cases l with
    | nil =>
      cases K with
      | nil => exact absurd rfl hK
      | cons k K =>
        simp at h2
        exact absurd (by rw [h2.1]; simp) ht
    | cons s l =>
      simp at h2
      obtain ⟨rfl, h2⟩ := h2
      exact .inl ⟨l, h1, by simpa using h2⟩
  · rcases List.append_eq_append_iff.1 h2 with ⟨l2, h3, h4⟩ | ⟨l2, h3, h4⟩
    · exact .inr ⟨l2, by rw [h1, h3], h4⟩
    · cases l2 with
      | nil =>
        simp at h3 h4
        exact .inr ⟨[], by rw [h1, ← h3]; simp, by simp [h4]⟩
      | cons s l2 =>
        simp at h4
        exact absurd (by rw [h3, h4.1]; simp) ht

/-- What an edge's going leaves. -/
structure CutOut (es : List Edg) (id : Int) (x y : List Tok) (es1 es2 : List Edg) (p q : Int) : Prop where
  fst : Tour x es1
  snd : Tour y es2
  perm : es.Perm ((id, p, q) :: (es1 ++ es2))
  ends : vt p ∈ x ∧ vt q ∈ y ∨ vt q ∈ x ∧ vt p ∈ y

def Cuts (w : List Tok) (es : List Edg) : Prop := (ids es).Nodup → ∀ (id : Int) (x y : List Tok), Rot w (et id :: (x ++ et id :: y)) → ∃ es1 es2 p q, CutOut es id x y es1 es2 p q

theorem head_vt {u i : Int} {a Q P : List Tok} (h : vt u :: a = Q ++ et i :: P) : ∃ Q1, Q = vt u :: Q1 := by
  cases Q with
  | nil => simp [vt, et] at h
  | cons s Q => simp at h; exact ⟨Q, by rw [h.1]⟩

theorem last_vt {u i : Int} {a Q P : List Tok} (h : a ++ [vt u] = Q ++ et i :: P) : ∃ P1, P = P1 ++ [vt u] := by
  rcases List.eq_nil_or_concat P with rfl | ⟨P1, x, rfl⟩
  · have := (List.append_inj' h rfl).2
    simp [vt, et] at this
  · refine ⟨P1, ?_⟩
    have h2 : a ++ [vt u] = (Q ++ et i :: P1) ++ [x] := by rw [h]; simp
    have := (List.append_inj' h2 rfl).2
    injection this with e
    rw [e]; simp

/-- A walk's end stays one where a piece between two places goes. -/
theorem end_cut {u i k : Int} {A Q X P : List Tok} (h : A = Q ++ et i :: (X ++ et k :: P)) (hu : End u A) : End u (Q ++ P) := by
  rcases hu with ⟨a, rfl⟩ | ⟨a, rfl⟩
  · obtain ⟨Q1, rfl⟩ := head_vt h
    exact .inl ⟨Q1 ++ P, by simp⟩
  · obtain ⟨P1, rfl⟩ := last_vt (show a ++ [vt u] = (Q ++ et i :: X) ++ et k :: P by rw [h]; simp)
    exact .inr ⟨Q ++ P1, by simp⟩

theorem cut_in {A B : List Tok} {es fs : List Edg} {j u v p q : Int} (hu : End u A) (hv : End v B) (ih : Cuts A es) (hB : Tour B fs) (hpq : p = u ∧ q = v ∨ p = v ∧ q = u) (nd : (ids es).Nodup) {id : Int} {x y : List Tok}
    (hr : Rot (A ++ (et j :: (B ++ [et j]))) (et id :: (x ++ et id :: y))) (hK : et id ∉ et j :: (B ++ [et j])) : ∃ es1 es2 p' q', CutOut ((j, p, q) :: (es ++ fs)) id x y es1 es2 p' q' := by
  obtain ⟨K, hKe⟩ : ∃ K, K = et j :: (B ++ [et j]) := ⟨_, rfl⟩
  rw [← hKe] at hr hK
  have hne : K ≠ [] := by rw [hKe]; simp
  obtain ⟨P, Q, h1, h2⟩ := rot_inside hr hK hne
  rcases mid_of h1 hK hne with ⟨P2, rfl, rfl⟩ | ⟨Q2, rfl, rfl⟩
  · obtain ⟨es1, es2, p', q', hc⟩ := ih nd id x (P2 ++ Q) ⟨Q, et id :: (x ++ et id :: P2), h2, by simp⟩
    have hy := tour_insert (id := j) hc.snd (end_cut h2 hu) hB hv hpq
    rw [← hKe] at hy
    refine ⟨es1, (j, p, q) :: (es2 ++ fs), p', q', hc.fst, hy, ?_, ?_⟩
    · refine (List.Perm.cons _ (hc.perm.append_right fs)).trans ?_
      refine (List.Perm.swap _ _ _).trans (List.Perm.cons _ ?_)
      refine List.Perm.trans ?_ List.perm_middle.symm
      simp
    · rcases hc.ends with ⟨e1, e2⟩ | ⟨e1, e2⟩
      · exact .inl ⟨e1, by simp at e2 ⊢; rcases e2 with h | h <;> simp [h]⟩
      · exact .inr ⟨e1, by simp at e2 ⊢; rcases e2 with h | h <;> simp [h]⟩
  · have h3 : A = Q2 ++ et id :: (y ++ et id :: P) := by rw [h2]; simp
    obtain ⟨es1, es2, p', q', hc⟩ := ih nd id (P ++ Q2) y ⟨Q2 ++ et id :: y, et id :: P, by rw [h3]; simp, by simp⟩
    have hx := tour_insert (id := j) hc.fst (end_cut h3 hu) hB hv hpq
    rw [← hKe] at hx
    refine ⟨(j, p, q) :: (es1 ++ fs), es2, p', q', hx, hc.snd, ?_, ?_⟩
    · refine (List.Perm.cons _ (hc.perm.append_right fs)).trans ?_
      refine (List.Perm.swap _ _ _).trans (List.Perm.cons _ (List.Perm.cons _ ?_))
      show ((es1 ++ es2) ++ fs).Perm ((es1 ++ fs) ++ es2)
      rw [List.append_assoc, List.append_assoc]
      exact List.Perm.append_left _ List.perm_append_comm
    · rcases hc.ends with ⟨e1, e2⟩ | ⟨e1, e2⟩
      · exact .inl ⟨by simp at e1 ⊢; rcases e1 with h | h <;> simp [h], e2⟩
      · exact .inr ⟨by simp at e1 ⊢; rcases e1 with h | h <;> simp [h], e2⟩

theorem et_ne {i j : Int} (h : i ≠ j) : et i ≠ et j := fun e => h (by injection e)

theorem tour_cuts {w : List Tok} {es : List Edg} (h : Tour w es) : Cuts w es := by
  induction h with
  | vert u =>
    intro nd id x y hr
    have := (hr.mem (t := et id)).1 (by simp)
    simp [et, vt] at this
  | @turn a b es h ih =>
    intro nd id x y hr
    exact ih nd id x y (Rot.trans ⟨a, b, rfl, rfl⟩ hr)
  | perm hp ht ih =>
    intro nd id x y hr
    obtain ⟨es1, es2, p, q, hc⟩ := ih ((ids_perm hp).nodup_iff.2 nd) id x y hr
    exact ⟨es1, es2, p, q, hc.fst, hc.snd, hp.symm.trans hc.perm, hc.ends⟩
  | @link A B es fs j u v p q h1 h2 hu hv hpq ih1 ih2 =>
    intro nd id x y hr
    have e : ids ((j, p, q) :: (es ++ fs)) = j :: (ids es ++ ids fs) := by rw [← ids_app]; rfl
    rw [e] at nd
    obtain ⟨nj, nef⟩ := List.nodup_cons.1 nd
    obtain ⟨ne, nf, nx⟩ := List.nodup_append.1 nef
    have ja : et j ∉ A := fun hm => nj (List.mem_append_left _ ((tour_et h1).1 hm))
    have jb : et j ∉ B := fun hm => nj (List.mem_append_right _ ((tour_et h2).1 hm))
    by_cases hij : id = j
    · subst hij
      have hcnt := hr.count (et id)
      have hw : (A ++ (et id :: (B ++ [et id]))).count (et id) = 2 := by
        rw [List.count_append, List.count_eq_zero.2 ja, count_et_et, List.count_append, List.count_eq_zero.2 jb, count_et_et]
        simp
      rw [hw, count_et_et, List.count_append, count_et_et] at hcnt
      simp at hcnt
      have hx0 : et id ∉ x := List.count_eq_zero.1 (by omega)
      have hfin : (x = B ∧ y = A) ∨ (x = A ∧ y = B) := by
        obtain ⟨c, d, h3, h4⟩ := hr
        cases d with
        | nil =>
          simp at h3 h4
          rw [← h4] at h3
          have hA := tour_ne h1
          cases A with
          | nil => exact absurd rfl hA
          | cons s A =>
            simp at h3
            exact absurd (by rw [h3.1]; simp) ja
        | cons s d =>
          simp at h4
          obtain ⟨rfl, h4⟩ := h4
          by_cases hc : et id ∈ c
          · have hd : et id ∉ d := by
              have h5 := congrArg (List.count (et id)) h4
              rw [List.count_append, count_et_et, List.count_append] at h5
              have h6 := List.count_pos_iff.2 hc
              simp at h5
              have hy0 : y.count (et id) = 0 := by omega
              have hx1 : x.count (et id) = 0 := by omega
              exact List.count_eq_zero.1 (by omega)
            obtain ⟨e1, e2⟩ := split_last (t := et id) (a := c) (b := d) (c := A ++ et id :: B) (d := []) (by rw [← h3]; simp) hd (by simp)
            subst e2
            rw [e1] at h4
            obtain ⟨e3, e4⟩ := split_first (by simpa using h4) hx0 ja
            exact .inr ⟨e3, e4⟩
          · obtain ⟨e1, e2⟩ := split_first (t := et id) (a := c) (b := d) (c := A) (d := B ++ [et id]) (by rw [← h3]) hc ja
            subst e1 e2
            obtain ⟨e3, e4⟩ := split_first (t := et id) (a := x) (b := y) (c := B) (d := c) (by rw [h4]; simp) hx0 jb
            exact .inl ⟨e3, e4⟩
      rcases hfin with ⟨rfl, rfl⟩ | ⟨rfl, rfl⟩
      · refine ⟨fs, es, p, q, h2, h1, List.Perm.cons _ List.perm_append_comm, ?_⟩
        rcases hpq with ⟨rfl, rfl⟩ | ⟨rfl, rfl⟩
        · exact .inr ⟨hv.mem, hu.mem⟩
        · exact .inl ⟨hv.mem, hu.mem⟩
      · refine ⟨es, fs, p, q, h1, h2, List.Perm.refl _, ?_⟩
        rcases hpq with ⟨rfl, rfl⟩ | ⟨rfl, rfl⟩
        · exact .inl ⟨hu.mem, hv.mem⟩
        · exact .inr ⟨hu.mem, hv.mem⟩
    · have hm := (hr.mem (t := et id)).1 (by simp)
      by_cases hA : et id ∈ A
      · have hB : et id ∉ B := fun hb => nx _ ((tour_et h1).1 hA) _ ((tour_et h2).1 hb) rfl
        refine cut_in hu hv ih1 h2 hpq ne hr ?_
        intro hk
        rcases List.mem_cons.1 hk with hk | hk
        · exact et_ne hij hk
        · rcases List.mem_append.1 hk with hk | hk
          · exact hB hk
          · exact et_ne hij (List.mem_singleton.1 hk)
      · have hr2 : Rot (B ++ (et j :: (A ++ [et j]))) (et id :: (x ++ et id :: y)) := Rot.trans ⟨B ++ [et j], A ++ [et j], by simp, by simp⟩ hr
        obtain ⟨es1, es2, p', q', hc⟩ := cut_in hv hu ih2 h1 hpq.symm nf hr2 (by
          intro hk
          rcases List.mem_cons.1 hk with hk | hk
          · exact et_ne hij hk
          · rcases List.mem_append.1 hk with hk | hk
            · exact hA hk
            · exact et_ne hij (List.mem_singleton.1 hk))
        exact ⟨es1, es2, p', q', hc.fst, hc.snd, (List.Perm.cons _ List.perm_append_comm).trans hc.perm, hc.ends⟩

end Go.Proofs.Ytlakcldgolpaiaa
