/-
  A forest with an edge more: who is joined, and which edges are between two vertices.
-/
import Derived.Test.YtlhkajlkapoabaaZLM6
namespace Go.Proofs.Ytlhkajlkapoabaa
open Go.RowKit Go.Maps
set_option linter.unusedVariables false

/-- With an edge more. -/
def LF.more (F : LF) (e : Eg) : LF := ⟨F.vs, F.es ++ [e]⟩

/-- An edge that may come. -/
structure Fresh (F : LF) (e : Eg) : Prop where
  id : e.id ∉ F.es.map Eg.id
  u : e.u ∈ F.vs
  v : e.v ∈ F.vs
  no : ¬ F.Join e.u e.v

section

variable {F G : LF} {e x : Eg} {u v : Int}

theorem more_less (h : e.id ∉ F.es.map Eg.id) : (F.more e).less e.id = F := by
  obtain ⟨V, E⟩ := F
  show LF.mk V ((E ++ [e]).filter fun x => x.id != e.id) = ⟨V, E⟩
  have h1 : E.filter (fun x => x.id != e.id) = E := List.filter_eq_self.2 fun x hx => by
    have : x.id ≠ e.id := fun hh => h (List.mem_map.2 ⟨x, hx, hh⟩)
    simpa using this
  rw [List.filter_append, h1]
  simp

theorem more_other {i : Int} (h : e.id ≠ i) : (F.more e).less i = (F.less i).more e := by
  obtain ⟨V, E⟩ := F
  show LF.mk V ((E ++ [e]).filter fun x => x.id != i) = ⟨V, E.filter (fun x => x.id != i) ++ [e]⟩
  rw [List.filter_append]
  have : [e].filter (fun x => x.id != i) = [e] := List.filter_eq_self.2 fun x hx => by
    rw [List.mem_singleton.1 hx]; simpa using h
  rw [this]

theorem more_join (h : F.Join u v) : (F.more e).Join u v := h.mono fun x hx => List.mem_append_left _ hx

theorem more_edge : (F.more e).Join e.u e.v := LF.join_edge (List.mem_append_right _ (List.mem_singleton.2 rfl))

theorem more_split (h : e.id ∉ F.es.map Eg.id) (hj : (F.more e).Join u v) : F.Join u v ∨ (F.Join u e.u ∧ F.Join e.v v) ∨ (F.Join u e.v ∧ F.Join e.u v) := by
  have k := LF.join_split (e := e) (fun x hx hid => by
    rcases List.mem_append.1 hx with hx | hx
    · exact absurd (List.mem_map.2 ⟨x, hx, hid⟩) h
    · exact List.mem_singleton.1 hx) hj
  rw [more_less h] at k
  exact k

theorem less_fresh {i : Int} (h : e.id ∉ F.es.map Eg.id) : e.id ∉ (F.less i).es.map Eg.id := fun hm => by
  obtain ⟨x, hx, hid⟩ := List.mem_map.1 hm
  exact h (List.mem_map.2 ⟨x, (LF.mem_less.1 hx).1, hid⟩)

theorem Fresh.ne (h : Fresh F e) (hx : x ∈ F.es) : e.id ≠ x.id := fun hh => h.id (List.mem_map.2 ⟨x, hx, hh.symm⟩)

/-- Nothing new between those that were joined. -/
theorem Fresh.old (h : Fresh F e) (hj : F.Join u v) (hx : x ∈ F.es) : ((F.more e).less x.id).Join u v ↔ (F.less x.id).Join u v := by
  rw [more_other (h.ne hx)]
  constructor
  · intro hh
    rcases more_split (less_fresh h.id) hh with k | ⟨k1, k2⟩ | ⟨k1, k2⟩
    · exact k
    · exact absurd ((LF.less_join k1).symm.trans (hj.trans (LF.less_join k2).symm)) h.no
    · exact absurd (((LF.less_join k2).trans hj.symm).trans (LF.less_join k1)) h.no
  · exact more_join

open Classical in
theorem path_eq (hj : F.Jn u v) : F.path u v = F.es.filter fun e => decide (¬ (F.less e.id).Join u v) := by
  unfold LF.path
  rw [if_pos (show u ∈ F.vs ∧ v ∈ F.vs ∧ F.Join u v from hj)]

theorem more_jn (hj : F.Jn u v) : (F.more e).Jn u v := ⟨hj.1, hj.2.1, more_join hj.2.2⟩

open Classical in
theorem Fresh.path_old (h : Fresh F e) (hj : F.Jn u v) : (F.more e).path u v = F.path u v := by
  rw [path_eq hj, path_eq (more_jn hj)]
  show (F.es ++ [e]).filter _ = _
  rw [List.filter_append]
  have h1 : [e].filter (fun x => decide (¬ ((F.more e).less x.id).Join u v)) = [] := List.filter_eq_nil_iff.2 fun x hx => by
    rw [List.mem_singleton.1 hx, more_less h.id]
    simpa using hj.2.2
  rw [h1, List.append_nil]
  exact List.filter_congr fun x hx => by rw [decide_eq_decide]; exact not_congr (h.old hj.2.2 hx)

theorem Fresh.along_old (h : Fresh F e) (hj : F.Jn u v) : (F.more e).alongX u v = F.alongX u v ∧ (F.more e).alongV u v = F.alongV u v := by
  refine ⟨?_, ?_⟩
  · rw [LF.alongX_iff.2 hj, LF.alongX_iff.2 (more_jn hj)]
  · unfold LF.alongV
    rw [h.path_old hj]

theorem filter_plus {α : Type} (f : α → Nat) (p q r : α → Bool) : ∀ (L : List α), (∀ e ∈ L, r e = (p e || q e) ∧ ¬ (p e = true ∧ q e = true)) → ((L.filter r).map f).sum = ((L.filter p).map f).sum + ((L.filter q).map f).sum
  | [], _ => rfl
  | e :: L, h => by
    have h1 := filter_plus f p q r L fun x hx => h x (List.mem_cons_of_mem _ hx)
    obtain ⟨h2, h3⟩ := h e (List.mem_cons_self ..)
    cases hp : p e <;> cases hq : q e <;> rw [hp, hq] at h2 h3 <;> simp only [List.filter_cons, hp, hq, h2] <;> simp at h3 ⊢ <;> omega

theorem one_sum : ∀ L : List Eg, (L.map fun _ => 1).sum = L.length := fun L => by
  induction L with
  | nil => rfl
  | cons x L ih => simp only [List.map_cons, List.sum_cons, List.length_cons, ih]; omega

/-- Between those that the edge joins lies what lay on either side, and the edge. -/
theorem Fresh.path_new (h : Fresh F e) (hF : F.Ok) (hG : (F.more e).Ok) (h1 : F.Jn u e.u) (h2 : F.Jn e.v v) : (F.more e).Jn u v ∧ sumE ((F.more e).path u v) = sumE (F.path u e.u) + sumE (F.path e.v v) + e.w ∧ cntE ((F.more e).path u v) = cntE (F.path u e.u) + cntE (F.path e.v v) + 1 := by
  classical
  have hj : (F.more e).Jn u v := ⟨h1.1, h2.2.1, (more_join h1.2.2).trans (more_edge.trans (more_join h2.2.2))⟩
  have hno : ¬ F.Join u v := fun hh => h.no (h1.2.2.symm.trans (hh.trans h2.2.2.symm))
  have hno2 : ¬ F.Join u e.v := fun hh => h.no (h1.2.2.symm.trans hh)
  have hme : e ∈ (F.more e).es := List.mem_append_right _ (List.mem_singleton.2 rfl)
  refine ⟨hj, ?_⟩
  obtain ⟨a1, b1⟩ := cnt_len (hG.path_nz (u := u) (v := v))
  obtain ⟨a2, b2⟩ := cnt_len (hF.path_nz (u := u) (v := e.u))
  obtain ⟨a3, b3⟩ := cnt_len (hF.path_nz (u := e.v) (v := v))
  have hr : ∀ x ∈ F.es, decide (¬ ((F.more e).less x.id).Join u v) = (decide (¬ (F.less x.id).Join u e.u) || decide (¬ (F.less x.id).Join e.v v)) ∧ ¬ (decide (¬ (F.less x.id).Join u e.u) = true ∧ decide (¬ (F.less x.id).Join e.v v) = true) := fun x hx => by
    have hiff : ((F.more e).less x.id).Join u v ↔ (F.less x.id).Join u e.u ∧ (F.less x.id).Join e.v v := by
      rw [more_other (h.ne hx)]
      constructor
      · intro hh
        rcases more_split (less_fresh h.id) hh with k | k | ⟨k1, k2⟩
        · exact absurd (LF.less_join k) hno
        · exact k
        · exact absurd (LF.less_join k1) hno2
      · rintro ⟨k1, k2⟩
        exact (more_join k1).trans (more_edge.trans (more_join k2))
    refine ⟨?_, ?_⟩
    · by_cases n1 : (F.less x.id).Join u e.u <;> by_cases n2 : (F.less x.id).Join e.v v <;> simp [hiff, n1, n2]
    · rintro ⟨n1, n2⟩
      have n1 : ¬ (F.less x.id).Join u e.u := by simpa using n1
      have n2 : ¬ (F.less x.id).Join e.v v := by simpa using n2
      have k1 : F.Join u x.u := by
        rcases LF.join_split (hF.one hx) h1.2.2 with k | ⟨k, -⟩ | ⟨k, -⟩
        · exact absurd k n1
        · exact LF.less_join k
        · exact (LF.less_join k).trans (LF.join_edge hx).symm
      have k2 : F.Join e.v x.u := by
        rcases LF.join_split (hF.one hx) h2.2.2 with k | ⟨k, -⟩ | ⟨k, -⟩
        · exact absurd k n2
        · exact LF.less_join k
        · exact (LF.less_join k).trans (LF.join_edge hx).symm
      exact hno2 (k1.trans k2.symm)
  have hp : (F.more e).path u v = (F.es.filter fun x => decide (¬ ((F.more e).less x.id).Join u v)) ++ [e] := by
    rw [path_eq hj]
    show (F.es ++ [e]).filter _ = _
    rw [List.filter_append]
    have : [e].filter (fun x => decide (¬ ((F.more e).less x.id).Join u v)) = [e] := List.filter_eq_self.2 fun x hx => by
      rw [List.mem_singleton.1 hx, more_less h.id]
      simpa using hno
    rw [this]
  have s1 := filter_plus Eg.w _ _ _ F.es hr
  have s2 := filter_plus (fun _ : Eg => 1) _ _ _ F.es hr
  rw [one_sum, one_sum, one_sum] at s2
  rw [a1, a2, a3, b1, b2, b3, hp, path_eq h1, path_eq h2, List.map_append, List.sum_append, List.length_append, s1, s2]
  exact ⟨by simp, by simp⟩

end

end Go.Proofs.Ytlhkajlkapoabaa
