/-
  The same edges in another order; an edge with another weight.
-/
import Derived.Test.YtlhkajlkapoabaaZLM8
import Derived.Test.YtlhkajlkapoabaaFN
namespace Go.Proofs.Ytlhkajlkapoabaa
open Go.RowKit Go.Maps
set_option linter.unusedVariables false

section

variable {F G : LF} {e e' x : Eg} {u v : Int}

theorem same_join (h : ∀ e, e ∈ F.es ↔ e ∈ G.es) : F.Join u v ↔ G.Join u v := ⟨fun k => k.mono fun e he => (h e).1 he, fun k => k.mono fun e he => (h e).2 he⟩

theorem same_less {i : Int} (h : ∀ e, e ∈ F.es ↔ e ∈ G.es) : ∀ e, e ∈ (F.less i).es ↔ e ∈ (G.less i).es := fun e => by
  rw [LF.mem_less, LF.mem_less, h e]

theorem LF.Ok.uniq (h : F.Ok) (u v : Int) : ∀ x ∈ Eg.zero :: F.path u v, ∀ y ∈ Eg.zero :: F.path u v, x.id = y.id → x = y := by
  have hid : ∀ z ∈ F.path u v, z ∈ F.es ∧ z.id ≠ 0 := fun z hz => ⟨(F.path_sub u v).mem hz, by have := (h.eids z ((F.path_sub u v).mem hz)).1; omega⟩
  intro x hx y hy hxy
  rcases List.mem_cons.1 hx with rfl | hx <;> rcases List.mem_cons.1 hy with rfl | hy
  · rfl
  · exact absurd hxy.symm (hid y hy).2
  · exact absurd hxy (hid x hx).2
  · exact h.one (hid y hy).1 x (hid x hx).1 hxy

theorem best_perm {L L' : List Eg} (hp : L.Perm L') (hu : ∀ x ∈ Eg.zero :: L, ∀ y ∈ Eg.zero :: L, x.id = y.id → x = y) : best L = best L' :=
  max_one (best_max L) ((best_max L').perm (hp.symm.cons _)) hu

theorem path_same (hF : F.Ok) (hG : G.Ok) (hv : ∀ x, x ∈ F.vs ↔ x ∈ G.vs) (he : ∀ e, e ∈ F.es ↔ e ∈ G.es) : (F.path u v).Perm (G.path u v) :=
  (List.perm_ext_iff_of_nodup hF.path_nd hG.path_nd).2 fun x => by
    rw [LF.mem_path, LF.mem_path, he x]
    unfold LF.Jn
    rw [hv, hv, same_join he, same_join (same_less he)]

theorem alongX_congr (hv : ∀ x, x ∈ F.vs ↔ x ∈ G.vs) (hj : F.Join u v ↔ G.Join u v) : F.alongX u v = G.alongX u v := by
  unfold LF.alongX
  by_cases h : u ∈ F.vs ∧ v ∈ F.vs
  · rw [if_pos h, if_pos (show u ∈ G.vs ∧ v ∈ G.vs from ⟨(hv u).1 h.1, (hv v).1 h.2⟩)]
    by_cases k : F.Join u v
    · rw [if_pos k, if_pos (hj.1 k)]
    · rw [if_neg k, if_neg (fun hh => k (hj.2 hh))]
  · rw [if_neg h, if_neg (fun hh : u ∈ G.vs ∧ v ∈ G.vs => h ⟨(hv u).2 hh.1, (hv v).2 hh.2⟩)]

theorem along_same (hF : F.Ok) (hG : G.Ok) (hv : ∀ x, x ∈ F.vs ↔ x ∈ G.vs) (he : ∀ e, e ∈ F.es ↔ e ∈ G.es) : F.alongX u v = G.alongX u v ∧ F.alongV u v = G.alongV u v := by
  have hp := path_same (u := u) (v := v) hF hG hv he
  refine ⟨?_, ?_⟩
  · exact alongX_congr hv (same_join he)
  · unfold LF.alongV
    rw [best_perm hp (hF.uniq u v), sumE_perm hp, cntE_perm hp]

theorem ok_same (hF : F.Ok) (hnd : (G.es.map Eg.id).Nodup) (hv : G.vs = F.vs) (he : ∀ e, e ∈ F.es ↔ e ∈ G.es) : G.Ok := by
  have hp : F.es.Perm G.es := (List.perm_ext_iff_of_nodup hF.esnd ((List.pairwise_map.1 hnd).imp fun hne e => hne (by rw [e]))).2 he
  refine ⟨hv ▸ hF.vnd, hnd, fun x hx => ?_, fun x hx hj => hF.tree x ((he x).2 hx) ((same_join (same_less he)).2 hj), hv ▸ hF.few, ?_, fun x hx => hF.ids x (hv ▸ hx), fun x hx => hF.eids x ((he x).2 hx)⟩
  · rw [hv]; exact hF.ends x ((he x).2 hx)
  · rw [← hp.length_eq]; exact hF.fewE

theorem less_mem {i : Int} : e ∈ ((F.less i)).es → e.id ≠ i := fun h => (LF.mem_less.1 h).2

/-- An edge taken away and laid again stands last. -/
theorem again_mem (hF : F.Ok) (he : e ∈ F.es) : ∀ x, x ∈ F.es ↔ x ∈ ((F.less e.id).more e).es := fun x => by
  show x ∈ F.es ↔ x ∈ (F.less e.id).es ++ [e]
  rw [List.mem_append, LF.mem_less, List.mem_singleton]
  constructor
  · intro hx
    by_cases hid : x.id = e.id
    · exact .inr (hF.one he x hx hid)
    · exact .inl ⟨hx, hid⟩
  · rintro (h | rfl)
    · exact h.1
    · exact he

theorem less_nd (hF : F.Ok) (i : Int) : ((F.less i).es.map Eg.id).Nodup := hF.idnd.sublist (List.filter_sublist.map _)

theorem again_ok (hF : F.Ok) (he : e ∈ F.es) : ((F.less e.id).more e).Ok := by
  refine ok_same hF ?_ rfl (again_mem hF he)
  show (((F.less e.id).es ++ [e]).map Eg.id).Nodup
  rw [List.map_append]
  refine List.nodup_append.2 ⟨less_nd hF _, by simp, fun a ha b hb e1 => ?_⟩
  obtain ⟨y, hy, rfl⟩ := List.mem_map.1 ha
  have hb : b = e.id := by simpa using hb
  exact less_mem hy (e1.trans hb)

theorem less_new (i : Int) : i ∉ (F.less i).es.map Eg.id := fun hm => by
  obtain ⟨y, hy, h⟩ := List.mem_map.1 hm
  exact less_mem hy h

theorem nx_join (h : ∀ x y, F.nx x y → G.nx x y) (hj : F.Join u v) : G.Join u v := by
  induction hj with
  | refl => exact .refl
  | step _ e ih => exact .step ih (h _ _ e)

theorem more_nx (hu : e.u = e'.u) (hv : e.v = e'.v) {x y : Int} (h : (F.more e).nx x y) : (F.more e').nx x y := by
  obtain ⟨a, ha, hxy⟩ := h
  rcases List.mem_append.1 ha with ha | ha
  · exact ⟨a, List.mem_append_left _ ha, hxy⟩
  · rw [List.mem_singleton.1 ha] at hxy
    exact ⟨e', List.mem_append_right _ (List.mem_singleton.2 rfl), by rw [← hu, ← hv]; exact hxy⟩

theorem more_both (hu : e.u = e'.u) (hv : e.v = e'.v) : (F.more e).Join u v ↔ (F.more e').Join u v :=
  ⟨nx_join fun _ _ => more_nx hu hv, nx_join fun _ _ => more_nx hu.symm hv.symm⟩

/-- The two ways of two weights: but for the edge the same. -/
theorem Fresh.weigh (h : Fresh F e) (h' : Fresh F e') (hi : e'.id = e.id) (hu : e.u = e'.u) (hv : e.v = e'.v) (hj : (F.more e).Jn u v) (hno : ¬ F.Join u v) : ∃ L, (F.more e).path u v = L ++ [e] ∧ (F.more e').path u v = L ++ [e'] := by
  classical
  have hj' : (F.more e').Jn u v := ⟨hj.1, hj.2.1, (more_both hu hv).1 hj.2.2⟩
  refine ⟨F.es.filter fun x => decide (¬ ((F.more e).less x.id).Join u v), ?_, ?_⟩
  · rw [path_eq hj]
    show (F.es ++ [e]).filter _ = _
    rw [List.filter_append]
    have : [e].filter (fun x => decide (¬ ((F.more e).less x.id).Join u v)) = [e] := List.filter_eq_self.2 fun x hx => by
      rw [List.mem_singleton.1 hx, more_less h.id]
      simpa using hno
    rw [this]
  · rw [path_eq hj']
    show (F.es ++ [e']).filter _ = _
    rw [List.filter_append]
    have : [e'].filter (fun x => decide (¬ ((F.more e').less x.id).Join u v)) = [e'] := List.filter_eq_self.2 fun x hx => by
      rw [List.mem_singleton.1 hx, more_less h'.id]
      simpa using hno
    rw [this]
    congr 1
    refine List.filter_congr fun x hx => ?_
    rw [decide_eq_decide, more_other (h.ne hx), more_other (h'.ne hx)]
    exact not_congr (more_both hu hv).symm

theorem best_snoc {L : List Eg} (hu : ∀ x ∈ Eg.zero :: (L ++ [e]), ∀ y ∈ Eg.zero :: (L ++ [e]), x.id = y.id → x = y) : best (L ++ [e]) = e ∨ best (L ++ [e]) = best L := by
  have hm := best_max (L ++ [e])
  by_cases h : best (L ++ [e]) = e
  · exact .inl h
  · refine .inr (max_one (L := Eg.zero :: L) ⟨?_, fun x hx => ?_⟩ (best_max L) fun x hx y hy => hu x ?_ y ?_)
    · have := hm.1
      rw [← List.cons_append, List.mem_append, List.mem_singleton] at this
      exact this.resolve_right h
    · exact hm.2 x (by rw [← List.cons_append]; exact List.mem_append_left _ hx)
    · rw [← List.cons_append]; exact List.mem_append_left _ hx
    · rw [← List.cons_append]; exact List.mem_append_left _ hy

theorem fl_shift {s a b : Nat} (h1 : s + a < 2 ^ 53) (h2 : s + b < 2 ^ 53) : floatBits .add .f64 (fl (s + a)) (floatOfInt .f64 ((b : Int) - (a : Int))) = some (fl (s + b)) := by
  by_cases h : a ≤ b
  · have e1 : (b : Int) - (a : Int) = ((b - a : Nat) : Int) := by omega
    rw [e1]
    have := fl_add (a := s + a) (b := b - a) (by omega)
    rw [show s + a + (b - a) = s + b by omega] at this
    exact this
  · have e1 : (b : Int) - (a : Int) = -((a - b : Nat) : Int) := by omega
    rw [e1, fl_sub h1 (by omega) (by omega), show s + a - (a - b) = s + b by omega]

theorem run_addW {s a b k : Nat} (h1 : s + a < 2 ^ 53) (h2 : s + b < 2 ^ 53) (hk : k < 2 ^ 53) (w : World) : (binOp .add 46 (.complex .f64 (fl (s + a)) (fl k)) (.complex .f64 (floatOfInt .f64 ((b : Int) - (a : Int))) 0)).run Try.prog w = .ok (.complex .f64 (fl (s + b)) (fl k)) w :=
  run_complex_sum w .add (.inl rfl) _ _ _ _ _ _ _ _ (by
    have h3 := fl_add (a := k) (b := 0) (by omega)
    rw [fl_zero', Nat.add_zero] at h3
    unfold cSumBits
    rw [fl_shift h1 h2, h3]
    rfl)

/-- What the law of weights asks, in plain words. -/
theorem weights_plain (hF : F.Ok) (he : e ∈ F.es) {n : Nat} (hG : ((F.less e.id).more ⟨e.id, e.u, e.v, n⟩).Ok) (u v : Int) :
    Fresh (F.less e.id) ⟨e.id, e.u, e.v, n⟩ ∧ ((F.less e.id).more ⟨e.id, e.u, e.v, n⟩).alongX u v = F.alongX u v ∧
    ((F.alongX u v ≠ 0 ∨ (F.less e.id).alongX u v = 0) → ((F.less e.id).more ⟨e.id, e.u, e.v, n⟩).alongV u v = F.alongV u v) ∧
    (F.alongX u v = 0 → (F.less e.id).alongX u v ≠ 0 → ∃ s k, sumE (F.path u v) = s + e.w ∧ cntE (F.path u v) = k ∧ sumE (((F.less e.id).more ⟨e.id, e.u, e.v, n⟩).path u v) = s + n ∧ cntE (((F.less e.id).more ⟨e.id, e.u, e.v, n⟩).path u v) = k ∧
      ((best (((F.less e.id).more ⟨e.id, e.u, e.v, n⟩).path u v)).id = (best (F.path u v)).id ∨ (best (((F.less e.id).more ⟨e.id, e.u, e.v, n⟩).path u v)).id = e.id ∨ (best (F.path u v)).id = e.id)) := by
  obtain ⟨h1, h2, h3⟩ := hF.ends e he
  have hid := hF.eids e he
  have f1 : Fresh (F.less e.id) e := ⟨less_new _, h1, h2, hF.tree e he⟩
  have f2 : Fresh (F.less e.id) ⟨e.id, e.u, e.v, n⟩ := ⟨less_new _, h1, h2, hF.tree e he⟩
  have hA := again_ok hF he
  obtain ⟨s1, s2⟩ := along_same (u := u) (v := v) hF hA (fun _ => Iff.rfl) (again_mem hF he)
  have hJ : ((F.less e.id).more e).Jn u v ↔ ((F.less e.id).more ⟨e.id, e.u, e.v, n⟩).Jn u v := by
    unfold LF.Jn
    rw [more_both (F := F.less e.id) (e := e) (e' := ⟨e.id, e.u, e.v, n⟩) rfl rfl]
    exact Iff.rfl
  refine ⟨f2, ?_, fun hor => ?_, fun h0 hn => ?_⟩
  · rw [s1]
    exact alongX_congr (fun _ => Iff.rfl) (more_both (F := F.less e.id) (e := e) (e' := ⟨e.id, e.u, e.v, n⟩) rfl rfl).symm
  · rcases hor with h0 | h0
    · rw [s1] at h0
      have hno : ¬ ((F.less e.id).more e).Jn u v := fun hj => h0 (LF.alongX_iff.2 hj)
      rw [s2, LF.alongV_no hno, LF.alongV_no (fun hj => hno (hJ.2 hj))]
    · have hj := LF.alongX_iff.1 h0
      rw [s2, (f1.along_old hj).2, (f2.along_old hj).2]
  · rw [s1] at h0
    have hj := LF.alongX_iff.1 h0
    have hno : ¬ (F.less e.id).Join u v := fun hh => hn (LF.alongX_iff.2 ⟨hj.1, hj.2.1, hh⟩)
    obtain ⟨L, p1, p2⟩ := f1.weigh f2 rfl rfl rfl hj hno
    have hp := path_same (u := u) (v := v) hF hA (fun _ => Iff.rfl) (again_mem hF he)
    have b0 := best_perm hp (hF.uniq u v)
    have u1 := hA.uniq u v
    have u2 := hG.uniq u v
    rw [p1] at u1 hp b0
    rw [p2] at u2
    have nz1 : e ≠ Eg.zero := hF.nz he
    have nz2 : (⟨e.id, e.u, e.v, n⟩ : Eg) ≠ Eg.zero := fun hz => by
      have : e.id = 0 := congrArg Eg.id hz
      omega
    have st1 : sumE [e] = e.w ∧ cntE [e] = 1 := by
      obtain ⟨c1, c2⟩ := cnt_len (L := [e]) (fun x hx => by rw [List.mem_singleton.1 hx]; exact nz1)
      exact ⟨by rw [c2]; simp, c1⟩
    have st2 : sumE [(⟨e.id, e.u, e.v, n⟩ : Eg)] = n ∧ cntE [(⟨e.id, e.u, e.v, n⟩ : Eg)] = 1 := by
      obtain ⟨c1, c2⟩ := cnt_len (L := [(⟨e.id, e.u, e.v, n⟩ : Eg)]) (fun x hx => by rw [List.mem_singleton.1 hx]; exact nz2)
      exact ⟨by rw [c2]; simp, c1⟩
    refine ⟨sumE L, cntE L + 1, ?_, ?_, ?_, ?_, ?_⟩
    · rw [sumE_perm hp, sumE_append, st1.1]
    · rw [cntE_perm hp, cntE_append, st1.2]
    · rw [p2, sumE_append, st2.1]
    · rw [p2, cntE_append, st2.2]
    · rw [b0, p2]
      rcases best_snoc u1 with k | k
      · exact .inr (.inr (by rw [k]))
      · rcases best_snoc u2 with k' | k'
        · exact .inr (.inl (by rw [k']))
        · exact .inl (by rw [k, k'])

end

end Go.Proofs.Ytlhkajlkapoabaa
