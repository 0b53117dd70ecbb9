/-
  The same edges in another order; an edge with another weight.
-/
import Derived.Test.YtlhkajlkapoabaaZLM6
import Derived.Test.YtlhkajlkapoabaaFN
namespace Go.Proofs.Ytlhkajlkapoabaa
open Go.RowKit Go.Maps
set_option linter.unusedVariables false

section

variable {F G : LF} {e e' x : Eg} {u v : Int}

theorem same_join (h : ∀ e, e ∈ F.es ↔ e ∈ G.es) : F.Join u v ↔ G.Join u v := ⟨fun k => k.mono fun e he => (h e).1 he, fun k => k.mono fun e he => (h e).2 he⟩

theorem same_less {i : Int} (h : ∀ e, e ∈ F.es ↔ e ∈ G.es) : ∀ e, e ∈ (F.less i).es ↔ e ∈ (G.less i).es := fun e => by
  rw [LF.mem_less, LF.mem_less, h e]

theorem LF.Ok.uniq (h : F.Ok) (u v : Int) : ∀ x ∈ Eg.zero :: F.path u v, ∀ y ∈ Eg.zero :: F.path u v, x.id = y.id → x = y := by
  have hid : ∀ z ∈ F.path u v, z ∈ F.es ∧ z.id ≠ 0 := fun z hz => ⟨(F.path_sub u v).mem hz, by have := (h.eids z ((F.path_sub u v).mem hz)).1; omega⟩
  intro x hx y hy hxy
  rcases List.mem_cons.1 hx with rfl | hx <;> rcases List.mem_cons.1 hy with rfl | hy
  · rfl
  · exact absurd hxy.symm (hid y hy).2
  · exact absurd hxy (hid x hx).2
  · exact h.one (hid y hy).1 x (hid x hx).1 hxy

theorem best_perm {L L' : List Eg} (hp : L.Perm L') (hu : ∀ x ∈ Eg.zero :: L, ∀ y ∈ Eg.zero :: L, x.id = y.id → x = y) : best L = best L' :=
  max_one (best_max L) ((best_max L').perm (hp.symm.cons _)) hu

theorem path_same (hF : F.Ok) (hG : G.Ok) (hv : ∀ x, x ∈ F.vs ↔ x ∈ G.vs) (he : ∀ e, e ∈ F.es ↔ e ∈ G.es) : (F.path u v).Perm (G.path u v) :=
  (List.perm_ext_iff_of_nodup hF.path_nd hG.path_nd).2 fun x => by
    rw [LF.mem_path, LF.mem_path, he x]
    unfold LF.Jn
    rw [hv, hv, same_join he, same_join (same_less he)]

theorem alongX_congr (hv : ∀ x, x ∈ F.vs ↔ x ∈ G.vs) (hj : F.Join u v ↔ G.Join u v) : F.alongX u v = G.alongX u v := by
  unfold LF.alongX
  by_cases h : u ∈ F.vs ∧ v ∈ F.vs
  · rw [if_pos h, if_pos (show u ∈ G.vs ∧ v ∈ G.vs from ⟨(hv u).1 h.1, (hv v).1 h.2⟩)]
    by_cases k : F.Join u v
    · rw [if_pos k, if_pos (hj.1 k)]
    · rw [if_neg k, if_neg (fun hh => k (hj.2 hh))]
  · rw [if_neg h, if_neg (fun hh : u ∈ G.vs ∧ v ∈ G.vs => h ⟨(hv u).2 hh.1, (hv v).2 hh.2⟩)]

theorem along_same (hF : F.Ok) (hG : G.Ok) (hv : ∀ x, x ∈ F.vs ↔ x ∈ G.vs) (he : ∀ e, e ∈ F.es ↔ e ∈ G.es) : F.alongX u v = G.alongX u v ∧ F.alongV u v = G.alongV u v := by
  have hp := path_same (u := u) (v := v) hF hG hv he
  refine ⟨?_, ?_⟩
  · exact alongX_congr hv (same_join he)
  · unfold LF.alongV
    rw [best_perm hp (hF.uniq u v), sumE_perm hp, cntE_perm hp]

theorem ok_same (hF : F.Ok) (hnd : (G.es.map Eg.id).Nodup) (hv : G.vs = F.vs) (he : ∀ e, e ∈ F.es ↔ e ∈ G.es) : G.Ok := by
  have hp : F.es.Perm G.es := (List.perm_ext_iff_of_nodup hF.esnd ((List.pairwise_map.1 hnd).imp fun hne e => hne (by rw [e]))).2 he
  refine ⟨hv ▸ hF.vnd, hnd, fun x hx => ?_, fun x hx hj => hF.tree x ((he x).2 hx) ((same_join (same_less he)).2 hj), hv ▸ hF.few, ?_, fun x hx => hF.ids x (hv ▸ hx), fun x hx => hF.eids x ((he x).2 hx)⟩
  · rw [hv]; exact hF.ends x ((he x).2 hx)
  · rw [← hp.length_eq]; exact hF.fewE

theorem less_mem {i : Int} : e ∈ ((F.less i)).es → e.id ≠ i := fun h => (LF.mem_less.1 h).2

/-- An edge taken away and laid again stands last. -/
theorem again_mem (hF : F.Ok) (he : e ∈ F.es) : ∀ x, x ∈ F.es ↔ x ∈ ((F.less e.id).more e).es := fun x => by
  show x ∈ F.es ↔ x ∈ (F.less e.id).es ++ [e]
  rw [List.mem_append, LF.mem_less, List.mem_singleton]
  constructor
  · intro hx
    by_cases hid : x.id = e.id
    · exact .inr (hF.one he x hx hid)
    · exact .inl ⟨hx, hid⟩
  · rintro (h | rfl)
    · exact h.1
    · exact he

theorem less_nd (hF : F.Ok) (i : Int) : ((F.less i).es.map Eg.id).Nodup := hF.idnd.sublist (List.filter_sublist.map _)

theorem again_ok (hF : F.Ok) (he : e ∈ F.es) : ((F.less e.id).more e).Ok := by
  refine ok_same hF ?_ rfl (again_mem hF he)
  show (((F.less e.id).es ++ [e]).map Eg.id).Nodup
  rw [List.map_append]
  refine List.nodup_append.2 ⟨less_nd hF _, by simp, fun a ha b hb e1 => ?_⟩
  obtain ⟨y, hy, rfl⟩ := List.mem_map.1 ha
  have hb : b = e.id := by simpa using hb
  exact less_mem hy (e1.trans hb)

theorem less_new (i : Int) : i ∉ (F.less i).es.map Eg.id := fun hm => by
  obtain ⟨y, hy, h⟩ := List.mem_map.1 hm
  exact less_mem hy h

theorem nx_join (h : ∀ x y, F.nx x y → G.nx x y) (hj : F.Join u v) : G.Join u v := by
  induction hj with
  | refl => exact .refl
  | step _ e ih => exact .step ih (h _ _ e)

theorem more_nx (hu : e.u = e'.u) (hv : e.v = e'.v) {x y : Int} (h : (F.more e).nx x y) : (F.more e').nx x y := by
  obtain ⟨a, ha, hxy⟩ := h
  rcases List.mem_append.1 ha with ha | ha
  · exact ⟨a, List.mem_append_left _ ha, hxy⟩
  · rw [List.mem_singleton.1 ha] at hxy
    exact ⟨e', List.mem_append_right _ (List.mem_singleton.2 rfl), by rw [← hu, ← hv]; exact hxy⟩

theorem more_both (hu : e.u = e'.u) (hv : e.v = e'.v) : (F.more e).Join u v ↔ (F.more e').Join u v :=
  ⟨nx_join fun _ _ => more_nx hu hv, nx_join fun _ _ => more_nx hu.symm hv.symm⟩

/-- The two ways of two weights: but for the edge the same. -/
theorem Fresh.weigh (h : Fresh F e) (h' : Fresh F e') (hi : e'.id = e.id) (hu : e.u = e'.u) (hv : e.v = e'.v) (hj : (F.more e).Jn u v) (hno : ¬ F.Join u v) : ∃ L, (F.more e).path u v = L ++ [e] ∧ (F.more e').path u v = L ++ [e'] := by
  classical
  have hj' : (F.more e').Jn u v := ⟨hj.1, hj.2.1, (more_both hu hv).1 hj.2.2⟩
  refine ⟨F.es.filter fun x => decide (¬ ((F.more e).less x.id).Join u v), ?_, ?_⟩
  · rw [path_eq hj]
    show (F.es ++ [e]).filter _ = _
    rw [List.filter_append]
    have : [e].filter (fun x => decide (¬ ((F.more e).less x.id).Join u v)) = [e] := List.filter_eq_self.2 fun x hx => by
      rw [List.mem_singleton.1 hx, more_less h.id]
      simpa using hno
    rw [this]
  · rw [path_eq hj']
    show (F.es ++ [e']).filter _ = _
    rw [List.filter_append]
    have : [e'].filter (fun x => decide (¬ ((F.more e').less x.id).Join u v)) = [e'] := List.filter_eq_self.2 fun x hx => by
      rw [List.mem_singleton.1 hx, more_less h'.id]
      simpa using hno
    rw [this]
    congr 1
    refine List.filter_congr fun x hx => ?_
    rw [decide_eq_decide, more_other (h.ne hx), more_other (h'.ne hx)]
    exact not_congr (more_both hu hv).symm

theorem best_snoc {L : List Eg} (hu : ∀ x ∈ Eg.zero :: (L ++ [e]), ∀ y ∈ Eg.zero :: (L ++ [e]), x.id = y.id → x = y) : best (L ++ [e]) = e ∨ best (L ++ [e]) = best L := by
  have hm := best_max (L ++ [e])
  by_cases h : best (L ++ [e]) = e
  · exact .inl h
  · refine .inr (max_one (L := Eg.zero :: L) ⟨?_, fun x hx => ?_⟩ (best_max L) fun x hx y hy => hu x ?_ y ?_)
    · have := hm.1
      rw [← List.cons_append, List.mem_append, List.mem_singleton] at this
      exact this.resolve_right h
    · exact hm.2 x (by rw [← List.cons_append]; exact List.mem_append_left _ hx)
    · rw [← List.cons_append]; exact List.mem_append_left _ hx
    · rw [← List.cons_append]; exact List.mem_append_left _ hy

theorem fl_shift {s a b : Nat} (h1 : s + a < 2 ^ 53) (h2 : s + b < 2 ^ 53) : floatBits .add .f64 (fl (s + a)) (floatOfInt .f64 ((b : Int) - (a : Int))) = some (fl (s + b)) := by
  by_cases h : a ≤ b
  · have e1 : (b : Int) - (a : Int) = ((b - a : Nat) : Int) := by omega
    rw [e1]
    have := fl_add (a := s + a) (b := b - a) (by omega)
    rw [show s + a + (b - a) = s + b by omega] at this
    exact this
  · have e1 : (b : Int) - (a : Int) = -((a - b : Nat) : Int) := by omega
    rw [e1, fl_sub h1 (by omega) (by omega), show s + a - (a - b) = s + b by omega]

theorem run_addW {s a b k : Nat} (h1 : s + a < 2 ^ 53) (h2 : s + b < 2 ^ 53) (hk : k < 2 ^ 53) (w : World) : (binOp .add 46 (.complex .f64 (fl (s + a)) (fl k)) (.complex .f64 (floatOfInt .f64 ((b : Int) - (a : Int))) 0)).run Try.prog w = .ok (.complex .f64 (fl (s + b)) (fl k)) w :=
  run_complex_sum w .add (.inl rfl) _ _ _ _ _ _ _ _ (by
    have h3 := fl_add (a := k) (b := 0) (by omega)
    rw [fl_zero', Nat.add_zero] at h3
    unfold cSumBits
    rw [fl_shift h1 h2, h3]
    rfl)

/-- What the law of weights asks, in plain words. -/
theorem weights_plain (hF : F.Ok) (he : e ∈ F.es) {n : Nat} (hG : ((F.less e.id).more ⟨e.id, e.u, e.v, n⟩).Ok) (u v : Int) :
    Fresh (F.less e.id) ⟨e.id, e.u, e.v, n⟩ ∧ ((F.less e.id).more ⟨e.id, e.u, e.v, n⟩).alongX u v = F.alongX u v ∧
    ((F.alongX u v ≠ 0 ∨ (F.less e.id).alongX u v = 0) → ((F.less e.id).more ⟨e.id, e.u, e.v, n⟩).alongV u v = F.alongV u v) ∧
    (F.alongX u v = 0 → (F.less e.id).alongX u v ≠ 0 → ∃ s k, sumE (F.path u v) = s + e.w ∧ cntE (F.path u v) = k ∧ sumE (((F.less e.id).more ⟨e.id, e.u, e.v, n⟩).path u v) = s + n ∧ cntE (((F.less e.id).more ⟨e.id, e.u, e.v, n⟩).path u v) = k ∧
      ((best (((F.less e.id).more ⟨e.id, e.u, e.v, n⟩).path u v)).id = (best (F.path u v)).id ∨ (best (((F.less e.id).more ⟨e.id, e.u, e.v, n⟩).path u v)).id = e.id ∨ (best (F.path u v)).id = e.id)) := by
  obtain ⟨h1, h2, h3⟩ := hF.ends e he
  have hid := hF.eids e he
  have f1 : Fresh (F.less e.id) e := ⟨less_new _, h1, h2, hF.tree e he⟩
  have f2 : Fresh (F.less e.id) ⟨e.id, e.u, e.v, n⟩ := ⟨less_new _, h1, h2, hF.tree e he⟩
  have hA := again_ok hF he
  obtain ⟨s1, s2⟩ := along_same (u := u) (v := v) hF hA (fun _ => Iff.rfl) (again_mem hF he)
  have hJ : ((F.less e.id).more e).Jn u v ↔ ((F.less e.id).more ⟨e.id, e.u, e.v, n⟩).Jn u v := by
    unfold LF.Jn
    rw [more_both (F := F.less e.id) (e := e) (e' := ⟨e.id, e.u, e.v, n⟩) rfl rfl]
    exact Iff.rfl
  refine ⟨f2, ?_, fun hor => ?_, fun h0 hn => ?_⟩
  · rw [s1]
    exact alongX_congr (fun _ => Iff.rfl) (more_both (F := F.less e.id) (e := e) (e' := ⟨e.id, e.u, e.v, n⟩) rfl rfl).symm
  · rcases hor with h0 | h0
    · rw [s1] at h0
      have hno : ¬ ((F.less e.id).more e).Jn u v := fun hj => h0 (LF.alongX_iff.2 hj)
      rw [s2, LF.alongV_no hno, LF.alongV_no (fun hj => hno (hJ.2 hj))]
    · have hj := LF.alongX_iff.1 h0
      rw [s2, (f1.along_old hj).2, (f2.along_old hj).2]
  · rw [s1] at h0
    have hj := LF.alongX_iff.1 h0
    have hno : ¬ (F.less e.id).Join u v := fun hh => hn (LF.alongX_iff.2 ⟨hj.1, hj.2.1, hh⟩)
    obtain ⟨L, p1, p2⟩ := f1.weigh f2 rfl rfl rfl hj hno
    have hp := path_same (u := u) (v := v) hF hA (fun _ => Iff.rfl) (again_mem hF he)
    have b0 := best_perm hp (hF.uniq u v)
    have u1 := hA.uniq u v
    have u2 := hG.uniq u v
    rw [p1] at u1 hp b0
    rw [p2] at u2
    have nz1 : e ≠ Eg.zero := hF.nz he
    have nz2 : (⟨e.id, e.u, e.v, n⟩ : Eg) ≠ Eg.zero := fun hz => by
      have : e.id = 0 := congrArg Eg.id hz
      omega
    have st1 : sumE [e] = e.w ∧ cntE [e] = 1 := by
      obtain ⟨c1, c2⟩ := cnt_len (L := [e]) (fun x hx => by rw [List.mem_singleton.1 hx]; exact nz1)
      exact ⟨by rw [c2]; simp, c1⟩
    have st2 : sumE [(⟨e.id, e.u, e.v, n⟩ : Eg)] = n ∧ cntE [(⟨e.id, e.u, e.v, n⟩ : Eg)] = 1 := by
      obtain ⟨c1, c2⟩ := cnt_len (L := [(⟨e.id, e.u, e.v, n⟩ : Eg)]) (fun x hx => by rw [List.mem_singleton.1 hx]; exact nz2)
      exact ⟨by rw [c2]; simp, c1⟩
    refine ⟨sumE L, cntE L + 1, ?_, ?_, ?_, ?_, ?_⟩
    · rw [sumE_perm hp, sumE_append, st1.1]
    · rw [cntE_perm hp, cntE_append, st1.2]
    · rw [p2, sumE_append, st2.1]
    · rw [p2, cntE_append, st2.2]
    · rw [b0, p2]
      rcases best_snoc u1 with k | k
      · exact .inr (.inr (by rw [k]))
      · rcases best_snoc u2 with k' | k'
        · exact .inr (.inl (by rw [k']))
        · exact .inl (by rw [k, k'])

end

end Go.Proofs.Ytlhkajlkapoabaa

/-
  The walk of LinkcutWeights.
-/
namespace Go.Proofs.Ytlhkajlkapoabaa
open Go.RowKit Go.Maps
set_option linter.unusedVariables false

attribute [local go_sem] run_storeCz

theorem run_eqCC {a b : Nat} (ha : a < 2 ^ 53) (hb : b < 2 ^ 53) (w : World) : (binOp .eql 46 (.complex .f64 (fl a) (fl b)) (.complex .f64 (fl a) (fl b))).run Try.prog w = .ok (.bool true) w := by
  have c : ∀ {x : Nat}, x < 2 ^ 53 → (Op.Complex.cmp .eql .f64 (fl x) (fl x)).run Try.prog w = .ok true w := by
    intro x hx
    unfold Op.Complex.cmp
    simp [Op.floatCmp, show FloatKind.f64.format.order (fl x) (fl x) = some (compare x x) from fl_order hx hx]
    rfl
  simp [binOp, Op.complexOp, c ha, c hb]

theorem edge_id {F : LF} {id : Int} {e : Eg} (h : F.edge id = some e) : e.id = id := by
  have := List.find?_some h
  simpa using this

theorem cut_there {F : LF} (hF : F.Ok) {e : Eg} (he : e ∈ F.es) : F.cutE e.id = 0 ∧ F.cutA e.id = F.less e.id := by
  have hz : F.cutE e.id = 0 := by
    unfold LF.cutE
    rw [if_pos (show okId e.id from ⟨(hF.eids e he).1, (hF.eids e he).2.1⟩), if_pos (show e.id ∈ F.es.map Eg.id from List.mem_map.2 ⟨e, he, rfl⟩)]
  refine ⟨hz, ?_⟩
  unfold LF.cutA
  rw [if_pos hz]

theorem link_again {F : LF} (hF : F.Ok) {e : Eg} (he : e ∈ F.es) {n : Nat} (hn : n ≤ 1099511627776) : (F.less e.id).linkE e.id e.u e.v (n : Int) = 0 ∧ (F.less e.id).linkA e.id e.u e.v (n : Int) = (F.less e.id).more ⟨e.id, e.u, e.v, n⟩ := by
  obtain ⟨h1, h2, h3⟩ := hF.ends e he
  have hz : (F.less e.id).linkE e.id e.u e.v (n : Int) = 0 := linkE_zero ⟨(hF.eids e he).1, (hF.eids e he).2.1⟩ (hF.ids _ h1) (hF.ids _ h2) (by omega) (less_new _) h1 h2 (hF.tree e he)
  exact ⟨hz, (linkA_more hz).1⟩

set_option maxRecDepth 100000 in
set_option maxHeartbeats 8000000 in
theorem linkcutWeights_walk (w : World) (sv : Value) (os : List OpL) (id wt u v : Int) (hs : ScrL w sv os) (hi : I64 id) (hwt : I64 wt) (hu : I64 u) (hv : I64 v) :
    Calls Try.prog 7 #[sv, .int .i64 id, .int .i64 wt, .int .i64 u, .int .i64 v] w fun e w' => e = .returned (.bool true) ∧ Below w.heap.size w w' := by
  have hf := filled_any w sv os hs
  obtain ⟨A, c, rfl, -, -, -, -⟩ := hs.rk.open_
  obtain ⟨n, hn⟩ : ∃ n, n = os.length := ⟨_, rfl⟩
  rw [← hn] at hf ⊢
  have HFL := Lib.hid hf
  have HI := Lib.hid hi
  have HWT := Lib.hid hwt
  have HU := Lib.hid hu
  have HV := Lib.hid hv
  clear hs hn hf hi hwt hu hv
  go_enter Try.func7, Try.ntmps7
  go_wp2_with fail
  refine HFL.out.mono ?_
  rintro e w1 ⟨f, rfl, h1, b1⟩
  obtain ⟨F, hF⟩ : ∃ F, F = LF.none0.runsL os := ⟨_, rfl⟩
  rw [← hF] at h1
  have HOK := Lib.hid h1.ok
  have H1 := Lib.hid h1
  have T1 := Lib.hid b1
  clear h1 b1 hF
  go_wp2_with fail
  refine ((alive_any w1)).mono ?_
  rintro e w2 ⟨rfl, b2⟩
  have H2 := Lib.hid (H1.out.below b2)
  have T2 := Lib.hid (T1.out.trans (b2.mono T1.out.size))
  clear b2
  go_wp2_with fail
  cases he : F.edge id with
  | none =>
    refine (bEdge_none H2.out HI.out he).mono ?_
    rintro e w3 ⟨rfl, b3⟩
    have H3 := Lib.hid (H2.out.below b3)
    have T3 := Lib.hid (T2.out.trans (b3.mono T2.out.size))
    clear b3
    have HB : Hid (Below w.heap.size w (w3.alloc (.cells #[.int .i64 0, .int .i64 0, .int .i64 0, .int .i64 0] 33))) := Lib.hid (T3.out.alloc T3.out.size _)
    go_wp2_with fail
    go_ret
    exact ⟨rfl, HB.out⟩
  | some e =>
    obtain rfl := (edge_id he).symm
    have hme := edge_some he
    obtain ⟨ii, iu, iv, iw⟩ := e
    dsimp only at HI
    have HED := Lib.hid (bEdge_some H2.out HI.out he)
    have HME := Lib.hid hme
    clear hme he
    refine (HED.out).mono ?_
    rintro e w3 ⟨rfl, b3⟩
    have H3 := Lib.hid (H2.out.below b3)
    have T3 := Lib.hid (T2.out.trans (b3.mono T2.out.size))
    clear b3
    obtain ⟨pE, hp⟩ : ∃ p, p = w3.heap.size := ⟨_, rfl⟩
    obtain ⟨w4, hw⟩ : ∃ W, W = w3.alloc (.cells #[.int .i64 ii, .int .i64 iu, .int .i64 iv, .int .i64 (iw : Int)] 33) := ⟨_, rfl⟩
    have hb : Below w3.heap.size w3 w4 := by rw [hw]; exact (Below.refl _ _).alloc (Nat.le_refl _) _
    have KE4 : Hid (Blk w4 pE 33 #[.int .i64 ii, .int .i64 iu, .int .i64 iv, .int .i64 (iw : Int)]) := Lib.hid (by rw [hw, hp]; exact Blk.new _ _ _)
    have H4 := Lib.hid (H3.out.below hb)
    have T4 := Lib.hid (T3.out.trans (hb.mono T3.out.size))
    have HPE := Lib.hid hp
    have HWE := Lib.hid hw
    clear hp hw hb
    go_upto_region 5 with fail
    rw [← HWE.out]
    try simp only [← HPE.out]
    by_cases h0 : wt < 0
    · have d0 : decide (wt < 0) = true := by simpa using h0
      go_wp2_with fail
      go_ret
      exact ⟨rfl, T4.out⟩
    have d0 : decide (wt < 0) = false := by simpa using h0
    by_cases h1 : 1099511627776 < wt
    · have d1 : decide (wt > 1099511627776) = true := by simpa using h1
      go_wp2_with fail
      go_ret
      exact ⟨rfl, T4.out⟩
    have d1 : decide (wt > 1099511627776) = false := by simpa using h1
    obtain ⟨n2, hn2⟩ : ∃ n : Nat, wt = (n : Int) := ⟨wt.toNat, by omega⟩
    subst hn2
    have hn2 : n2 ≤ 1099511627776 := by omega
    obtain ⟨m0, s0, k0, em0, es0, ek0, ls0, lk0, ev0⟩ := HOK.out.along_open u v
    obtain ⟨g0, hg0⟩ : ∃ g, g = F.alongX u v := ⟨_, rfl⟩
    obtain ⟨hcE, hcA⟩ := cut_there HOK.out HME.out
    obtain ⟨hlE, hlA⟩ := link_again HOK.out HME.out hn2
    dsimp only at hcE hcA hlE hlA
    have E0 := Lib.hid ev0
    have G0 := Lib.hid hg0
    have M0 := Lib.hid (And.intro em0 (And.intro es0 ek0))
    have CE := Lib.hid hcE
    have CA := Lib.hid hcA
    have LE := Lib.hid hlE
    have LA := Lib.hid hlA
    have hiw : iw ≤ 1099511627776 := (HOK.out.eids _ HME.out).2.2
    have heq := run_eqAg m0.id m0.u m0.v (m0.w : Int) (a := s0) (b := k0) (by omega) (by omega)
    have HEU : Hid (I64 iu) := Lib.hid (I64_of (HOK.out.ids _ (HOK.out.ends _ HME.out).1))
    have HEV : Hid (I64 iv) := Lib.hid (I64_of (HOK.out.ids _ (HOK.out.ends _ HME.out).2.1))
    clear ev0 hg0 em0 es0 ek0 hcE hcA hlE hlA h0 h1
    go_wp2_with fail
    refine (bAlong _ noQ w4 f F H4.out T4.out.size u v HU.out HV.out).mono ?_
    rw [E0.out, ← G0.out]
    rintro e w5 ⟨rfl, h5, t5⟩
    have H5 := Lib.hid h5
    have T5 := Lib.hid (T4.out.trans t5.below)
    have KE5 := Lib.hid (t5.blk KE4.out notL_E)
    clear h5 t5
    obtain ⟨pA, hp⟩ : ∃ p, p = w5.heap.size := ⟨_, rfl⟩
    obtain ⟨w6, hw⟩ : ∃ W, W = w5.alloc (.cells #[.int .i64 m0.id, .int .i64 m0.u, .int .i64 m0.v, .int .i64 (m0.w : Int), .complex .f64 (fl s0) (fl k0)] 48) := ⟨_, rfl⟩
    have hb : Below w5.heap.size w5 w6 := by rw [hw]; exact (Below.refl _ _).alloc (Nat.le_refl _) _
    have KA6 : Hid (Blk w6 pA 48 #[.int .i64 m0.id, .int .i64 m0.u, .int .i64 m0.v, .int .i64 (m0.w : Int), .complex .f64 (fl s0) (fl k0)]) := Lib.hid (by rw [hw, hp]; exact Blk.new _ _ _)
    have H6 := Lib.hid (H5.out.below hb)
    have T6 := Lib.hid (T5.out.trans (hb.mono T5.out.size))
    have KE6 := Lib.hid (KE5.out.below hb KE5.out.lt)
    have HPA := Lib.hid hp
    have HWA := Lib.hid hw
    clear hp hw hb
    go_wp2_with fail
    rw [← HWA.out]
    try simp only [← HPA.out]
    refine (bCut _ noQ w6 f F H6.out T6.out.size ii HI.out).mono ?_
    rw [CE.out, CA.out]
    rintro e w7 ⟨rfl, h7, t7⟩
    have H7 := Lib.hid h7
    have T7 := Lib.hid (T6.out.trans t7.below)
    have KE7 := Lib.hid (t7.blk KE6.out notL_E)
    have KA7 := Lib.hid (t7.blk KA6.out notL_A)
    clear h7 t7
    obtain ⟨F1, hF1⟩ : ∃ F1, F1 = F.less ii := ⟨_, rfl⟩
    have HF1 := Lib.hid hF1
    have K7F : Hid (LB w.heap.size noQ w7 f F1) := Lib.hid (by rw [hF1]; exact H7.out)
    clear H7 hF1
    have H7 := K7F
    clear K7F
    obtain ⟨mx, sx, kx, -, -, -, lsx, lkx, evx⟩ := H7.out.ok.along_open u v
    obtain ⟨gx, hgx⟩ : ∃ g, g = F1.alongX u v := ⟨_, rfl⟩
    have EX := Lib.hid evx
    have GX := Lib.hid hgx
    clear evx hgx
    go_wp2_with fail
    refine (bAlong _ noQ w7 f F1 H7.out T7.out.size u v HU.out HV.out).mono ?_
    rw [EX.out, ← GX.out]
    rintro e w8 ⟨rfl, h8, t8⟩
    have H8 := Lib.hid h8
    have T8 := Lib.hid (T7.out.trans t8.below)
    have KE8 := Lib.hid (t8.blk KE7.out notL_E)
    have KA8 := Lib.hid (t8.blk KA7.out notL_A)
    clear h8 t8
    obtain ⟨pX, hp⟩ : ∃ p, p = w8.heap.size := ⟨_, rfl⟩
    obtain ⟨w9, hw⟩ : ∃ W, W = w8.alloc (.cells #[.int .i64 mx.id, .int .i64 mx.u, .int .i64 mx.v, .int .i64 (mx.w : Int), .complex .f64 (fl sx) (fl kx)] 48) := ⟨_, rfl⟩
    have hb : Below w8.heap.size w8 w9 := by rw [hw]; exact (Below.refl _ _).alloc (Nat.le_refl _) _
    have KX9 : Hid (Blk w9 pX 48 #[.int .i64 mx.id, .int .i64 mx.u, .int .i64 mx.v, .int .i64 (mx.w : Int), .complex .f64 (fl sx) (fl kx)]) := Lib.hid (by rw [hw, hp]; exact Blk.new _ _ _)
    have H9 := Lib.hid (H8.out.below hb)
    have T9 := Lib.hid (T8.out.trans (hb.mono T8.out.size))
    have KE9 := Lib.hid (KE8.out.below hb KE8.out.lt)
    have KA9 := Lib.hid (KA8.out.below hb KA8.out.lt)
    have HPX := Lib.hid hp
    have HWX := Lib.hid hw
    clear hp hw hb
    have e0 := KE9.out.cell 0
    have e1 := KE9.out.cell 1
    have e2 := KE9.out.cell 2
    have e3 := KE9.out.cell 3
    go_upto_region 11 with fail
    rw [← HWX.out]
    try simp only [← HPX.out]
    go_wp2_with fail
    clear e0 e1 e2 e3
    refine (bLink _ noQ w9 f F1 H9.out T9.out.size ii iu iv (n2 : Int) HI.out HEU.out HEV.out HWT.out).mono ?_
    rw [HF1.out, LE.out, LA.out]
    rintro e w10 ⟨rfl, h10, t10⟩
    have H10 := Lib.hid h10
    have T10 := Lib.hid (T9.out.trans t10.below)
    have KE10 := Lib.hid (t10.blk KE9.out notL_E)
    have KA10 := Lib.hid (t10.blk KA9.out notL_A)
    have KX10 := Lib.hid (t10.blk KX9.out notL_A)
    clear h10 t10
    have HPL := Lib.hid (weights_plain HOK.out HME.out H10.out.ok u v)
    go_wp2_with fail
    by_cases hg : g0 = 0
    · subst hg
      by_cases hx : gx = 0
      · subst hx
        have hor : F.alongX u v ≠ 0 ∨ (F.less ii).alongX u v = 0 := .inr (by rw [← HF1.out]; exact GX.out.symm)
        have q1 := HPL.out.2.1
        have q2 := HPL.out.2.2.1 hor
        try dsimp only at q1 q2
        rw [E0.out] at q2
        rw [← G0.out] at q1
        have Q1 := Lib.hid q1
        have Q2 := Lib.hid q2
        clear q1 q2 hor
        refine (bAlong _ noQ w10 f ((F.less ii).more ⟨ii, iu, iv, n2⟩) H10.out T10.out.size u v HU.out HV.out).mono ?_
        rw [Q1.out, Q2.out]
        rintro e w11 ⟨rfl, h11, t11⟩
        have H11 := Lib.hid h11
        have T11 := Lib.hid (T10.out.trans t11.below)
        have KE11 := Lib.hid (t11.blk KE10.out notL_E)
        have KA11 := Lib.hid (t11.blk KA10.out notL_A)
        have KX11 := Lib.hid (t11.blk KX10.out notL_A)
        clear h11 t11
        obtain ⟨pC, hp⟩ : ∃ p, p = w11.heap.size := ⟨_, rfl⟩
        obtain ⟨w12, hw⟩ : ∃ W, W = w11.alloc (.cells #[.int .i64 m0.id, .int .i64 m0.u, .int .i64 m0.v, .int .i64 (m0.w : Int), .complex .f64 (fl s0) (fl k0)] 48) := ⟨_, rfl⟩
        have hb : Below w11.heap.size w11 w12 := by rw [hw]; exact (Below.refl _ _).alloc (Nat.le_refl _) _
        have KC12 : Hid (Blk w12 pC 48 #[.int .i64 m0.id, .int .i64 m0.u, .int .i64 m0.v, .int .i64 (m0.w : Int), .complex .f64 (fl s0) (fl k0)]) := Lib.hid (by rw [hw, hp]; exact Blk.new _ _ _)
        have H12 := Lib.hid (H11.out.below hb)
        have T12 := Lib.hid (T11.out.trans (hb.mono T11.out.size))
        have KE12 := Lib.hid (KE11.out.below hb KE11.out.lt)
        have KA12 := Lib.hid (KA11.out.below hb KA11.out.lt)
        have KX12 := Lib.hid (KX11.out.below hb KX11.out.lt)
        have HPC := Lib.hid hp
        have HWC := Lib.hid hw
        clear hp hw hb
        have a0 := KA12.out.cell 0
        have a1 := KA12.out.cell 1
        have a2 := KA12.out.cell 2
        have a3 := KA12.out.cell 3
        have a4 := KA12.out.cell 4
        have c0 := KC12.out.cell 0
        have c1 := KC12.out.cell 1
        have c2 := KC12.out.cell 2
        have c3 := KC12.out.cell 3
        have c4 := KC12.out.cell 4
        go_upto_region 14 with fail
        rw [← HWC.out]
        try simp only [← HPC.out]
        go_wp2_with fail
        go_ret
        exact ⟨rfl, T12.out⟩
      · have hbx : (gx == 0) = false := by simpa using hx
        have hbx2 : ¬ gx = 0 := hx
        obtain ⟨s, k, p1, p2, p3, p4, p5⟩ := HPL.out.2.2.2 G0.out.symm (by
          try dsimp only
          rw [← HF1.out, ← GX.out]; exact hx)
        have q1 := HPL.out.2.1
        try dsimp only at q1 p1 p2 p3 p4 p5
        rw [← G0.out] at q1
        obtain ⟨m2, s2, k2, em2, es2, ek2, ls2, lk2, ev2⟩ := H10.out.ok.along_open u v
        have e1 : s0 = s + iw := by rw [M0.out.2.1, p1]
        have e2 : k0 = k := by rw [M0.out.2.2, p2]
        have e3 : s2 = s + n2 := by rw [es2, p3]
        have e4 : k2 = k := by rw [ek2, p4]
        rw [← em2, ← M0.out.1] at p5
        subst e1 e2 e3 e4
        have Q1 := Lib.hid q1
        have Q2 := Lib.hid ev2
        have P5 := Lib.hid p5
        have hadw := run_addW (s := s) (a := iw) (b := n2) (k := k2) (by omega) (by omega) (by omega)
        have hec := run_eqCC (a := s + n2) (b := k2) (by omega) (by omega)
        have hwr : IntKind.i64.wrap ((n2 : Int) - (iw : Int)) = (n2 : Int) - (iw : Int) := by rw [IntKind.wrap_i64]; omega
        clear q1 ev2 p1 p2 p3 p4 p5 em2 es2 ek2 hx
        refine (bAlong _ noQ w10 f ((F.less ii).more ⟨ii, iu, iv, n2⟩) H10.out T10.out.size u v HU.out HV.out).mono ?_
        rw [Q1.out, Q2.out]
        rintro e w11 ⟨rfl, h11, t11⟩
        have H11 := Lib.hid h11
        have T11 := Lib.hid (T10.out.trans t11.below)
        have KE11 := Lib.hid (t11.blk KE10.out notL_E)
        have KA11 := Lib.hid (t11.blk KA10.out notL_A)
        have KX11 := Lib.hid (t11.blk KX10.out notL_A)
        clear h11 t11
        obtain ⟨pC, hp⟩ : ∃ p, p = w11.heap.size := ⟨_, rfl⟩
        obtain ⟨w12, hw⟩ : ∃ W, W = w11.alloc (.cells #[.int .i64 m2.id, .int .i64 m2.u, .int .i64 m2.v, .int .i64 (m2.w : Int), .complex .f64 (fl (s + n2)) (fl k2)] 48) := ⟨_, rfl⟩
        have hb : Below w11.heap.size w11 w12 := by rw [hw]; exact (Below.refl _ _).alloc (Nat.le_refl _) _
        have KC12 : Hid (Blk w12 pC 48 #[.int .i64 m2.id, .int .i64 m2.u, .int .i64 m2.v, .int .i64 (m2.w : Int), .complex .f64 (fl (s + n2)) (fl k2)]) := Lib.hid (by rw [hw, hp]; exact Blk.new _ _ _)
        have H12 := Lib.hid (H11.out.below hb)
        have T12 := Lib.hid (T11.out.trans (hb.mono T11.out.size))
        have KE12 := Lib.hid (KE11.out.below hb KE11.out.lt)
        have KA12 := Lib.hid (KA11.out.below hb KA11.out.lt)
        have KX12 := Lib.hid (KX11.out.below hb KX11.out.lt)
        have HPC := Lib.hid hp
        have HWC := Lib.hid hw
        clear hp hw hb
        have a0 := KA12.out.cell 0
        have a1 := KA12.out.cell 1
        have a2 := KA12.out.cell 2
        have a3 := KA12.out.cell 3
        have a4 := KA12.out.cell 4
        have c0 := KC12.out.cell 0
        have c1 := KC12.out.cell 1
        have c2 := KC12.out.cell 2
        have c3 := KC12.out.cell 3
        have c4 := KC12.out.cell 4
        have e0 := KE12.out.cell 0
        have e1 := KE12.out.cell 1
        have e2 := KE12.out.cell 2
        have e3 := KE12.out.cell 3
        go_upto_region 14 with fail
        rw [← HWC.out]
        try simp only [← HPC.out]
        by_cases c1 : m2.id = m0.id
        · have f1 : (m2.id == m0.id) = true := by simpa using c1
          go_wp2_with fail
          go_ret
          exact ⟨rfl, T12.out⟩
        have f1 : (m2.id == m0.id) = false := by simpa using c1
        by_cases c2 : m2.id = ii
        · have f2 : (m2.id == ii) = true := by simpa using c2
          go_wp2_with fail
          go_ret
          exact ⟨rfl, T12.out⟩
        have f2 : (m2.id == ii) = false := by simpa using c2
        have c3 : m0.id = ii := by
          rcases P5.out with h | h | h
          · exact absurd h c1
          · exact absurd h c2
          · exact h
        have f3 : (m0.id == ii) = true := by simpa using c3
        go_wp2_with fail
        go_ret
        exact ⟨rfl, T12.out⟩
    · have hor : F.alongX u v ≠ 0 ∨ (F.less ii).alongX u v = 0 := .inl (by rw [← G0.out]; exact hg)
      have hb0 : (g0 != 0) = true := by simpa using hg
      have hb1 : ¬ g0 = 0 := hg
      have q1 := HPL.out.2.1
      have q2 := HPL.out.2.2.1 hor
      try dsimp only at q1 q2
      rw [E0.out] at q2
      rw [← G0.out] at q1
      have Q1 := Lib.hid q1
      have Q2 := Lib.hid q2
      clear q1 q2 hor
      refine (bAlong _ noQ w10 f ((F.less ii).more ⟨ii, iu, iv, n2⟩) H10.out T10.out.size u v HU.out HV.out).mono ?_
      rw [Q1.out, Q2.out]
      rintro e w11 ⟨rfl, h11, t11⟩
      have H11 := Lib.hid h11
      have T11 := Lib.hid (T10.out.trans t11.below)
      have KE11 := Lib.hid (t11.blk KE10.out notL_E)
      have KA11 := Lib.hid (t11.blk KA10.out notL_A)
      have KX11 := Lib.hid (t11.blk KX10.out notL_A)
      clear h11 t11
      obtain ⟨pC, hp⟩ : ∃ p, p = w11.heap.size := ⟨_, rfl⟩
      obtain ⟨w12, hw⟩ : ∃ W, W = w11.alloc (.cells #[.int .i64 m0.id, .int .i64 m0.u, .int .i64 m0.v, .int .i64 (m0.w : Int), .complex .f64 (fl s0) (fl k0)] 48) := ⟨_, rfl⟩
      have hb : Below w11.heap.size w11 w12 := by rw [hw]; exact (Below.refl _ _).alloc (Nat.le_refl _) _
      have KC12 : Hid (Blk w12 pC 48 #[.int .i64 m0.id, .int .i64 m0.u, .int .i64 m0.v, .int .i64 (m0.w : Int), .complex .f64 (fl s0) (fl k0)]) := Lib.hid (by rw [hw, hp]; exact Blk.new _ _ _)
      have H12 := Lib.hid (H11.out.below hb)
      have T12 := Lib.hid (T11.out.trans (hb.mono T11.out.size))
      have KE12 := Lib.hid (KE11.out.below hb KE11.out.lt)
      have KA12 := Lib.hid (KA11.out.below hb KA11.out.lt)
      have KX12 := Lib.hid (KX11.out.below hb KX11.out.lt)
      have HPC := Lib.hid hp
      have HWC := Lib.hid hw
      clear hp hw hb
      have a0 := KA12.out.cell 0
      have a1 := KA12.out.cell 1
      have a2 := KA12.out.cell 2
      have a3 := KA12.out.cell 3
      have a4 := KA12.out.cell 4
      have c0 := KC12.out.cell 0
      have c1 := KC12.out.cell 1
      have c2 := KC12.out.cell 2
      have c3 := KC12.out.cell 3
      have c4 := KC12.out.cell 4
      go_upto_region 14 with fail
      rw [← HWC.out]
      try simp only [← HPC.out]
      go_wp2_with fail
      go_ret
      exact ⟨rfl, T12.out⟩

end Go.Proofs.Ytlhkajlkapoabaa
