/-
  Forests in plain words: joined, apart without an edge, the edges between two vertices.
-/
import Derived.Test.YtlhkajlkapoabaaZLL6
namespace Go.Proofs.Ytlhkajlkapoabaa
open Go.RowKit Go.Maps
set_option linter.unusedVariables false

section

variable {F G : LF} {u v w x y : Int} {e : Eg}

theorem LF.Join.trans (h : F.Join u v) (h' : F.Join v w) : F.Join u w := by
  induction h' with
  | refl => exact h
  | step _ e ih => exact .step ih e

theorem LF.nx_symm (h : F.nx x y) : F.nx y x := by
  obtain ⟨e, he, h⟩ := h
  exact ⟨e, he, h.symm⟩

theorem LF.Join.symm (h : F.Join u v) : F.Join v u := by
  induction h with
  | refl => exact .refl
  | step _ e ih => exact (LF.Join.step .refl (LF.nx_symm e)).trans ih

theorem LF.Join.mono (h : F.Join u v) (hs : ∀ e ∈ F.es, e ∈ G.es) : G.Join u v := by
  induction h with
  | refl => exact .refl
  | step _ e ih =>
    obtain ⟨e, he, h⟩ := e
    exact .step ih ⟨e, hs e he, h⟩

theorem LF.Join.inv {T : Int → Prop} (h : F.Join u v) (hT : T u) (hs : ∀ e ∈ F.es, T e.u ↔ T e.v) : T v := by
  induction h with
  | refl => exact hT
  | step _ e ih =>
    obtain ⟨e, he, ⟨rfl, rfl⟩ | ⟨rfl, rfl⟩⟩ := e
    · exact (hs e he).1 ih
    · exact (hs e he).2 ih

theorem LF.join_edge (he : e ∈ F.es) : F.Join e.u e.v := .step .refl ⟨e, he, .inl ⟨rfl, rfl⟩⟩

theorem LF.mem_less {id : Int} : e ∈ (F.less id).es ↔ e ∈ F.es ∧ e.id ≠ id := by
  show e ∈ F.es.filter _ ↔ _
  rw [List.mem_filter]
  simp only [bne_iff_ne]

theorem LF.less_join {id : Int} (h : (F.less id).Join u v) : F.Join u v := h.mono fun e he => (LF.mem_less.1 he).1

/-- Who is joined is joined without an edge, or by way of it. -/
theorem LF.join_split (hE : ∀ x ∈ F.es, x.id = e.id → x = e) (h : F.Join u v) : (F.less e.id).Join u v ∨ ((F.less e.id).Join u e.u ∧ (F.less e.id).Join e.v v) ∨ ((F.less e.id).Join u e.v ∧ (F.less e.id).Join e.u v) := by
  induction h with
  | refl => exact .inl .refl
  | @step x y _ hxy ih =>
    obtain ⟨a, ha, hxy⟩ := hxy
    by_cases hid : a.id = e.id
    · have := hE a ha hid
      subst this
      rcases hxy with ⟨rfl, rfl⟩ | ⟨rfl, rfl⟩
      · rcases ih with h1 | ⟨h1, h2⟩ | ⟨h1, h2⟩
        · exact .inr (.inl ⟨h1, .refl⟩)
        · exact .inr (.inl ⟨h1, .refl⟩)
        · exact .inl h1
      · rcases ih with h1 | ⟨h1, h2⟩ | ⟨h1, h2⟩
        · exact .inr (.inr ⟨h1, .refl⟩)
        · exact .inl h1
        · exact .inr (.inr ⟨h1, .refl⟩)
    · have hs : (F.less e.id).nx x y := ⟨a, LF.mem_less.2 ⟨ha, hid⟩, hxy⟩
      rcases ih with h1 | ⟨h1, h2⟩ | ⟨h1, h2⟩
      · exact .inl (.step h1 hs)
      · exact .inr (.inl ⟨h1, .step h2 hs⟩)
      · exact .inr (.inr ⟨h1, .step h2 hs⟩)

/-- A forest as it must be. -/
structure LF.Ok (F : LF) : Prop where
  vnd : F.vs.Nodup
  idnd : (F.es.map Eg.id).Nodup
  ends : ∀ e ∈ F.es, e.u ∈ F.vs ∧ e.v ∈ F.vs ∧ e.u ≠ e.v
  tree : ∀ e ∈ F.es, ¬ (F.less e.id).Join e.u e.v
  few : F.vs.length ≤ 2048
  fewE : F.es.length ≤ 2048
  ids : ∀ v ∈ F.vs, 1 ≤ v ∧ v ≤ 2147483647
  eids : ∀ e ∈ F.es, 1 ≤ e.id ∧ e.id ≤ 2147483647 ∧ e.w ≤ 1099511627776

theorem LB.ok {B : Nat} {Q : Nat → Prop} {W : World} {f : Nat} (h : LB B Q W f F) : F.Ok := by
  obtain ⟨bv, be, S, P, N, K, vs, es, h1, h2, h3⟩ := h
  exact ⟨h1.gd.vnd, h1.gd.idnd, h1.gd.ends, fun e he => h1.gd.tree h1.at_.fs.rank he, h1.few, h1.bounds.1, h1.ids, h1.eids⟩

theorem LF.Ok.one (h : F.Ok) (he : e ∈ F.es) : ∀ x ∈ F.es, x.id = e.id → x = e := fun x hx hid => one_of_nodup h.idnd x hx e he hid

theorem LF.Ok.esnd (h : F.Ok) : F.es.Nodup := (List.pairwise_map.1 h.idnd).imp fun hne e => hne (by rw [e])

/-- Both are vertices and joined. -/
def LF.Jn (F : LF) (u v : Int) : Prop := u ∈ F.vs ∧ v ∈ F.vs ∧ F.Join u v

theorem LF.Jn.symm (h : F.Jn u v) : F.Jn v u := ⟨h.2.1, h.1, h.2.2.symm⟩

theorem LF.Jn.trans (h : F.Jn u v) (h' : F.Jn v w) : F.Jn u w := ⟨h.1, h'.2.1, h.2.2.trans h'.2.2⟩

theorem LF.mem_path : e ∈ F.path u v ↔ F.Jn u v ∧ e ∈ F.es ∧ ¬ (F.less e.id).Join u v := by
  by_cases h : F.Jn u v
  · rw [F.path_yes h]
    exact ⟨fun hh => ⟨h, hh⟩, fun hh => hh.2⟩
  · rw [F.path_no h]
    exact ⟨fun hh => (List.not_mem_nil hh).elim, fun hh => absurd hh.1 h⟩

open Classical in
theorem LF.path_symm (F : LF) (u v : Int) : F.path u v = F.path v u := by
  unfold LF.path
  by_cases h : F.Jn u v
  · rw [if_pos (show u ∈ F.vs ∧ v ∈ F.vs ∧ F.Join u v from h), if_pos (show v ∈ F.vs ∧ u ∈ F.vs ∧ F.Join v u from h.symm)]
    refine List.filter_congr fun e _ => ?_
    rw [decide_eq_decide]
    exact not_congr ⟨fun h => h.symm, fun h => h.symm⟩
  · rw [if_neg (show ¬ (u ∈ F.vs ∧ v ∈ F.vs ∧ F.Join u v) from h), if_neg (show ¬ (v ∈ F.vs ∧ u ∈ F.vs ∧ F.Join v u) from fun hh => h (LF.Jn.symm hh))]

theorem LF.Ok.path_nd (h : F.Ok) : (F.path u v).Nodup := h.esnd.sublist (F.path_sub u v)

/-- Without an edge the joined fall in two halves. -/
theorem LF.Ok.halves (h : F.Ok) (he : e ∈ F.es) (h1 : F.Join u v) (h2 : F.Join v w) (n1 : ¬ (F.less e.id).Join u v) (n2 : ¬ (F.less e.id).Join v w) : (F.less e.id).Join u w := by
  rcases LF.join_split (h.one he) h1 with k | ⟨a, b⟩ | ⟨a, b⟩
  · exact absurd k n1
  · rcases LF.join_split (h.one he) h2 with k | ⟨c, d⟩ | ⟨c, d⟩
    · exact absurd k n2
    · exact absurd ((b.trans c).symm) (h.tree e he)
    · exact a.trans d
  · rcases LF.join_split (h.one he) h2 with k | ⟨c, d⟩ | ⟨c, d⟩
    · exact absurd k n2
    · exact a.trans d
    · exact absurd (b.trans c) (h.tree e he)

theorem cnt_len {L : List Eg} (h : ∀ e ∈ L, e ≠ Eg.zero) : cntE L = L.length ∧ sumE L = (L.map Eg.w).sum := by
  induction L with
  | nil => exact ⟨rfl, rfl⟩
  | cons e L ih =>
    obtain ⟨h1, h2⟩ := ih fun x hx => h x (List.mem_cons_of_mem _ hx)
    have h3 := h e (List.mem_cons_self ..)
    rw [cntE_cons, sumE_cons, h1, h2]
    unfold Eg.stepK Eg.stepS
    rw [if_neg h3, if_neg h3]
    simp
    omega

theorem LF.Ok.nz (h : F.Ok) (he : e ∈ F.es) : e ≠ Eg.zero := fun hz => by have := (h.eids e he).1; rw [hz] at this; exact absurd this (by decide)

theorem LF.Ok.path_nz (h : F.Ok) : ∀ e ∈ F.path u v, e ≠ Eg.zero := fun e he => h.nz ((F.path_sub u v).mem he)

theorem LF.Ok.bounds (h : F.Ok) : cntE (F.path u v) ≤ 2048 ∧ sumE (F.path u v) ≤ 2048 * 1099511627776 := by
  have h1 := (F.path_sub u v).length_le
  have h2 := h.fewE
  obtain ⟨h3, h4⟩ := cnt_len h.path_nz (L := F.path u v)
  refine ⟨by omega, ?_⟩
  rw [h4]
  have h5 : ∀ L : List Eg, (∀ e ∈ L, e.w ≤ 1099511627776) → (L.map Eg.w).sum ≤ L.length * 1099511627776 := by
    intro L
    induction L with
    | nil => intro _; simp
    | cons e L ih =>
      intro hL
      have k1 := ih fun x hx => hL x (List.mem_cons_of_mem _ hx)
      have k2 := hL e (List.mem_cons_self ..)
      simp only [List.map_cons, List.sum_cons, List.length_cons]
      omega
  have h6 := h5 (F.path u v) fun e he => (h.eids e ((F.path_sub u v).mem he)).2.2
  have h7 : (F.path u v).length ≤ 2048 := by omega
  exact Nat.le_trans h6 (Nat.mul_le_mul_right 1099511627776 h7)

/-- What is told of the way to one's neighbour along an edge. -/
theorem LF.Ok.path_edge (h : F.Ok) (he : e ∈ F.es) : F.path e.u e.v = [e] := by
  obtain ⟨h1, h2, h3⟩ := h.ends e he
  have hj : F.Jn e.u e.v := ⟨h1, h2, LF.join_edge he⟩
  have hp : (F.path e.u e.v).Perm [e] := (List.perm_ext_iff_of_nodup h.path_nd (by simp)).2 fun x => by
    rw [LF.mem_path, List.mem_singleton]
    constructor
    · rintro ⟨-, hx, hn⟩
      by_cases hid : x.id = e.id
      · exact h.one he x hx hid
      · exact absurd (LF.join_edge (LF.mem_less.2 ⟨he, fun hh => hid hh.symm⟩)) hn
    · rintro rfl
      exact ⟨hj, he, h.tree x he⟩
  exact List.perm_singleton.1 hp

theorem best_one (h : e.id ≥ 1) : best [e] = e := by
  show (if e.above Eg.zero then e else Eg.zero) = e
  rw [if_pos ((above_iff _ _).2 (by
    rcases Nat.eq_zero_or_pos e.w with h1 | h1
    · exact .inr ⟨h1, by show (0 : Int) < e.id; omega⟩
    · exact .inl h1))]

theorem path_self (h : F.Ok) (hu : u ∈ F.vs) : F.path u u = [] := by
  refine List.eq_nil_iff_forall_not_mem.2 fun e he => ?_
  exact (LF.mem_path.1 he).2.2 .refl

end

end Go.Proofs.Ytlhkajlkapoabaa

/-
  The document's example in plain words.
-/
namespace Go.Proofs.Ytlhkajlkapoabaa
open Go.RowKit Go.Maps
set_option linter.unusedVariables false

def e7 : Eg := ⟨7, 1, 2, 5⟩
def e8 : Eg := ⟨8, 2, 3, 4⟩
def g0 : LF := ⟨[1, 2, 3], []⟩
def g1 : LF := ⟨[1, 2, 3], [e7]⟩
def g2 : LF := ⟨[1, 2, 3], [e7, e8]⟩
def g4 : LF := ⟨[1, 2, 3], [e8]⟩

/-- A test that tells two vertices apart. -/
theorem apart_by {F : LF} {u v : Int} (T : Int → Bool) (hu : T u = true) (hv : T v = false) (h : ∀ e ∈ F.es, T e.u = T e.v) : ¬ F.Join u v := fun hj => by
  have := hj.inv (T := fun x => T x = true) hu (fun e he => by rw [h e he])
  rw [hv] at this
  cases this

structure ExL : Prop where
  a1 : LF.none0.addE 1 = 0 ∧ (LF.none0.addA 1) = ⟨[1], []⟩
  a2 : (LF.mk [1] []).addE 2 = 0 ∧ (LF.mk [1] []).addA 2 = ⟨[1, 2], []⟩
  a3 : (LF.mk [1, 2] []).addE 3 = 0 ∧ (LF.mk [1, 2] []).addA 3 = g0
  l1 : g0.linkE 7 1 2 5 = 0 ∧ g0.linkA 7 1 2 5 = g1
  l2 : g1.linkE 8 2 3 4 = 0 ∧ g1.linkA 8 2 3 4 = g2
  l3 : g2.linkE 9 1 3 1 = 151 ∧ g2.linkA 9 1 3 1 = g2
  p : g2.alongX 1 3 = 0 ∧ g2.alongV 1 3 = .agg (agC e7 4621256167635550208 4611686018427387904)
  e : g2.edge 8 = some e8
  c : g2.cutE 7 = 0 ∧ g2.cutA 7 = g4
  q : g4.alongX 1 3 = 61
  j : g4.joinX 2 3 = 0 ∧ g4.joinB 2 3 = true

theorem ok_id {v : Int} (h1 : 1 ≤ v) (h2 : v ≤ 2147483647) : okId v := ⟨h1, h2⟩

theorem linkE_zero {F : LF} {id u v wt : Int} (h1 : okId id) (h2 : okId u) (h3 : okId v) (h4 : ¬ (wt < 0 ∨ 1099511627776 < wt)) (h5 : id ∉ F.es.map Eg.id) (h6 : u ∈ F.vs) (h7 : v ∈ F.vs) (h8 : ¬ F.Join u v) : F.linkE id u v wt = 0 := by
  unfold LF.linkE
  rw [if_pos ⟨h1, h2, h3⟩, if_neg h4, if_neg h5, if_pos ⟨h6, h7⟩, if_neg h8]

theorem fl9 : fl 9 = 4621256167635550208 := by decide

theorem fl2 : fl 2 = 4611686018427387904 := by decide

open Classical in
theorem exL : ExL := by
  have jn : g2.Join 1 3 := .step (.step .refl ⟨e7, by simp [g2], .inl ⟨rfl, rfl⟩⟩) ⟨e8, by simp [g2], .inl ⟨rfl, rfl⟩⟩
  have k1 : g0.linkE 7 1 2 5 = 0 := linkE_zero (ok_id (by decide) (by decide)) (ok_id (by decide) (by decide)) (ok_id (by decide) (by decide)) (by decide) (by decide) (by decide) (by decide) (apart_by (fun x => x == 1) rfl rfl (fun e he => by cases he))
  have k2 : g1.linkE 8 2 3 4 = 0 := linkE_zero (ok_id (by decide) (by decide)) (ok_id (by decide) (by decide)) (ok_id (by decide) (by decide)) (by decide) (by decide) (by decide) (by decide) (apart_by (fun x => x == 1 || x == 2) rfl rfl (fun e he => by
    rw [List.mem_singleton.1 he]; rfl))
  have k3 : g2.linkE 9 1 3 1 = 151 := by
    unfold LF.linkE
    rw [if_pos ⟨ok_id (by decide) (by decide), ok_id (by decide) (by decide), ok_id (by decide) (by decide)⟩, if_neg (by decide), if_neg (by decide), if_pos ⟨by decide, by decide⟩, if_pos jn]
  have kj : g2.Jn 1 3 := ⟨by decide, by decide, jn⟩
  have kp : g2.path 1 3 = [e7, e8] := by
    unfold LF.path
    rw [if_pos (show (1 : Int) ∈ g2.vs ∧ (3 : Int) ∈ g2.vs ∧ g2.Join 1 3 from kj)]
    have h7 : ¬ (g2.less e7.id).Join 1 3 := apart_by (fun x => x == 1) rfl rfl (fun e he => by
      have h : e ∈ [e8] := he
      rw [List.mem_singleton.1 h]; rfl)
    have h8 : ¬ (g2.less e8.id).Join 1 3 := apart_by (fun x => x == 1 || x == 2) rfl rfl (fun e he => by
      have h : e ∈ [e7] := he
      rw [List.mem_singleton.1 h]; rfl)
    show List.filter _ [e7, e8] = _
    rw [List.filter_cons, if_pos (decide_eq_true h7), List.filter_cons, if_pos (decide_eq_true h8)]
    rfl
  refine ⟨⟨rfl, ?_⟩, ⟨rfl, ?_⟩, ⟨rfl, ?_⟩, ⟨k1, ?_⟩, ⟨k2, ?_⟩, ⟨k3, ?_⟩, ⟨?_, ?_⟩, rfl, ⟨?_, ?_⟩, ?_, ⟨?_, ?_⟩⟩
  · unfold LF.addA; rw [if_pos (show LF.none0.addE 1 = 0 from rfl)]; rfl
  · unfold LF.addA; rw [if_pos (show (LF.mk [1] []).addE 2 = 0 from rfl)]; rfl
  · unfold LF.addA; rw [if_pos (show (LF.mk [1, 2] []).addE 3 = 0 from rfl)]; rfl
  · unfold LF.linkA; rw [if_pos k1]; rfl
  · unfold LF.linkA; rw [if_pos k2]; rfl
  · unfold LF.linkA; rw [k3]; rfl
  · unfold LF.alongX; rw [if_pos ⟨by decide, by decide⟩, if_pos jn]
  · unfold LF.alongV
    rw [kp, show best [e7, e8] = e7 from by decide, show sumE [e7, e8] = 9 from by decide, show cntE [e7, e8] = 2 from by decide, fl9, fl2]
  · unfold LF.cutE; rw [if_pos (ok_id (by decide) (by decide)), if_pos (by decide)]
  · unfold LF.cutA LF.cutE; rw [if_pos (ok_id (by decide) (by decide)), if_pos (by decide)]; rfl
  · unfold LF.alongX
    rw [if_pos ⟨by decide, by decide⟩, if_neg (apart_by (fun x => x == 1) rfl rfl (fun e he => by
      have h : e ∈ [e8] := he
      rw [List.mem_singleton.1 h]; rfl))]
  · unfold LF.joinX; rw [if_pos ⟨by decide, by decide⟩]
  · exact g4.joinB_yes ⟨by decide, by decide, .step .refl ⟨e8, by simp [g4], .inl ⟨rfl, rfl⟩⟩⟩

end Go.Proofs.Ytlhkajlkapoabaa

/-
  The walk of the law's alive: the document's example.
-/
namespace Go.Proofs.Ytlhkajlkapoabaa
open Go.RowKit Go.Maps
set_option linter.unusedVariables false

theorem notL_A : NotL 48 := by unfold NotL; decide

theorem cplx_eq (w : World) : (binOp .eql 46 (.complex .f64 4621256167635550208 4611686018427387904) (.complex .f64 4621256167635550208 4611686018427387904)).run Try.prog w = .ok (.bool true) w := by kernel_rfl

theorem run_storeCy (P : Program) (w : World) (a : Addr) (m : Mode) (k : FloatKind) (x y : Nat) : (store a (.complex k x y) m).run P w = stored P w a (.complex k x y) m := run_store P w a _ m rfl

attribute [local go_sem] run_storeCy

theorem e_along : g2.alongV 1 3 = .agg #[.int .i64 7, .int .i64 1, .int .i64 2, .int .i64 5, .complex .f64 4621256167635550208 4611686018427387904] := exL.p.2

theorem e_along4 : g4.alongV 1 3 = .agg #[.int .i64 0, .int .i64 0, .int .i64 0, .int .i64 0, .complex .f64 0 0] := by
  refine LF.alongV_no fun hh => ?_
  have := exL.q
  unfold LF.alongX at this
  rw [if_pos ⟨hh.1, hh.2.1⟩, if_pos hh.2.2] at this
  cases this

theorem e_edge : ((g2.edge 8).getD Eg.zero).val = .agg #[.int .i64 8, .int .i64 2, .int .i64 3, .int .i64 4] ∧ (g2.edge 8).isSome = true := by rw [exL.e]; exact ⟨rfl, rfl⟩

set_option maxRecDepth 100000 in
set_option maxHeartbeats 4000000 in
theorem alive_any (w : World) : Calls Try.prog 9 #[] w fun e w' => e = .returned (.bool true) ∧ Below w.heap.size w w' := by
  have hcx := cplx_eq
  go_enter Try.func9, Try.ntmps9
  go_wp2_with fail
  refine (bNew w noQ noQ_lt).mono ?_
  rintro e w1 ⟨f, rfl, h1, b1⟩
  have H1 : Hid (LB w.heap.size noQ w1 f LF.none0) := Lib.hid h1
  have T1 : Hid (Below w.heap.size w w1) := Lib.hid b1
  clear h1 b1
  go_wp2_with fail
  refine (bAddV _ noQ w1 f LF.none0 H1.out T1.out.size 1 (small64 (by decide) (by decide))).mono ?_
  rw [exL.a1.1, exL.a1.2]
  rintro e w2 ⟨rfl, h2, t2⟩
  have H2 := Lib.hid h2
  have T2 := Lib.hid (T1.out.trans t2.below)
  clear h2 t2
  go_wp2_with fail
  refine (bAddV _ noQ w2 f _ H2.out T2.out.size 2 (small64 (by decide) (by decide))).mono ?_
  rw [exL.a2.1, exL.a2.2]
  rintro e w3 ⟨rfl, h3, t3⟩
  have H3 := Lib.hid h3
  have T3 := Lib.hid (T2.out.trans t3.below)
  clear h3 t3
  go_wp2_with fail
  refine (bAddV _ noQ w3 f _ H3.out T3.out.size 3 (small64 (by decide) (by decide))).mono ?_
  rw [exL.a3.1, exL.a3.2]
  rintro e w4 ⟨rfl, h4, t4⟩
  have H4 := Lib.hid h4
  have T4 := Lib.hid (T3.out.trans t4.below)
  clear h4 t4
  go_wp2_with fail
  refine (bLink _ noQ w4 f g0 H4.out T4.out.size 7 1 2 5 (small64 (by decide) (by decide)) (small64 (by decide) (by decide)) (small64 (by decide) (by decide)) (small64 (by decide) (by decide))).mono ?_
  rw [exL.l1.1, exL.l1.2]
  rintro e w5 ⟨rfl, h5, t5⟩
  have H5 := Lib.hid h5
  have T5 := Lib.hid (T4.out.trans t5.below)
  clear h5 t5
  go_wp2_with fail
  refine (bLink _ noQ w5 f g1 H5.out T5.out.size 8 2 3 4 (small64 (by decide) (by decide)) (small64 (by decide) (by decide)) (small64 (by decide) (by decide)) (small64 (by decide) (by decide))).mono ?_
  rw [exL.l2.1, exL.l2.2]
  rintro e w6 ⟨rfl, h6, t6⟩
  have H6 := Lib.hid h6
  have T6 := Lib.hid (T5.out.trans t6.below)
  clear h6 t6
  go_wp2_with fail
  refine (bLink _ noQ w6 f g2 H6.out T6.out.size 9 1 3 1 (small64 (by decide) (by decide)) (small64 (by decide) (by decide)) (small64 (by decide) (by decide)) (small64 (by decide) (by decide))).mono ?_
  rw [exL.l3.1, exL.l3.2]
  rintro e w7 ⟨rfl, h7, t7⟩
  have H7 := Lib.hid h7
  have T7 := Lib.hid (T6.out.trans t7.below)
  clear h7 t7
  go_wp2_with fail
  refine (bAlong _ noQ w7 f g2 H7.out T7.out.size 1 3 (small64 (by decide) (by decide)) (small64 (by decide) (by decide))).mono ?_
  rw [exL.p.1, e_along]
  rintro e w8 ⟨rfl, h8, t8⟩
  have H8 := Lib.hid h8
  have T8 := Lib.hid (T7.out.trans t8.below)
  clear h8 t8
  obtain ⟨pA, hp⟩ : ∃ p, p = w8.heap.size := ⟨_, rfl⟩
  obtain ⟨w9, hw⟩ : ∃ W, W = w8.alloc (.cells #[.int .i64 7, .int .i64 1, .int .i64 2, .int .i64 5, .complex .f64 4621256167635550208 4611686018427387904] 48) := ⟨_, rfl⟩
  have hb : Below w8.heap.size w8 w9 := by rw [hw]; exact (Below.refl _ _).alloc (Nat.le_refl _) _
  have KA9 : Hid (Blk w9 pA 48 #[.int .i64 7, .int .i64 1, .int .i64 2, .int .i64 5, .complex .f64 4621256167635550208 4611686018427387904]) := Lib.hid (by rw [hw, hp]; exact Blk.new _ _ _)
  have H9 := Lib.hid (H8.out.below hb)
  have T9 := Lib.hid (T8.out.trans (hb.mono T8.out.size))
  have HPA := Lib.hid hp
  have HWA := Lib.hid hw
  clear hp hw hb
  go_wp2_with fail
  rw [← HWA.out]
  try simp only [← HPA.out]
  refine (bEdge _ noQ w9 f g2 H9.out 8 (small64 (by decide) (by decide))).mono ?_
  rw [e_edge.1, e_edge.2]
  rintro e w10 ⟨rfl, b10⟩
  have H10 := Lib.hid (H9.out.below b10)
  have T10 := Lib.hid (T9.out.trans (b10.mono T9.out.size))
  have KA10 := Lib.hid (KA9.out.below b10 KA9.out.lt)
  clear b10
  obtain ⟨pE, hp⟩ : ∃ p, p = w10.heap.size := ⟨_, rfl⟩
  obtain ⟨w11, hw⟩ : ∃ W, W = w10.alloc (.cells #[.int .i64 8, .int .i64 2, .int .i64 3, .int .i64 4] 33) := ⟨_, rfl⟩
  have hb : Below w10.heap.size w10 w11 := by rw [hw]; exact (Below.refl _ _).alloc (Nat.le_refl _) _
  have KE11 : Hid (Blk w11 pE 33 #[.int .i64 8, .int .i64 2, .int .i64 3, .int .i64 4]) := Lib.hid (by rw [hw, hp]; exact Blk.new _ _ _)
  have H11 := Lib.hid (H10.out.below hb)
  have T11 := Lib.hid (T10.out.trans (hb.mono T10.out.size))
  have KA11 := Lib.hid (KA10.out.below hb KA10.out.lt)
  have HPE := Lib.hid hp
  have HWE := Lib.hid hw
  clear hp hw hb
  go_wp2_with fail
  rw [← HWE.out]
  try simp only [← HPE.out]
  refine (bLen _ noQ w11 f g2 H11.out).mono ?_
  rw [show (g2.vs.length : Int) = 3 from rfl, show (g2.es.length : Int) = 2 from rfl]
  rintro e w12 ⟨rfl, b12⟩
  have H12 := Lib.hid (H11.out.below b12)
  have T12 := Lib.hid (T11.out.trans (b12.mono T11.out.size))
  have KA12 := Lib.hid (KA11.out.below b12 KA11.out.lt)
  have KE12 := Lib.hid (KE11.out.below b12 KE11.out.lt)
  clear b12
  go_wp2_with fail
  refine (bCut _ noQ w12 f g2 H12.out T12.out.size 7 (small64 (by decide) (by decide))).mono ?_
  rw [exL.c.1, exL.c.2]
  rintro e w13 ⟨rfl, h13, t13⟩
  have H13 := Lib.hid h13
  have T13 := Lib.hid (T12.out.trans t13.below)
  have KA13 := Lib.hid (t13.blk KA12.out notL_A)
  have KE13 := Lib.hid (t13.blk KE12.out notL_E)
  clear h13 t13
  go_wp2_with fail
  refine (bAlong _ noQ w13 f g4 H13.out T13.out.size 1 3 (small64 (by decide) (by decide)) (small64 (by decide) (by decide))).mono ?_
  rw [exL.q, e_along4]
  rintro e w14 ⟨rfl, h14, t14⟩
  have H14 := Lib.hid h14
  have T14 := Lib.hid (T13.out.trans t14.below)
  have KA14 := Lib.hid (t14.blk KA13.out notL_A)
  have KE14 := Lib.hid (t14.blk KE13.out notL_E)
  clear h14 t14
  obtain ⟨pB, hp⟩ : ∃ p, p = w14.heap.size := ⟨_, rfl⟩
  obtain ⟨w15, hw⟩ : ∃ W, W = w14.alloc (.cells #[.int .i64 0, .int .i64 0, .int .i64 0, .int .i64 0, .complex .f64 0 0] 48) := ⟨_, rfl⟩
  have hb : Below w14.heap.size w14 w15 := by rw [hw]; exact (Below.refl _ _).alloc (Nat.le_refl _) _
  have KB15 : Hid (Blk w15 pB 48 #[.int .i64 0, .int .i64 0, .int .i64 0, .int .i64 0, .complex .f64 0 0]) := Lib.hid (by rw [hw, hp]; exact Blk.new _ _ _)
  have H15 := Lib.hid (H14.out.below hb)
  have T15 := Lib.hid (T14.out.trans (hb.mono T14.out.size))
  have KA15 := Lib.hid (KA14.out.below hb KA14.out.lt)
  have KE15 := Lib.hid (KE14.out.below hb KE14.out.lt)
  have HPB := Lib.hid hp
  have HWB := Lib.hid hw
  clear hp hw hb
  go_wp2_with fail
  rw [← HWB.out]
  try simp only [← HPB.out]
  refine (bJoined _ noQ w15 f g4 H15.out T15.out.size 2 3 (small64 (by decide) (by decide)) (small64 (by decide) (by decide))).mono ?_
  rw [exL.j.1, exL.j.2]
  rintro e w16 ⟨rfl, h16, t16⟩
  have T16 := Lib.hid (T15.out.trans t16.below)
  have ka := t16.blk KA15.out notL_A
  have ke := t16.blk KE15.out notL_E
  have a0 : w16.cell? ⟨pA, 0, none⟩ = some (.int .i64 7) := ka.cell 0
  have a4 : w16.cell? ⟨pA, 4, none⟩ = some (.complex .f64 4621256167635550208 4611686018427387904) := ka.cell 4
  have e3 : w16.cell? ⟨pE, 3, none⟩ = some (.int .i64 4) := ke.cell 3
  clear h16 t16 ka ke
  go_wp2_with fail
  go_ret
  exact ⟨rfl, T16.out⟩

end Go.Proofs.Ytlhkajlkapoabaa
