/-
  Plain words for EulerOrder: a script's vertices and edges at both forests; an edge is the only way between its ends; trees do not hang on which end of an edge is named first. No walk of code.
-/
import Derived.Test.YtlakcldgolpaiaaZEM15
namespace Go.Proofs.Ytlakcldgolpaiaa
set_option linter.unusedVariables false

/-! ### A script's steps keep a forest good -/

section

variable {F : FS}

theorem addE_ok {v : Int} (h : F.addE v = 0) : (1 ≤ v ∧ v ≤ 2147483647) ∧ v ∉ F.vs ∧ F.vs.length < 2048 := by
  unfold FS.addE at h
  split at h
  · rename_i h1
    split at h
    · cases h
    · rename_i h2
      split at h
      · cases h
      · rename_i h3; exact ⟨h1, h2, by omega⟩
  · cases h

theorem FS.Good.addA (h : F.Good) (v : Int) : (F.addA v).Good := by
  unfold FS.addA
  split
  · rename_i h0
    obtain ⟨h1, h2, h3⟩ := addE_ok h0
    exact h.addv h1 h2 h3
  · exact h

theorem FS.Good.delA (h : F.Good) (v : Int) : (F.delA v).Good := by
  unfold FS.delA
  split
  · rename_i h0
    unfold FS.delE at h0
    split at h0
    · split at h0
      · rename_i h1 h2
        split at h0
        · cases h0
        · rename_i h3
          obtain ⟨a, e1⟩ := Option.ne_none_iff_exists'.1 ((h.vs v).1 h2)
          have hl : ¬ 1 < (F.treeV v).length := fun e => h3 ((h.busy_iff h2 (F.riseV h2)).1 e)
          have hal := h.alone e1 (F.riseV h2) (by omega)
          rw [e1]
          exact h.delv e1 hal
      · cases h0
    · cases h0
  · exact h

theorem FS.Good.cutA (h : F.Good) (id : Int) : (F.cutA id).Good := by
  unfold FS.cutA
  split
  · rename_i h0
    unfold FS.cutE at h0
    split at h0
    · split at h0
      · rename_i h1 h2
        rcases h.lookE id with ⟨a, b, e1, -⟩ | ⟨-, e2⟩
        · rw [e1]
          exact (h.cutOut e1).1
        · exact absurd h2 e2
      · cases h0
    · cases h0
  · exact h

theorem FS.Good.markVA (h : F.Good) (v : Int) (on : Bool) : (F.markVA v on).Good := by
  unfold FS.markVA
  split
  · rename_i a e1; exact h.markV e1 on
  · exact h

theorem FS.Good.markEA (h : F.Good) (v : Int) (on : Bool) : (F.markEA v on).Good := by
  unfold FS.markEA
  split
  · rename_i a b e1; exact h.markE e1 on
  · exact h

theorem FS.Good.stepE (h : F.Good) (o : OpE) : (F.stepE o).Good := by
  unfold FS.stepE
  split
  · exact h.addA _
  split
  · exact h.delA _
  split
  · exact h.linkA _ _ _
  split
  · exact h.cutA _
  split
  · exact h.markVA _ _
  split
  · exact h.markEA _ _
  · exact h

end

theorem good_runsE : ∀ (os : List OpE) {F : FS}, F.Good → (F.runsE os).Good
  | [], _, h => h
  | o :: r, _, h => good_runsE r (h.stepE o)

/-! ### Vertices and edges alone -/

/-- Two forests of the same vertices and edges, whatever the marks. -/
def Shape (F : FS) (d : DF) : Prop := (∃ mv me, Beside F ⟨d.vs, d.es, mv, me⟩) ∧ d.mv = [] ∧ d.me = []

/-- What a call of the script does to the document's forest, marks left out. -/
noncomputable def DF.stepO (d : DF) (o : OpE) : DF :=
  if o.kd = 1 then d.addA o.u else if o.kd = 2 then d.delA o.u else if o.kd = 3 then d.linkA o.id o.u o.v else if o.kd = 4 then d.cutA o.id else d

theorem shape_new : Shape FS.new ⟨[], [], [], []⟩ := ⟨⟨[], [], beside_new⟩, rfl, rfl⟩

theorem Shape.step {F : FS} {d : DF} (h : Shape F d) (hG : F.Good) (o : OpE) : Shape (F.stepE o) (d.stepO o) := by
  obtain ⟨⟨mv, me, hb⟩, e1, e2⟩ := h
  obtain ⟨vs, es, mv0, me0⟩ := d
  have e1 : mv0 = [] := e1
  have e2 : me0 = [] := e2
  subst e1 e2
  have hb : Beside F ⟨vs, es, mv, me⟩ := hb
  unfold FS.stepE DF.stepO
  by_cases k1 : o.kd = 1
  · rw [if_pos k1, if_pos k1]
    have h1 := hb.addA hG o.u
    have q : (DF.addE ⟨vs, es, [], []⟩ o.u) = DF.addE ⟨vs, es, mv, me⟩ o.u := rfl
    unfold DF.addA at h1 ⊢
    rw [q]
    by_cases h0 : DF.addE ⟨vs, es, mv, me⟩ o.u = 0
    · rw [if_pos h0] at h1 ⊢
      exact ⟨⟨_, _, h1⟩, rfl, rfl⟩
    · rw [if_neg h0] at h1 ⊢
      exact ⟨⟨_, _, h1⟩, rfl, rfl⟩
  rw [if_neg k1, if_neg k1]
  by_cases k2 : o.kd = 2
  · rw [if_pos k2, if_pos k2]
    have h1 := hb.delA hG o.u
    have q : (DF.delE ⟨vs, es, [], []⟩ o.u) = DF.delE ⟨vs, es, mv, me⟩ o.u := rfl
    unfold DF.delA at h1 ⊢
    rw [q]
    by_cases h0 : DF.delE ⟨vs, es, mv, me⟩ o.u = 0
    · rw [if_pos h0] at h1 ⊢
      exact ⟨⟨_, _, h1⟩, rfl, rfl⟩
    · rw [if_neg h0] at h1 ⊢
      exact ⟨⟨_, _, h1⟩, rfl, rfl⟩
  rw [if_neg k2, if_neg k2]
  by_cases k3 : o.kd = 3
  · rw [if_pos k3, if_pos k3]
    have h1 := hb.linkA o.id o.u o.v
    have q : (DF.linkE ⟨vs, es, [], []⟩ o.id o.u o.v) = DF.linkE ⟨vs, es, mv, me⟩ o.id o.u o.v := rfl
    unfold DF.linkA at h1 ⊢
    rw [q]
    by_cases h0 : DF.linkE ⟨vs, es, mv, me⟩ o.id o.u o.v = 0
    · rw [if_pos h0] at h1 ⊢
      exact ⟨⟨_, _, h1⟩, rfl, rfl⟩
    · rw [if_neg h0] at h1 ⊢
      exact ⟨⟨_, _, h1⟩, rfl, rfl⟩
  rw [if_neg k3, if_neg k3]
  by_cases k4 : o.kd = 4
  · rw [if_pos k4, if_pos k4]
    have h1 := hb.cutA o.id
    have q : (DF.cutE ⟨vs, es, [], []⟩ o.id) = DF.cutE ⟨vs, es, mv, me⟩ o.id := rfl
    unfold DF.cutA at h1 ⊢
    rw [q]
    by_cases h0 : DF.cutE ⟨vs, es, mv, me⟩ o.id = 0
    · rw [if_pos h0] at h1 ⊢
      exact ⟨⟨_, _, h1⟩, rfl, rfl⟩
    · rw [if_neg h0] at h1 ⊢
      exact ⟨⟨_, _, h1⟩, rfl, rfl⟩
  rw [if_neg k4, if_neg k4]
  by_cases k5 : o.kd = 5
  · rw [if_pos k5]
    by_cases hin : o.u ∈ F.vs
    · exact ⟨⟨_, _, (hb.markVA hG o.u o.on hin).2⟩, rfl, rfl⟩
    · rw [(hb.markVA_no hG o.u o.on hin).2]
      exact ⟨⟨_, _, hb⟩, rfl, rfl⟩
  rw [if_neg k5]
  by_cases k6 : o.kd = 6
  · rw [if_pos k6]
    by_cases hin : o.id ∈ ids F.edges
    · exact ⟨⟨_, _, (hb.markEA hG o.id o.on hin).2⟩, rfl, rfl⟩
    · rw [(hb.markEA_no hG o.id o.on hin).2]
      exact ⟨⟨_, _, hb⟩, rfl, rfl⟩
  rw [if_neg k6]
  exact ⟨⟨_, _, hb⟩, rfl, rfl⟩

theorem Shape.fit {F : FS} {d : DF} (h : Shape F d) (hG : F.Good) : d.Fit ∧ d.mv.length ≤ 4096 ∧ d.me.length ≤ 4096 := by
  obtain ⟨⟨mv, me, hb⟩, e1, e2⟩ := h
  have h1 := (hb.fit hG).1
  exact ⟨⟨h1.nd, h1.ends, h1.nv, h1.ne⟩, by rw [e1]; simp, by rw [e2]; simp⟩

/-! ### An edge is the only way between its ends -/

section

variable {V : Type} {M : RM V} {pv : Int → Option Nat} {pe : Int → Option (Nat × Nat)} {who : List Tok} {free : List Nat} {edges : List Edg} {W : List (List Nat)}

theorem FOk.bridge (h0 : FOk M pv pe who free edges W) {id p q : Int} (he : (id, p, q) ∈ edges) : ¬ Conn (edges.filter fun e => !decide (e.1 = id)) p q := by
  obtain ⟨⟨p0, p1⟩, hpe⟩ := Option.ne_none_iff_exists'.1 ((h0.has id).1 (List.mem_map.2 ⟨_, he, rfl⟩))
  obtain ⟨hne, w0, w1, t0, t1⟩ := h0.edge id p0 p1 hpe
  obtain ⟨xs, hxs, hp0⟩ := List.mem_flatten.1 w0
  have h := h0.perm (List.perm_cons_erase hxs)
  obtain ⟨es, ht, hes⟩ := h.tour xs (by simp)
  obtain ⟨hp1, hnd⟩ := h.pair hpe hp0 ht
  obtain ⟨f, l, A, X, B, hx, ho⟩ := two_split hp0 hp1 hne
  have tf : tok who f = et id ∧ tok who l = et id := by
    rcases ho with ⟨rfl, rfl⟩ | ⟨rfl, rfl⟩
    · exact ⟨t0, t1⟩
    · exact ⟨t1, t0⟩
  have k1 := ht
  rw [hx, List.map_append, List.map_cons, List.map_append, List.map_cons, tf.1, tf.2] at k1
  obtain ⟨es1, es2, p', q', hc⟩ := tour_cuts k1 hnd id (X.map (tok who)) (B.map (tok who) ++ A.map (tok who)) ⟨A.map (tok who), et id :: (X.map (tok who) ++ et id :: B.map (tok who)), rfl, by simp⟩
  have hin : (id, p', q') ∈ es := hc.perm.mem_iff.2 (List.mem_cons_self ..)
  obtain ⟨rfl, rfl⟩ := ids_inj h.nd (hes _ hin) he
  have hxn : xs.Nodup := row_nodup h.ok (h.rows.mem_iff.2 (List.mem_cons_self ..))
  have flat : ∀ c ∈ xs, c ∈ (xs :: W.erase xs).flatten := fun c hc => by rw [List.flatten_cons]; exact List.mem_append_left _ hc
  have inX : ∀ c ∈ X, c ∈ xs := fun c hc => by rw [hx]; simp [hc]
  have inY : ∀ c, c ∈ B ∨ c ∈ A → c ∈ xs := fun c hc => by rw [hx]; rcases hc with h | h <;> simp [h]
  -- no vertex stands in both parts
  have disj : ∀ v, vt v ∈ X.map (tok who) → ¬ vt v ∈ B.map (tok who) ++ A.map (tok who) := by
    intro v h1 h2
    obtain ⟨c1, m1, e1⟩ := List.mem_map.1 h1
    rw [List.mem_append, List.mem_map, List.mem_map] at h2
    obtain ⟨c2, m2, e2⟩ : ∃ c2, (c2 ∈ B ∨ c2 ∈ A) ∧ tok who c2 = vt v := by
      rcases h2 with ⟨c, m, e⟩ | ⟨c, m, e⟩
      · exact ⟨c, .inl m, e⟩
      · exact ⟨c, .inr m, e⟩
    have g1 := (h.vert v c1).2 ⟨flat _ (inX _ m1), e1⟩
    have g2 := (h.vert v c2).2 ⟨flat _ (inY _ m2), e2⟩
    rw [g1] at g2
    injection g2 with g2
    subst g2
    rw [hx] at hxn
    obtain ⟨nA, nB, nAB⟩ := List.nodup_append.1 hxn
    obtain ⟨-, nXB⟩ := List.nodup_cons.1 nB
    obtain ⟨-, -, nX⟩ := List.nodup_append.1 nXB
    rcases m2 with m2 | m2
    · exact nX c1 m1 c1 (List.mem_cons_of_mem _ m2) rfl
    · exact nAB c1 m2 c1 (by simp [m1]) rfl
  -- no vertex of another walk stands in this one
  have mine : ∀ v c, pv v = some c → vt v ∈ X.map (tok who) → c ∈ xs := by
    intro v c hv h1
    obtain ⟨c1, m1, e1⟩ := List.mem_map.1 h1
    have g1 := (h.vert v c1).2 ⟨flat _ (inX _ m1), e1⟩
    rw [hv] at g1
    injection g1 with g1
    rw [g1]; exact inX _ m1
  have key : ∀ j a b, (j, a, b) ∈ (edges.filter fun e => !decide (e.1 = id)) → (vt a ∈ X.map (tok who) ↔ vt b ∈ X.map (tok who)) := by
    intro j a b hj
    obtain ⟨hj1, hj2⟩ := List.mem_filter.1 hj
    have hjn : j ≠ id := by simpa using hj2
    obtain ⟨zs, hz, x, y, hxz, hyz, px, py⟩ := h.ends hj1
    by_cases hzx : x ∈ xs
    · have hze : zs = xs := by rw [← (h.row hz hxz).1, ← (h.row (List.mem_cons_self ..) hzx).1]
      subst hze
      -- the edge is one of this walk's
      have hje : (j, a, b) ∈ es := by
        obtain ⟨us, hu, b0, c0, x0, y0, g1, g2, g3, g4, g5, g6⟩ := h.ends2 hj1
        have hus : us = zs := by
          rw [px] at g5
          injection g5 with g5
          subst g5
          rw [← (h.row hu g3).1, ← (h.row hz hxz).1]
        subst hus
        obtain ⟨-, -, -, tb, -⟩ := h.edge j b0 c0 g1
        obtain ⟨e, me, ee⟩ := List.mem_map.1 ((tour_et ht).1 (List.mem_map.2 ⟨b0, g2, tb⟩))
        obtain ⟨i1, a1, b1⟩ := e
        have ee : i1 = j := ee
        subst ee
        obtain ⟨rfl, rfl⟩ := ids_inj h.nd (hes _ me) hj1
        exact me
      have hje2 := hc.perm.mem_iff.1 hje
      rcases List.mem_cons.1 hje2 with e | e
      · injection e with e
        exact absurd e hjn
      · rcases List.mem_append.1 e with e | e
        · have := tour_ends hc.fst j a b e
          exact ⟨fun _ => this.2, fun _ => this.1⟩
        · have := tour_ends hc.snd j a b e
          exact ⟨fun h1 => absurd this.1 (disj _ h1), fun h1 => absurd this.2 (disj _ h1)⟩
    · have hzy : y ∉ xs := by
        intro hy
        have hze : zs = xs := by rw [← (h.row hz hyz).1, ← (h.row (List.mem_cons_self ..) hy).1]
        exact hzx (hze ▸ hxz)
      exact ⟨fun h1 => absurd (mine a x px h1) hzx, fun h1 => absurd (mine b y py h1) hzy⟩
  intro hcn
  rcases hc.ends with ⟨e1, e2⟩ | ⟨e1, e2⟩
  · exact disj _ (conn_stays (S := fun v => vt v ∈ X.map (tok who)) key hcn e1) e2
  · exact disj _ (conn_stays (S := fun v => vt v ∈ X.map (tok who)) key hcn.symm e1) e2

end

theorem FS.Good.bridge {F : FS} (h : F.Good) {id p q : Int} (he : (id, p, q) ∈ F.edges) : ¬ Conn (F.edges.filter fun e => !decide (e.1 = id)) p q := by
  obtain ⟨W, hW⟩ := h.ok
  exact hW.bridge he

/-! ### Which end is named first -/

def flipE (e : Edg) : Edg := (e.1, e.2.2, e.2.1)

theorem conn_flip {es fs : List Edg} (hs : ∀ i p q, (i, p, q) ∈ es → (i, q, p) ∈ fs) {u v : Int} (h : Conn es u v) : Conn fs u v := by
  induction h with
  | refl => exact .refl _
  | step _ he hx ih => exact .step ih (hs _ _ _ he) hx.symm

/-- Two forests of the same vertices, and the same edges the other way round. -/
structure Turned (F G : FS) : Prop where
  vs : ∀ v, v ∈ F.vs ↔ v ∈ G.vs
  es : ∀ i p q, (i, p, q) ∈ F.edges ↔ (i, q, p) ∈ G.edges

theorem Turned.conn {F G : FS} (h : Turned F G) (u v : Int) : Conn F.edges u v ↔ Conn G.edges u v :=
  ⟨conn_flip fun i p q => (h.es i p q).1, conn_flip fun i p q hm => (h.es i q p).2 hm⟩

theorem Turned.treeV {F G : FS} (h : Turned F G) {u : Int} (hu : u ∈ F.vs) : G.treeV u = F.treeV u := by
  refine rise_unique (G.riseV ((h.vs u).1 hu)) ((F.riseV hu).congr fun i => ?_)
  unfold FS.inV
  rw [h.vs i, h.conn]

theorem Turned.treeE {F G : FS} (h : Turned F G) {u : Int} (hu : u ∈ F.vs) : G.treeE u = F.treeE u := by
  refine rise_unique (G.riseE ((h.vs u).1 hu)) ((F.riseE hu).congr fun i => ?_)
  unfold FS.inE
  constructor
  · rintro ⟨p, q, h1, h2⟩
    exact ⟨q, p, (h.es _ _ _).1 h1, ((h.conn u p).1 h2).trans (Conn.one ((h.es _ _ _).1 h1)).2⟩
  · rintro ⟨p, q, h1, h2⟩
    exact ⟨q, p, (h.es _ _ _).2 h1, ((h.conn u p).2 h2).trans (Conn.one ((h.es _ _ _).2 h1)).2⟩

/-! ### The second forest, vertex by vertex, edge by edge -/

/-- So many vertices are there, and no edge. -/
structure Grow (G : FS) (vs : List Int) (es : List Edg) : Prop where
  vs : G.vs = vs
  es : G.edges = es.map flipE

theorem Grow.new : Grow FS.new [] [] := ⟨rfl, rfl⟩

theorem Grow.add {G : FS} {vs : List Int} (h : Grow G vs []) {v : Int} (hv : 1 ≤ v ∧ v ≤ 2147483647) (hn : v ∉ vs) (hl : vs.length < 2048) : G.addE v = 0 ∧ Grow (G.addA v) (v :: vs) [] := by
  have e : G.addE v = 0 := by unfold FS.addE; rw [if_pos hv, if_neg (by rw [h.vs]; exact hn), if_neg (by rw [h.vs]; omega)]
  have e2 : G.addA v = G.addv v := by unfold FS.addA; rw [if_pos e]
  rw [e2]
  exact ⟨e, by show v :: G.vs = _; rw [h.vs], h.es⟩

theorem Grow.link {F G : FS} {vs : List Int} {es : List Edg} (h : Grow G vs es) (hF : F.Good) (hv : ∀ v, v ∈ F.vs → v ∈ vs) {id u v : Int} (he : (id, u, v) ∈ F.edges) (hsub : ∀ e ∈ es, e ∈ F.edges ∧ e.1 ≠ id) : G.linkE id v u = 0 ∧ Grow (G.linkA id v u) vs ((id, u, v) :: es) := by
  obtain ⟨hu, hvv⟩ := good_ends hF he
  have o1 : okId id := hF.eid id (List.mem_map.2 ⟨_, he, rfl⟩)
  have o2 : okId u := hF.vid u hu
  have o3 : okId v := hF.vid v hvv
  have n1 : id ∉ ids G.edges := by
    rw [h.es]
    intro hm
    obtain ⟨e, m, e1⟩ := List.mem_map.1 hm
    obtain ⟨x, mx, rfl⟩ := List.mem_map.1 m
    exact (hsub x mx).2 e1
  have n2 : ¬ Conn G.edges v u := by
    intro hcn
    rw [h.es] at hcn
    have h1 : Conn (F.edges.filter fun e => !decide (e.1 = id)) v u := conn_flip (fun i p q hm => by
      obtain ⟨x, mx, e⟩ := List.mem_map.1 hm
      obtain ⟨i', p', q'⟩ := x
      injection e with e1 e2
      injection e2 with e2 e3
      have e1 : i' = i := e1
      have e2 : q' = p := e2
      have e3 : p' = q := e3
      subst e1 e2 e3
      obtain ⟨g1, g2⟩ := hsub _ mx
      exact List.mem_filter.2 ⟨g1, by simpa using g2⟩) hcn
    exact hF.bridge he h1.symm
  have e0 : G.linkE id v u = 0 := by
    unfold FS.linkE
    rw [if_pos ⟨o1, o3, o2⟩, if_neg n1, if_pos ⟨by rw [h.vs]; exact hv v hvv, by rw [h.vs]; exact hv u hu⟩, if_neg n2]
  refine ⟨e0, ?_⟩
  unfold FS.linkA
  rw [if_pos e0]
  exact ⟨h.vs, by show (id, v, u) :: G.edges = _; rw [h.es]; rfl⟩

end Go.Proofs.Ytlakcldgolpaiaa

/-
  Two forests of the program in memory, and the document's in a box. No walk.
-/
namespace Go.Proofs.Ytlakcldgolpaiaa
open Go.RowKit Go.Maps
set_option linter.unusedVariables false

theorem FB.base {B B' : Nat} {Q : Nat → Prop} {w : World} {f : Nat} {F : FS} (h : FB B' Q w f F) (hb : B ≤ B') : FB B Q w f F := by
  obtain ⟨S, h1, h2, h3⟩ := h
  exact ⟨S, h1, fun k hk => ⟨Nat.le_trans hb (h2 k hk).1, (h2 k hk).2⟩, h3⟩

theorem FR.far {w : World} {f p i t : Nat} {S : Nat → Prop} {F : FS} {cs : Array Value} (h : FR w f S F) (hb : Blk w p t cs) (hn : NotF t) (u : Value) : FR (w.setCell ⟨p, i, none⟩ u) f S F :=
  ⟨h.1.frame (T := fun k => k = p) ((Mod.refl (fun k => k = p) _).setCell (p := ⟨p, i, none⟩) (fun _ => rfl) _) (fun k hk e => h.1.types hk (e ▸ hb) hn), h.2⟩

/-- A forest of whose blocks none turns stays. -/
theorem FR.kept {w w' : World} {f B : Nat} {S Q : Nat → Prop} {F : FS} (h : FR w f S F) (hs : ∀ k, S k → Q k) (ht : TameF B Q w w') : FR w' f S F :=
  ⟨h.1.frame (T := fun k => ¬ Q k) ⟨ht.below.os, ht.below.tape, ht.below.output, ht.size, fun k hk hn => ht.kept k (Classical.not_not.1 hn) hk⟩ (fun k hk e => e (hs k hk)), h.2⟩

structure OrdX (w wr : World) (f : Nat) (F : FS) (g : Nat) (G : FS) (p : Nat) (d : DF) (a b c e : Value) (Q Sf : Nat → Prop) : Prop where
  g_ : FB w.heap.size Q wr g G
  f_ : FR wr f Sf F
  sub : ∀ k, Sf k → Q k
  low : Below w.heap.size w wr
  doc : DocR wr wr.heap.size a b c e d
  qa : InQ Q a d.vs
  qb : InQ Q b d.es
  qc : InQ Q c d.mv
  qe : InQ Q e d.me
  box : Blk wr p 31 #[a, b, c, e]
  lo : w.heap.size ≤ p
  oa : InQ (fun k => k ≠ p) a d.vs
  ob : InQ (fun k => k ≠ p) b d.es
  oc : InQ (fun k => k ≠ p) c d.mv
  oe : InQ (fun k => k ≠ p) e d.me

/-- Two forests of the program, none of whose calls turns the other's blocks or the document's rows; the document's forest in the box p. -/
def Ord (w wr : World) (f : Nat) (F : FS) (g : Nat) (G : FS) (p : Nat) (d : DF) (a b c e : Value) : Prop := ∃ Q Sf, OrdX w wr f F g G p d a b c e Q Sf

section

variable {w wr w' : World} {f g p : Nat} {F G G' : FS} {d d' : DF} {a b c e a' b' c' e' : Value}

theorem Ord.good (h : Ord w wr f F g G p d a b c e) : F.Good := by obtain ⟨Q, Sf, h⟩ := h; exact h.f_.2

theorem Ord.low (h : Ord w wr f F g G p d a b c e) : Below w.heap.size w wr := by obtain ⟨Q, Sf, h⟩ := h; exact h.low

theorem Ord.doc (h : Ord w wr f F g G p d a b c e) : DocR wr wr.heap.size a b c e d := by obtain ⟨Q, Sf, h⟩ := h; exact h.doc

theorem Ord.box (h : Ord w wr f F g G p d a b c e) : Blk wr p 31 #[a, b, c, e] := by obtain ⟨Q, Sf, h⟩ := h; exact h.box

theorem Ord.four (h : Ord w wr f F g G p d a b c e) : wr.cell? ⟨p, 0, none⟩ = some a ∧ wr.cell? ⟨p, 1, none⟩ = some b ∧ wr.cell? ⟨p, 2, none⟩ = some c ∧ wr.cell? ⟨p, 3, none⟩ = some e := ⟨h.box.cell 0, h.box.cell 1, h.box.cell 2, h.box.cell 3⟩

theorem Ord.below (h : Ord w wr f F g G p d a b c e) (hb : Below wr.heap.size wr w') : Ord w w' f F g G p d a b c e := by
  obtain ⟨Q, Sf, h⟩ := h
  exact ⟨Q, Sf, h.g_.below hb, h.f_.below hb, h.sub, h.low.trans (hb.mono h.low.size), h.doc.stay hb, h.qa, h.qb, h.qc, h.qe, h.box.below hb h.box.lt, h.lo, h.oa, h.ob, h.oc, h.oe⟩

/-- The document's forest is another one from now on. -/
theorem Ord.docTurn (h : Ord w wr f F g G p d a b c e) (hb : Below wr.heap.size wr w') (hd : DocR w' w'.heap.size a' b' c' e' d') (n1 : OldNew wr a a') (n2 : OldNew wr b b') (n3 : OldNew wr c c') (n4 : OldNew wr e e') :
    Ord w ((((w'.setCell ⟨p, 0, none⟩ a').setCell ⟨p, 1, none⟩ b').setCell ⟨p, 2, none⟩ c').setCell ⟨p, 3, none⟩ e') f F g G p d' a' b' c' e' := by
  obtain ⟨Q, Sf, h⟩ := h
  have lt := h.box.lt
  have q1 := off_keep h.oa h.doc.vs hd.vs n1 lt
  have q2 := off_keep h.ob h.doc.es hd.es n2 lt
  have q3 := off_keep h.oc h.doc.mv hd.mv n3 lt
  have q4 := off_keep h.oe h.doc.me hd.me n4 lt
  have hx := h.box.below hb lt
  have hg : FB w.heap.size (fun k => Q k ∨ wr.heap.size ≤ k ∧ k < w'.heap.size) w' g G := h.g_.more hb fun k hk => hk
  have hf := h.f_.below hb
  have hh : ∀ k, k ≠ p → ((((w'.setCell ⟨p, 0, none⟩ a').setCell ⟨p, 1, none⟩ b').setCell ⟨p, 2, none⟩ c').setCell ⟨p, 3, none⟩ e').heap[k]? = w'.heap[k]? := fun k hk => heap4 hk _ _ _ _
  have hsz : w'.heap.size ≤ ((((w'.setCell ⟨p, 0, none⟩ a').setCell ⟨p, 1, none⟩ b').setCell ⟨p, 2, none⟩ c').setCell ⟨p, 3, none⟩ e').heap.size := by simp
  have hl := h.low.trans (hb.mono h.low.size)
  refine ⟨_, Sf, (((hg.far hx notF_D a').far (hx.set_ 0 a') notF_D b').far ((hx.set_ 0 a').set_ 1 b') notF_D c').far (((hx.set_ 0 a').set_ 1 b').set_ 2 c') notF_D e', (((hf.far hx notF_D a').far (hx.set_ 0 a') notF_D b').far ((hx.set_ 0 a').set_ 1 b') notF_D c').far (((hx.set_ 0 a').set_ 1 b').set_ 2 c') notF_D e', fun k hk => .inl (h.sub k hk), ?_, ?_, inQ_step h.doc.vs hd.vs h.qa n1, inQ_step h.doc.es hd.es h.qb n2, inQ_step h.doc.mv hd.mv h.qc n3, inQ_step h.doc.me hd.me h.qe n4, (((hx.set_ 0 a').set_ 1 b').set_ 2 c').set_ 3 e', h.lo, q1, q2, q3, q4⟩
  · exact (((hl.setCell (p := ⟨p, 0, none⟩) h.lo a').setCell (p := ⟨p, 1, none⟩) h.lo b').setCell (p := ⟨p, 2, none⟩) h.lo c').setCell (p := ⟨p, 3, none⟩) h.lo e'
  · exact ⟨rk_far hd.vs (fun k hx hk => hh k (q1 hx k hk)) hsz, rk_far hd.es (fun k hx hk => hh k (q2 hx k hk)) hsz, rk_far hd.mv (fun k hx hk => hh k (q3 hx k hk)) hsz, rk_far hd.me (fun k hx hk => hh k (q4 hx k hk)) hsz⟩

/-- The second forest turns. -/
theorem OrdX.turn {Q Sf : Nat → Prop} (h : OrdX w wr f F g G p d a b c e Q Sf) (hF : FB w.heap.size Q w' g G') (ht : TameF w.heap.size Q wr w') : Ord w w' f F g G' p d a b c e :=
  ⟨Q, Sf, hF, h.f_.kept h.sub ht, h.sub, h.low.trans ht.below, ⟨row_stay h.doc.vs ht h.qa, row_stay h.doc.es ht h.qb, row_stay h.doc.mv ht h.qc, row_stay h.doc.me ht h.qe⟩, h.qa, h.qb, h.qc, h.qe, ht.blk h.box notF_D, h.lo, h.oa, h.ob, h.oc, h.oe⟩

theorem oAdd (h : Ord w wr f F g G p d a b c e) (v : Int) (hv : I64 v) : Calls Try.prog 32 #[.pointer (some ⟨g, 0, none⟩), .int .i64 v] wr fun r w' => r = .returned (.int .i64 (G.addE v)) ∧ Ord w w' f F g (G.addA v) p d a b c e := by
  obtain ⟨Q, Sf, h⟩ := h
  refine (bAddV w.heap.size Q wr g G h.g_ h.low.size v hv).mono ?_
  rintro r w' ⟨rfl, hF, ht⟩
  exact ⟨rfl, h.turn hF ht⟩

theorem oLink (h : Ord w wr f F g G p d a b c e) (id u v : Int) (hi : I64 id) (hu : I64 u) (hv : I64 v) : Calls Try.prog 18 #[.pointer (some ⟨g, 0, none⟩), .int .i64 id, .int .i64 u, .int .i64 v] wr fun r w' => r = .returned (.int .i64 (G.linkE id u v)) ∧ Ord w w' f F g (G.linkA id u v) p d a b c e := by
  obtain ⟨Q, Sf, h⟩ := h
  refine (bLink w.heap.size Q wr g G h.g_ h.low.size id u v hi hu hv).mono ?_
  rintro r w' ⟨rfl, hF, ht⟩
  exact ⟨rfl, h.turn hF ht⟩

theorem oVertsF (h : Ord w wr f F g G p d a b c e) (u : Int) (hu : I64 u) : Calls Try.prog 16 #[.pointer (some ⟨f, 0, none⟩), .int .i64 u] wr fun r w' => ∃ v, r = .returned (.tuple #[v, .int .i64 (F.errV u)]) ∧ OK encI 1 3 w' wr.heap.size v (F.treeV u) ∧ Below wr.heap.size wr w' := by
  obtain ⟨Q, Sf, h⟩ := h
  exact fVerts wr f Sf F h.f_ u hu

theorem oEdgesF (h : Ord w wr f F g G p d a b c e) (u : Int) (hu : I64 u) : Calls Try.prog 17 #[.pointer (some ⟨f, 0, none⟩), .int .i64 u] wr fun r w' => ∃ v, r = .returned (.tuple #[v, .int .i64 (F.errV u)]) ∧ OK encI 1 3 w' wr.heap.size v (F.treeE u) ∧ Below wr.heap.size wr w' := by
  obtain ⟨Q, Sf, h⟩ := h
  exact fEdges wr f Sf F h.f_ u hu

theorem oVertsG (h : Ord w wr f F g G p d a b c e) (u : Int) (hu : I64 u) : Calls Try.prog 16 #[.pointer (some ⟨g, 0, none⟩), .int .i64 u] wr fun r w' => ∃ v, r = .returned (.tuple #[v, .int .i64 (G.errV u)]) ∧ OK encI 1 3 w' wr.heap.size v (G.treeV u) ∧ Below wr.heap.size wr w' := by
  obtain ⟨Q, Sf, h⟩ := h
  exact bVerts w.heap.size Q wr g G h.g_ u hu

theorem oEdgesG (h : Ord w wr f F g G p d a b c e) (u : Int) (hu : I64 u) : Calls Try.prog 17 #[.pointer (some ⟨g, 0, none⟩), .int .i64 u] wr fun r w' => ∃ v, r = .returned (.tuple #[v, .int .i64 (G.errV u)]) ∧ OK encI 1 3 w' wr.heap.size v (G.treeE u) ∧ Below wr.heap.size wr w' := by
  obtain ⟨Q, Sf, h⟩ := h
  exact bEdges w.heap.size Q wr g G h.g_ u hu

theorem oLenF (h : Ord w wr f F g G p d a b c e) : Calls Try.prog 12 #[.pointer (some ⟨f, 0, none⟩)] wr fun r w' => r = .returned (.int .i64 (F.vs.length : Nat)) ∧ w' = wr := by
  obtain ⟨Q, Sf, h⟩ := h
  exact fLenR wr f Sf F h.f_

theorem oLenG (h : Ord w wr f F g G p d a b c e) : Calls Try.prog 12 #[.pointer (some ⟨g, 0, none⟩)] wr fun r w' => r = .returned (.int .i64 (G.vs.length : Nat)) ∧ w' = wr := by
  obtain ⟨Q, Sf, h⟩ := h
  exact bLen w.heap.size Q wr g G h.g_

end

end Go.Proofs.Ytlakcldgolpaiaa

/-
  The walk of EulerOrder.
-/
namespace Go.Proofs.Ytlakcldgolpaiaa
open Go.RowKit Go.Maps
set_option linter.unusedVariables false

theorem stepO_1 (d : DF) (id u v : Int) (on : Bool) : d.stepO ⟨1, id, u, v, on⟩ = d.addA u := by unfold DF.stepO; simp

theorem stepO_2 (d : DF) (id u v : Int) (on : Bool) : d.stepO ⟨2, id, u, v, on⟩ = d.delA u := by unfold DF.stepO; simp

theorem stepO_3 (d : DF) (id u v : Int) (on : Bool) : d.stepO ⟨3, id, u, v, on⟩ = d.linkA id u v := by unfold DF.stepO; simp

theorem stepO_4 (d : DF) (id u v : Int) (on : Bool) : d.stepO ⟨4, id, u, v, on⟩ = d.cutA id := by unfold DF.stepO; simp

theorem stepO_0 (d : DF) {kd id u v : Int} {on : Bool} (h1 : kd ≠ 1) (h2 : kd ≠ 2) (h3 : kd ≠ 3) (h4 : kd ≠ 4) : d.stepO ⟨kd, id, u, v, on⟩ = d := by unfold DF.stepO; simp [h1, h2, h3, h4]

/-- Behind the script: the document's forest in its box, the second forest empty. -/
def OMid (w : World) (f : Nat) (F : FS) (g : Nat) (G : FS) (p : Nat) (d : DF) (a b c e : Value) (wr : World) : Prop := Ord w wr f F g G p d a b c e ∧ Shape F d

set_option maxRecDepth 100000 in
set_option maxHeartbeats 16000000 in
theorem eulerOrder_walk (w : World) (v0 : Value) (ss : List Int) (v1 : Value) (ts : List Int) (v2 : Value) (os : List OpE) (h0 : RI w w.heap.size v0 ss) (h1 : RI w w.heap.size v1 ts) (hs : ScrE w v2 os) :
    Calls Try.prog 6 #[v0, v1, v2] w fun e w' => e = .returned (.bool true) ∧ Below w.heap.size w w' := by
  have hf := filled_any w v0 ss v2 os h0 hs
  have hg : ∀ w1, Below w.heap.size w w1 → ∀ Q : Nat → Prop, (∀ k, Q k → k < w1.heap.size) → Calls Try.prog 8 #[v1] w1 fun e w' => ∃ f, e = .returned (.pointer (some ⟨f, 0, none⟩)) ∧ FB w1.heap.size Q w' f FS.new ∧ Below w1.heap.size w1 w' := fun w1 hb Q hq => bNew w1 v1 ts ((h1.below hb).more hb.size) Q hq
  obtain ⟨A0, c0, hv0, -, -, -, -⟩ := h0.open_
  obtain ⟨n0, hn0⟩ : ∃ n0, n0 = ss.length := ⟨_, rfl⟩
  rw [← hn0] at hv0
  subst hv0
  obtain ⟨A1, c1, hv1, -, -, -, -⟩ := h1.open_
  obtain ⟨nt, hnt⟩ : ∃ nt, nt = ts.length := ⟨_, rfl⟩
  rw [← hnt] at hv1
  subst hv1
  obtain ⟨A, c, rfl, hc1, hc2, hc3, HC⟩ := hs.rk.open_
  obtain ⟨n, hn⟩ : ∃ n, n = os.length := ⟨_, rfl⟩
  rw [← hn] at hc1 hc3 hf ⊢
  have HN := Lib.hid hn
  have HA := Lib.hid hs.at_
  have HF := Lib.hid hf
  have HG := Lib.hid hg
  clear h0 h1 hs hn0 hnt hn hf hg
  go_enter Try.func6, Try.ntmps6
  go_wp2_with fail
  refine HF.out.mono ?_
  rintro e w1 ⟨f, rfl, h1, b1⟩
  obtain ⟨Sf, f1, f2, -⟩ := h1
  have FQ := Lib.hid f1
  have B1 := Lib.hid b1
  clear f1 f2 b1
  obtain ⟨F, hF⟩ : ∃ F, F = FS.new.runsE os := ⟨_, rfl⟩
  rw [← hF] at FQ
  have HFE := Lib.hid hF
  clear hF
  go_wp2_with fail
  refine (HG.out w1 B1.out Sf (fun k hk => FQ.out.1.lt hk)).mono ?_
  rintro e w2 ⟨g, rfl, g1, b2⟩
  have G2 := Lib.hid (g1.base B1.out.size)
  have F2 := Lib.hid (FQ.out.below b2)
  have B2 := Lib.hid (B1.out.trans (b2.mono B1.out.size))
  clear g1 b2
  go_wp2_with fail
  refine (alive_any w2).mono ?_
  rintro e w3 ⟨rfl, b3⟩
  obtain ⟨W3, hW3⟩ : ∃ W3, W3 = w3.alloc (.cells #[.slice none 0 0, .slice none 0 0, .slice none 0 0, .slice none 0 0] 31) := ⟨_, rfl⟩
  obtain ⟨p, hp⟩ : ∃ p, p = w3.heap.size := ⟨_, rfl⟩
  have hb3 : Below w2.heap.size w2 W3 := by rw [hW3]; exact b3.alloc b3.size _
  have hlo : w.heap.size ≤ p := by rw [hp]; exact Nat.le_trans B2.out.size b3.size
  have hord : Ord w W3 f F g FS.new p ⟨[], [], [], []⟩ (.slice none 0 0) (.slice none 0 0) (.slice none 0 0) (.slice none 0 0) :=
    ⟨Sf, Sf, G2.out.below hb3, F2.out.below hb3, fun k hk => hk, B2.out.trans (hb3.mono B2.out.size), ⟨RK.nil _ _, RK.nil _ _, RK.nil _ _, RK.nil _ _⟩, fun h => absurd rfl h, fun h => absurd rfl h, fun h => absurd rfl h, fun h => absurd rfl h, by rw [hW3, hp]; exact Blk.new _ _ _, hlo, fun h => absurd rfl h, fun h => absurd rfl h, fun h => absurd rfl h, fun h => absurd rfl h⟩
  have HW3 := Lib.hid hW3
  have HP := Lib.hid hp
  have OR := Lib.hid hord
  clear hW3 hp hb3 hlo hord b3
  go_upto_region 6 with fail
  rw [← HW3.out]
  try simp only [← HP.out]
  clear HW3 HP HG HF FQ G2 F2 B1 B2
  go_wp2_with fail
  go_loopw [51] (fun i wr => ∃ (k : Nat) (d : DF) (X0 : Option Addr) (n0 m0 : Nat) (X1 : Option Addr) (n1 m1 : Nat) (X2 : Option Addr) (n2 m2 : Nat) (X3 : Option Addr) (n3 m3 : Nat), k ≤ n ∧ i = .int .i64 k ∧ Hid (Ord w wr f F g FS.new p d (.slice X0 n0 m0) (.slice X1 n1 m1) (.slice X2 n2 m2) (.slice X3 n3 m3)) ∧ Hid (Shape (FS.new.runsE (os.take k)) d)) (fun i _ => n - (intOf i).toNat)
  case atStart => exact ⟨0, _, _, _, _, _, _, _, _, _, _, _, _, _, Nat.zero_le _, rfl, OR, Lib.hid shape_new⟩
  case round =>
    clear OR
    obtain ⟨k, d, X0, n0, m0, X1, n1, m1, X2, n2, m2, X3, n3, m3, hk, rfl, OR, SH⟩ := hrel
    by_cases hkl : k < n
    · have hko : k < os.length := by have := HN.out; omega
      have LR := Lib.hid OR.out.low
      obtain ⟨b1, o1, rfl, hb, hx⟩ := HC.out k hko
      obtain ⟨hx1, hx2, hx3, hx4, hx5⟩ := cellOp hx
      have y1 := (LR.out.cell (p := ⟨b1, o1 + k * 5, none⟩) hb).trans hx1
      have y2 := (LR.out.cell (p := ⟨b1, o1 + k * 5 + 1, none⟩) hb).trans hx2
      have y3 := (LR.out.cell (p := ⟨b1, o1 + k * 5 + 2, none⟩) hb).trans hx3
      have y4 := (LR.out.cell (p := ⟨b1, o1 + k * 5 + 3, none⟩) hb).trans hx4
      have y5 := (LR.out.cell (p := ⟨b1, o1 + k * 5 + 4, none⟩) hb).trans hx5
      have HOP := Lib.hid (HA.out os[k] (List.getElem_mem hko))
      have HTK := Lib.hid (List.take_succ_eq_append_getElem hko)
      clear hx hx1 hx2 hx3 hx4 hx5
      obtain ⟨x, hx⟩ : ∃ x, x = os[k] := ⟨_, rfl⟩
      rw [← hx] at y1 y2 y3 y4 y5 HOP HTK
      clear hx
      obtain ⟨kd, id, u, v, on⟩ := x
      dsimp only at y1 y2 y3 y4 y5
      have hkn : (k : Int) < (n : Int) := by omega
      have hkd : decide ((k : Int) < (n : Int)) = true := by simpa using hkl
      have HI : Hid (I64 id ∧ I64 u ∧ I64 v) := Lib.hid ⟨HOP.out.id, HOP.out.u, HOP.out.v⟩
      have SG : Hid (FS.new.runsE (os.take k)).Good := Lib.hid (good_runsE _ good_new)
      have SN : Hid (Shape (FS.new.runsE (os.take (k + 1))) (d.stepO ⟨kd, id, u, v, on⟩)) := Lib.hid (by rw [HTK.out, runsE_snoc]; exact SH.out.step SG.out _)
      have FT := Lib.hid (SH.out.fit SG.out)
      obtain ⟨W1, hW1⟩ : ∃ W1, W1 = wr.alloc (.cells #[.int .i64 kd, .int .i64 id, .int .i64 u, .int .i64 v, .bool on] 33) := ⟨_, rfl⟩
      obtain ⟨q, hq⟩ : ∃ q, q = wr.heap.size := ⟨_, rfl⟩
      have hbw : Below wr.heap.size wr W1 := by rw [hW1]; exact (Below.refl _ _).alloc (Nat.le_refl _) _
      have P1 := Lib.hid (OR.out.below hbw)
      have O1 : Hid (Blk W1 q 33 #[.int .i64 kd, .int .i64 id, .int .i64 u, .int .i64 v, .bool on]) := Lib.hid (by rw [hW1, hq]; exact Blk.new _ _ _)
      have HW1 := Lib.hid hW1
      have HQ := Lib.hid hq
      clear hW1 hq hbw
      go_upto_region 9 with fail
      rw [← HW1.out]
      try simp only [← HQ.out]
      clear y1 y2 y3 y4 y5 hb HTK HOP OR SH
      have HKN := Lib.hid hkl
      clear hko hkn hkd hkl
      obtain ⟨c0, c1, c2, c3⟩ := P1.out.four
      have s0 := O1.out.cell 0
      have s1 := O1.out.cell 1
      have s2 := O1.out.cell 2
      have s3 := O1.out.cell 3
      have s4 := O1.out.cell 4
      by_cases hk1 : kd = 1
      · subst hk1
        rw [stepO_1] at SN
        go_wp2_with fail
        refine (refAddV_any W1 _ _ _ _ d u P1.out.doc FT.out.1).mono ?_
        generalize d.addE u = ez
        rintro r w4 ⟨a', b', c', e', rfl, t2, b2, u1, u2, u3, u4⟩
        obtain ⟨Y0, i0, j0, Y1, i1, j1, Y2, i2, j2, Y3, i3, j3, rfl, rfl, rfl, rfl⟩ := t2.sl4
        obtain ⟨W2, hW2⟩ : ∃ W2, W2 = w4.alloc (.cells #[.slice Y0 i0 j0, .slice Y1 i1 j1, .slice Y2 i2 j2, .slice Y3 i3 j3] 31) := ⟨_, rfl⟩
        have hb2 : Below W1.heap.size W1 W2 := by rw [hW2]; exact b2.alloc b2.size _
        have hb3 : Below w4.heap.size w4 W2 := by rw [hW2]; exact (Below.refl _ _).alloc (Nat.le_refl _) _
        have kn : Blk W2 w4.heap.size 31 #[.slice Y0 i0 j0, .slice Y1 i1 j1, .slice Y2 i2 j2, .slice Y3 i3 j3] := by rw [hW2]; exact Blk.new _ _ _
        obtain ⟨q2, hq2⟩ : ∃ q2, q2 = w4.heap.size := ⟨_, rfl⟩
        rw [← hq2] at kn
        have pn := P1.out.docTurn hb2 (t2.stay hb3) u1 u2 u3 u4
        obtain ⟨W5, hW5⟩ : ∃ W5, W5 = (((W2.setCell ⟨p, 0, none⟩ (.slice Y0 i0 j0)).setCell ⟨p, 1, none⟩ (.slice Y1 i1 j1)).setCell ⟨p, 2, none⟩ (.slice Y2 i2 j2)).setCell ⟨p, 3, none⟩ (.slice Y3 i3 j3) := ⟨_, rfl⟩
        rw [← hW5] at pn
        have PN := Lib.hid pn
        have BP := Lib.hid (P1.out.box.below hb2 P1.out.box.lt)
        have HW2 := Lib.hid hW2
        have HQ2 := Lib.hid hq2
        have HW5 := Lib.hid hW5
        have g0 := kn.cell 0
        have g1 := kn.cell 1
        have g2 := kn.cell 2
        have g3 := kn.cell 3
        have z0 := BP.out.cell 0
        have z1 := BP.out.cell 1
        have z2 := BP.out.cell 2
        have z3 := BP.out.cell 3
        have f0 := BP.out.frozen 0
        have f1 := BP.out.frozen 1
        have f2 := BP.out.frozen 2
        have f3 := BP.out.frozen 3
        clear t2 b2 u1 u2 u3 u4 hb2 hb3 kn pn hW2 hq2 hW5 c0 c1 c2 c3 s0 s1 s2 s3 s4
        go_upto_region 12 with fail
        rw [← HW2.out]
        try simp only [← HQ2.out]
        go_upto_region 22 with fail
        rw [← HW5.out]
        clear g0 g1 g2 g3 z0 z1 z2 z3 f0 f1 f2 f3
        go_wp2_with fail
        go_roundw
        case rel => exact ⟨k + 1, _, _, _, _, _, _, _, _, _, _, _, _, _, HKN.out, by go_num, PN, SN⟩
        case measure => have := HKN.out; simp [intOf]; omega
      by_cases hk2 : kd = 2
      · subst hk2
        rw [stepO_2] at SN
        go_wp2_with fail
        refine (refDelV_any W1 _ _ _ _ d u P1.out.doc FT.out.1 FT.out.2.1).mono ?_
        generalize d.delE u = ez
        rintro r w4 ⟨a', b', c', e', rfl, t2, b2, u1, u2, u3, u4⟩
        obtain ⟨Y0, i0, j0, Y1, i1, j1, Y2, i2, j2, Y3, i3, j3, rfl, rfl, rfl, rfl⟩ := t2.sl4
        obtain ⟨W2, hW2⟩ : ∃ W2, W2 = w4.alloc (.cells #[.slice Y0 i0 j0, .slice Y1 i1 j1, .slice Y2 i2 j2, .slice Y3 i3 j3] 31) := ⟨_, rfl⟩
        have hb2 : Below W1.heap.size W1 W2 := by rw [hW2]; exact b2.alloc b2.size _
        have hb3 : Below w4.heap.size w4 W2 := by rw [hW2]; exact (Below.refl _ _).alloc (Nat.le_refl _) _
        have kn : Blk W2 w4.heap.size 31 #[.slice Y0 i0 j0, .slice Y1 i1 j1, .slice Y2 i2 j2, .slice Y3 i3 j3] := by rw [hW2]; exact Blk.new _ _ _
        obtain ⟨q2, hq2⟩ : ∃ q2, q2 = w4.heap.size := ⟨_, rfl⟩
        rw [← hq2] at kn
        have pn := P1.out.docTurn hb2 (t2.stay hb3) u1 u2 u3 u4
        obtain ⟨W5, hW5⟩ : ∃ W5, W5 = (((W2.setCell ⟨p, 0, none⟩ (.slice Y0 i0 j0)).setCell ⟨p, 1, none⟩ (.slice Y1 i1 j1)).setCell ⟨p, 2, none⟩ (.slice Y2 i2 j2)).setCell ⟨p, 3, none⟩ (.slice Y3 i3 j3) := ⟨_, rfl⟩
        rw [← hW5] at pn
        have PN := Lib.hid pn
        have BP := Lib.hid (P1.out.box.below hb2 P1.out.box.lt)
        have HW2 := Lib.hid hW2
        have HQ2 := Lib.hid hq2
        have HW5 := Lib.hid hW5
        have g0 := kn.cell 0
        have g1 := kn.cell 1
        have g2 := kn.cell 2
        have g3 := kn.cell 3
        have z0 := BP.out.cell 0
        have z1 := BP.out.cell 1
        have z2 := BP.out.cell 2
        have z3 := BP.out.cell 3
        have f0 := BP.out.frozen 0
        have f1 := BP.out.frozen 1
        have f2 := BP.out.frozen 2
        have f3 := BP.out.frozen 3
        clear t2 b2 u1 u2 u3 u4 hb2 hb3 kn pn hW2 hq2 hW5 c0 c1 c2 c3 s0 s1 s2 s3 s4
        go_upto_region 15 with fail
        rw [← HW2.out]
        try simp only [← HQ2.out]
        go_upto_region 22 with fail
        rw [← HW5.out]
        clear g0 g1 g2 g3 z0 z1 z2 z3 f0 f1 f2 f3
        go_wp2_with fail
        go_roundw
        case rel => exact ⟨k + 1, _, _, _, _, _, _, _, _, _, _, _, _, _, HKN.out, by go_num, PN, SN⟩
        case measure => have := HKN.out; simp [intOf]; omega
      by_cases hk3 : kd = 3
      · subst hk3
        rw [stepO_3] at SN
        go_wp2_with fail
        refine (refLink_any W1 _ _ _ _ d id u v P1.out.doc FT.out.1).mono ?_
        generalize d.linkE id u v = ez
        rintro r w4 ⟨a', b', c', e', rfl, t2, b2, u1, u2, u3, u4⟩
        obtain ⟨Y0, i0, j0, Y1, i1, j1, Y2, i2, j2, Y3, i3, j3, rfl, rfl, rfl, rfl⟩ := t2.sl4
        obtain ⟨W2, hW2⟩ : ∃ W2, W2 = w4.alloc (.cells #[.slice Y0 i0 j0, .slice Y1 i1 j1, .slice Y2 i2 j2, .slice Y3 i3 j3] 31) := ⟨_, rfl⟩
        have hb2 : Below W1.heap.size W1 W2 := by rw [hW2]; exact b2.alloc b2.size _
        have hb3 : Below w4.heap.size w4 W2 := by rw [hW2]; exact (Below.refl _ _).alloc (Nat.le_refl _) _
        have kn : Blk W2 w4.heap.size 31 #[.slice Y0 i0 j0, .slice Y1 i1 j1, .slice Y2 i2 j2, .slice Y3 i3 j3] := by rw [hW2]; exact Blk.new _ _ _
        obtain ⟨q2, hq2⟩ : ∃ q2, q2 = w4.heap.size := ⟨_, rfl⟩
        rw [← hq2] at kn
        have pn := P1.out.docTurn hb2 (t2.stay hb3) u1 u2 u3 u4
        obtain ⟨W5, hW5⟩ : ∃ W5, W5 = (((W2.setCell ⟨p, 0, none⟩ (.slice Y0 i0 j0)).setCell ⟨p, 1, none⟩ (.slice Y1 i1 j1)).setCell ⟨p, 2, none⟩ (.slice Y2 i2 j2)).setCell ⟨p, 3, none⟩ (.slice Y3 i3 j3) := ⟨_, rfl⟩
        rw [← hW5] at pn
        have PN := Lib.hid pn
        have BP := Lib.hid (P1.out.box.below hb2 P1.out.box.lt)
        have HW2 := Lib.hid hW2
        have HQ2 := Lib.hid hq2
        have HW5 := Lib.hid hW5
        have g0 := kn.cell 0
        have g1 := kn.cell 1
        have g2 := kn.cell 2
        have g3 := kn.cell 3
        have z0 := BP.out.cell 0
        have z1 := BP.out.cell 1
        have z2 := BP.out.cell 2
        have z3 := BP.out.cell 3
        have f0 := BP.out.frozen 0
        have f1 := BP.out.frozen 1
        have f2 := BP.out.frozen 2
        have f3 := BP.out.frozen 3
        clear t2 b2 u1 u2 u3 u4 hb2 hb3 kn pn hW2 hq2 hW5 c0 c1 c2 c3 s0 s1 s2 s3 s4
        go_upto_region 18 with fail
        rw [← HW2.out]
        try simp only [← HQ2.out]
        go_upto_region 22 with fail
        rw [← HW5.out]
        clear g0 g1 g2 g3 z0 z1 z2 z3 f0 f1 f2 f3
        go_wp2_with fail
        go_roundw
        case rel => exact ⟨k + 1, _, _, _, _, _, _, _, _, _, _, _, _, _, HKN.out, by go_num, PN, SN⟩
        case measure => have := HKN.out; simp [intOf]; omega
      by_cases hk4 : kd = 4
      · subst hk4
        rw [stepO_4] at SN
        go_wp2_with fail
        refine (refCut_any W1 _ _ _ _ d id P1.out.doc FT.out.1 FT.out.2.2).mono ?_
        generalize d.cutE id = ez
        rintro r w4 ⟨a', b', c', e', rfl, t2, b2, u1, u2, u3, u4⟩
        obtain ⟨Y0, i0, j0, Y1, i1, j1, Y2, i2, j2, Y3, i3, j3, rfl, rfl, rfl, rfl⟩ := t2.sl4
        obtain ⟨W2, hW2⟩ : ∃ W2, W2 = w4.alloc (.cells #[.slice Y0 i0 j0, .slice Y1 i1 j1, .slice Y2 i2 j2, .slice Y3 i3 j3] 31) := ⟨_, rfl⟩
        have hb2 : Below W1.heap.size W1 W2 := by rw [hW2]; exact b2.alloc b2.size _
        have hb3 : Below w4.heap.size w4 W2 := by rw [hW2]; exact (Below.refl _ _).alloc (Nat.le_refl _) _
        have kn : Blk W2 w4.heap.size 31 #[.slice Y0 i0 j0, .slice Y1 i1 j1, .slice Y2 i2 j2, .slice Y3 i3 j3] := by rw [hW2]; exact Blk.new _ _ _
        obtain ⟨q2, hq2⟩ : ∃ q2, q2 = w4.heap.size := ⟨_, rfl⟩
        rw [← hq2] at kn
        have pn := P1.out.docTurn hb2 (t2.stay hb3) u1 u2 u3 u4
        obtain ⟨W5, hW5⟩ : ∃ W5, W5 = (((W2.setCell ⟨p, 0, none⟩ (.slice Y0 i0 j0)).setCell ⟨p, 1, none⟩ (.slice Y1 i1 j1)).setCell ⟨p, 2, none⟩ (.slice Y2 i2 j2)).setCell ⟨p, 3, none⟩ (.slice Y3 i3 j3) := ⟨_, rfl⟩
        rw [← hW5] at pn
        have PN := Lib.hid pn
        have BP := Lib.hid (P1.out.box.below hb2 P1.out.box.lt)
        have HW2 := Lib.hid hW2
        have HQ2 := Lib.hid hq2
        have HW5 := Lib.hid hW5
        have g0 := kn.cell 0
        have g1 := kn.cell 1
        have g2 := kn.cell 2
        have g3 := kn.cell 3
        have z0 := BP.out.cell 0
        have z1 := BP.out.cell 1
        have z2 := BP.out.cell 2
        have z3 := BP.out.cell 3
        have f0 := BP.out.frozen 0
        have f1 := BP.out.frozen 1
        have f2 := BP.out.frozen 2
        have f3 := BP.out.frozen 3
        clear t2 b2 u1 u2 u3 u4 hb2 hb3 kn pn hW2 hq2 hW5 c0 c1 c2 c3 s0 s1 s2 s3 s4
        go_upto_region 21 with fail
        rw [← HW2.out]
        try simp only [← HQ2.out]
        go_upto_region 22 with fail
        rw [← HW5.out]
        clear g0 g1 g2 g3 z0 z1 z2 z3 f0 f1 f2 f3
        go_wp2_with fail
        go_roundw
        case rel => exact ⟨k + 1, _, _, _, _, _, _, _, _, _, _, _, _, _, HKN.out, by go_num, PN, SN⟩
        case measure => have := HKN.out; simp [intOf]; omega
      have k1 : (kd == 1) = false := by simpa using hk1
      have k2 : (kd == 2) = false := by simpa using hk2
      have k3 : (kd == 3) = false := by simpa using hk3
      have k4 : (kd == 4) = false := by simpa using hk4
      rw [stepO_0 d hk1 hk2 hk3 hk4] at SN
      clear hk1 hk2 hk3 hk4
      go_wp2_with fail
      go_roundw
      case rel => exact ⟨k + 1, _, _, _, _, _, _, _, _, _, _, _, _, _, HKN.out, by go_num, P1, SN⟩
      case measure => have := HKN.out; simp [intOf]; omega
    · obtain rfl : k = n := by omega
      have hkd : decide ((k : Int) < (k : Int)) = false := by simp
      have SF : Hid (Shape F d) := Lib.hid (by
        have := SH.out
        rw [List.take_of_length_le (by have := HN.out; omega), ← HFE.out] at this
        exact this)
      have GF := Lib.hid OR.out.good
      have FT := Lib.hid (SF.out.fit GF.out)
      have BE : Hid (∃ mv me, Beside F ⟨d.vs, d.es, mv, me⟩) := Lib.hid SF.out.1
      obtain ⟨c0, c1, c2, c3⟩ := OR.out.four
      have LV : Hid (d.vs.length = n0) := Lib.hid (by
        obtain ⟨-, A', c', e', -⟩ := OR.out.doc.vs
        injection e' with _ e2 _
        exact e2.symm)
      have LE : Hid (d.es.length = n1) := Lib.hid (by
        obtain ⟨-, A', c', e', -⟩ := OR.out.doc.es
        injection e' with _ e2 _
        exact e2.symm)
      have hn4 : n0 ≤ 4096 := by have := FT.out.1.nv; have := LV.out; omega
      have hn5 : n1 ≤ 8192 := by have := FT.out.1.ne; have := LE.out; omega
      clear SH
      go_wp2_with fail
      clear c0 c1 c2 c3
      go_loopw [20] (fun i wr => ∃ (m : Nat) (z : Int) (G : FS), m ≤ n0 ∧ z = (m : Int) - 1 ∧ i = .int .i64 z ∧ Hid (Ord w wr f F g G p d (.slice X0 n0 m0) (.slice X1 n1 m1) (.slice X2 n2 m2) (.slice X3 n3 m3)) ∧ Hid (Grow G (d.vs.drop m) [])) (fun i _ => (intOf i + 1).toNat)
      case atStart => exact ⟨n0, (n0 : Int) - 1, FS.new, Nat.le_refl _, rfl, by go_num, OR, Lib.hid (by rw [List.drop_of_length_le (by have := LV.out; omega)]; exact Grow.new)⟩
      case round =>
        clear OR
        obtain ⟨m, z, G, hm, hz, rfl, OR, GR⟩ := hrel
        by_cases hm0 : m = 0
        case neg =>
          obtain ⟨k2, rfl⟩ : ∃ k2, m = k2 + 1 := ⟨m - 1, by omega⟩
          obtain rfl : z = (k2 : Int) := by omega
          have hkv : k2 < d.vs.length := by have := LV.out; omega
          obtain ⟨A5, c5, he5, -, -, -, HCV⟩ := OR.out.doc.vs.open_
          injection he5 with he5 hel he6
          subst he5
          subst he6
          clear hel
          obtain ⟨bb, oo, rfl, hbb, hx⟩ := HCV.out k2 hkv
          have y1 := cellI hx
          have HDR := Lib.hid (List.drop_eq_getElem_cons hkv)
          obtain ⟨x, hxx⟩ : ∃ x, x = d.vs[k2] := ⟨_, rfl⟩
          have XM : Hid (x ∈ d.vs) := Lib.hid (by rw [hxx]; exact List.getElem_mem _)
          rw [← hxx] at y1 HDR
          clear hx hxx HCV
          have XV : Hid (1 ≤ x ∧ x ≤ 2147483647) := Lib.hid (by
            obtain ⟨mv, me, hb⟩ := BE.out
            exact GF.out.vid x ((hb.mem x).1 XM.out))
          have HX : I64 x := by have := XV.out; unfold I64; omega
          have GA : Hid (G.addE x = 0 ∧ Grow (G.addA x) (d.vs.drop k2) []) := Lib.hid (by
            rw [HDR.out]
            refine GR.out.add XV.out ?_ ?_
            · have h1 := FT.out.1.nd
              rw [← List.take_append_drop k2 d.vs, HDR.out] at h1
              exact (List.nodup_cons.1 (List.nodup_append.1 h1).2.1).1
            · obtain ⟨mv, me, hb⟩ := BE.out
              have h1 := hb.len GF.out
              have h1 : d.vs.length = F.vs.length := h1
              have h2 := GF.out.few
              rw [List.length_drop]
              omega)
          have hki : (k2 : Int) < (n0 : Int) := by omega
          have hkj : k2 < n0 := by omega
          have hge : decide ((0 : Int) ≤ (k2 : Int)) = true := by simp
          obtain ⟨c0, c1, c2, c3⟩ := OR.out.four
          have HK2 := Lib.hid hkj
          clear hm hz hm0 hbb
          go_wp2_with fail
          refine (oAdd OR.out x HX).mono ?_
          rw [GA.out.1]
          rintro r w5 ⟨rfl, ho⟩
          have HO := Lib.hid ho
          have HGA := Lib.hid GA.out.2
          clear ho c0 c1 c2 c3 y1
          go_wp2_with fail
          go_roundw
          case rel => exact ⟨k2, (k2 : Int) - 1, _, Nat.le_of_lt HK2.out, rfl, by go_num, HO, HGA⟩
          case measure => simp [intOf]
        case pos =>
          subst hm0
          obtain rfl : z = (-1 : Int) := by simpa using hz
          have GR0 : Hid (Grow G d.vs []) := Lib.hid (by have := GR.out; rwa [List.drop_zero] at this)
          have hge : decide ((0 : Int) ≤ (-1 : Int)) = false := by decide
          clear GR hz hm
          obtain ⟨c0, c1, c2, c3⟩ := OR.out.four
          go_wp2_with fail
          clear c0 c1 c2 c3
          go_loopw [21] (fun i wr => ∃ (m : Nat) (z : Int) (G : FS), m ≤ n1 ∧ z = (m : Int) - 1 ∧ i = .int .i64 z ∧ Hid (Ord w wr f F g G p d (.slice X0 n0 m0) (.slice X1 n1 m1) (.slice X2 n2 m2) (.slice X3 n3 m3)) ∧ Hid (Grow G d.vs (d.es.drop m))) (fun i _ => (intOf i + 1).toNat)
          case atStart => exact ⟨n1, (n1 : Int) - 1, G, Nat.le_refl _, rfl, by go_num, OR, Lib.hid (by rw [List.drop_of_length_le (by have := LE.out; omega)]; exact GR0.out)⟩
          case round =>
            clear OR GR0
            obtain ⟨m, z, G2, hm, hz, rfl, OR, GR⟩ := hrel
            by_cases hm0 : m = 0
            case neg =>
              obtain ⟨k2, rfl⟩ : ∃ k2, m = k2 + 1 := ⟨m - 1, by omega⟩
              obtain rfl : z = (k2 : Int) := by omega
              have hkv : k2 < d.es.length := by have := LE.out; omega
              obtain ⟨A5, c5, he5, -, -, -, HCV⟩ := OR.out.doc.es.open_
              injection he5 with he5 hel he6
              subst he5
              subst he6
              clear hel
              obtain ⟨bb, oo, rfl, hbb, hx⟩ := HCV.out k2 hkv
              have HDR := Lib.hid (List.drop_eq_getElem_cons hkv)
              obtain ⟨x, hxx⟩ : ∃ x, x = d.es[k2] := ⟨_, rfl⟩
              have XM : Hid (x ∈ d.es) := Lib.hid (by rw [hxx]; exact List.getElem_mem _)
              rw [← hxx] at hx HDR
              obtain ⟨ei, eu, ev⟩ := x
              have y0 : wr.cell? ⟨bb, oo + k2 * 4, none⟩ = some (.int .i64 ei) := hx 0 _ rfl
              have y1 : wr.cell? ⟨bb, oo + k2 * 4 + 1, none⟩ = some (.int .i64 eu) := hx 1 _ rfl
              have y2 : wr.cell? ⟨bb, oo + k2 * 4 + 2, none⟩ = some (.int .i64 ev) := hx 2 _ rfl
              have y3 : wr.cell? ⟨bb, oo + k2 * 4 + 3, none⟩ = some (.int .i64 0) := hx 3 _ rfl
              clear hx hxx HCV
              have GA : Hid (((I64 ei ∧ I64 eu ∧ I64 ev)) ∧ G2.linkE ei ev eu = 0 ∧ Grow (G2.linkA ei ev eu) d.vs (d.es.drop k2)) := Lib.hid (by
                obtain ⟨mv, me, hb⟩ := BE.out
                have he : (ei, eu, ev) ∈ F.edges := (hb.em _).1 XM.out
                have h1 := good_ends GF.out he
                have h2 := GF.out.eid ei (List.mem_map.2 ⟨_, he, rfl⟩)
                have h3 := GF.out.vid eu h1.1
                have h4 := GF.out.vid ev h1.2
                refine ⟨⟨by unfold I64; omega, by unfold I64; omega, by unfold I64; omega⟩, ?_⟩
                rw [HDR.out]
                refine GR.out.link GF.out (fun v hv => (hb.mem v).2 hv) he fun e hm => ⟨(hb.em _).1 (List.mem_of_mem_drop hm), ?_⟩
                have h5 : d.es.Pairwise (fun a b => a.1 < b.1) := hb.es
                rw [← List.take_append_drop k2 d.es, HDR.out] at h5
                have h6 := (List.pairwise_cons.1 (List.pairwise_append.1 h5).2.1).1 e hm
                have h6 : ei < e.1 := h6
                omega)
              have hki : (k2 : Int) < (n1 : Int) := by omega
              have hkj : k2 < n1 := by omega
              have hge : decide ((0 : Int) ≤ (k2 : Int)) = true := by simp
              obtain ⟨c0, c1, c2, c3⟩ := OR.out.four
              have HK2 := Lib.hid hkj
              obtain ⟨W1, hW1⟩ : ∃ W1, W1 = wr.alloc (.cells #[.int .i64 ei, .int .i64 eu, .int .i64 ev, .int .i64 0] 37) := ⟨_, rfl⟩
              obtain ⟨q, hq⟩ : ∃ q, q = wr.heap.size := ⟨_, rfl⟩
              have hbw : Below wr.heap.size wr W1 := by rw [hW1]; exact (Below.refl _ _).alloc (Nat.le_refl _) _
              have P1 := Lib.hid (OR.out.below hbw)
              have O1 : Hid (Blk W1 q 37 #[.int .i64 ei, .int .i64 eu, .int .i64 ev, .int .i64 0]) := Lib.hid (by rw [hW1, hq]; exact Blk.new _ _ _)
              have HW1 := Lib.hid hW1
              have HQ := Lib.hid hq
              clear hm hz hm0 hbb hW1 hq hbw
              go_upto_region 32 with fail
              rw [← HW1.out]
              try simp only [← HQ.out]
              clear c0 c1 c2 c3 y0 y1 y2 y3
              have s0 := O1.out.cell 0
              have s1 := O1.out.cell 1
              have s2 := O1.out.cell 2
              go_wp2_with fail
              refine (oLink P1.out ei ev eu GA.out.1.1 GA.out.1.2.2 GA.out.1.2.1).mono ?_
              rw [GA.out.2.1]
              rintro r w5 ⟨rfl, ho⟩
              have HO := Lib.hid ho
              have HGA := Lib.hid GA.out.2.2
              clear ho s0 s1 s2
              go_wp2_with fail
              go_roundw
              case rel => exact ⟨k2, (k2 : Int) - 1, _, Nat.le_of_lt HK2.out, rfl, by go_num, HO, HGA⟩
              case measure => simp [intOf]
            case pos =>
              subst hm0
              obtain rfl : z = (-1 : Int) := by simpa using hz
              have TN : Hid (Turned F G2) := Lib.hid (by
                have hgr := GR.out
                rw [List.drop_zero] at hgr
                obtain ⟨mv, me, hb⟩ := BE.out
                refine ⟨fun v => by rw [hgr.vs]; exact (hb.mem v).symm, fun i p q => ?_⟩
                rw [hgr.es, List.mem_map]
                constructor
                · intro h; exact ⟨(i, p, q), (hb.em _).2 h, rfl⟩
                · rintro ⟨⟨a1, a2, a3⟩, h1, h2⟩
                  injection h2 with e1 e2
                  injection e2 with e2 e3
                  have e1 : a1 = i := e1
                  have e2 : a3 = q := e2
                  have e3 : a2 = p := e3
                  subst e1 e2 e3
                  exact (hb.em _).1 h1)
              have LF : Hid (F.vs.length = n0) := Lib.hid (by
                obtain ⟨mv, me, hb⟩ := BE.out
                have h1 : d.vs.length = F.vs.length := hb.len GF.out
                rw [← h1]; exact LV.out)
              have LG : Hid (G2.vs.length = n0) := Lib.hid (by rw [GR.out.vs]; exact LV.out)
              have hge : decide ((0 : Int) ≤ (-1 : Int)) = false := by decide
              clear GR hz hm
              obtain ⟨c0, c1, c2, c3⟩ := OR.out.four
              go_wp2_with fail
              clear c0 c1 c2 c3
              go_loopw [149] (fun i wr => ∃ (k : Nat), k ≤ n0 ∧ i = .int .i64 k ∧ Hid (Ord w wr f F g G2 p d (.slice X0 n0 m0) (.slice X1 n1 m1) (.slice X2 n2 m2) (.slice X3 n3 m3))) (fun i _ => n0 - (intOf i).toNat)
              case atStart => exact ⟨0, Nat.zero_le _, rfl, OR⟩
              case round =>
                clear OR
                obtain ⟨k3, hk3, rfl, OR⟩ := hrel
                by_cases hkl : k3 < n0
                · have hkv : k3 < d.vs.length := by have := LV.out; omega
                  obtain ⟨A5, c5, he5, -, -, -, HCV⟩ := OR.out.doc.vs.open_
                  injection he5 with he5 hel he6
                  subst he5
                  subst he6
                  clear hel
                  obtain ⟨bb, oo, rfl, hbb, hx⟩ := HCV.out k3 hkv
                  have y1 := cellI hx
                  obtain ⟨x, hxx⟩ : ∃ x, x = d.vs[k3] := ⟨_, rfl⟩
                  have XM : Hid (x ∈ F.vs) := Lib.hid (by
                    obtain ⟨mv, me, hb⟩ := BE.out
                    rw [hxx]; exact (hb.mem _).1 (List.getElem_mem _))
                  rw [← hxx] at y1
                  clear hx hxx HCV
                  have HX : I64 x := GF.out.v64 XM.out
                  have EF := Lib.hid (F.errV_in XM.out)
                  have EG := Lib.hid (G2.errV_in ((TN.out.vs x).1 XM.out))
                  have TV := Lib.hid (TN.out.treeV XM.out)
                  have TE := Lib.hid (TN.out.treeE XM.out)
                  obtain ⟨NN, hNN⟩ : ∃ n, n = (F.treeV x).length := ⟨_, rfl⟩
                  obtain ⟨ME, hME⟩ : ∃ n, n = (F.treeE x).length := ⟨_, rfl⟩
                  have NV : Hid ((F.treeV x).length = NN) := Lib.hid hNN.symm
                  have NE : Hid ((F.treeE x).length = ME) := Lib.hid hME.symm
                  have hki : (k3 : Int) < (n0 : Int) := by omega
                  have hkd : decide ((k3 : Int) < (n0 : Int)) = true := by simpa using hkl
                  have HK3 := Lib.hid hkl
                  clear hNN hME hbb
                  by_cases h40 : 40 < k3
                  · have d40 : decide ((40 : Int) < (k3 : Int)) = true := by simp; omega
                    clear h40
                    go_wp2_with fail
                    clear y1
                    refine (oLenF OR.out).mono ?_
                    rw [LF.out]
                    rintro r wx ⟨rfl, hwx⟩
                    rw [hwx]
                    clear hwx wx
                    go_wp2_with fail
                    refine (oLenG OR.out).mono ?_
                    rw [LG.out]
                    rintro r wx ⟨rfl, hwx⟩
                    rw [hwx]
                    clear hwx wx
                    go_wp2_with fail
                    go_ret
                    exact ⟨rfl, OR.out.low⟩
                  have d40 : decide ((40 : Int) < (k3 : Int)) = false := by simp; omega
                  clear h40
                  have T4 := OR
                  go_wp2_with fail
                  refine (oVertsF T4.out x HX).mono ?_
                  rw [EF.out]
                  rintro r w5 ⟨x5, rfl, o5, b5⟩
                  obtain ⟨A5, k5, hx5, -, -, -, -⟩ := (o5.rk encI_len (Nat.le_refl _)).open_
                  rw [NV.out] at hx5
                  subst hx5
                  have T5 := Lib.hid (T4.out.below b5)
                  have R5 := Lib.hid (o5.rk encI_len (Nat.le_refl _))
                  clear o5 b5 y1
                  go_wp2_with fail
                  refine (oVertsG T5.out x HX).mono ?_
                  rw [EG.out, TV.out]
                  rintro r w6 ⟨x6, rfl, o6, b6⟩
                  obtain ⟨A6, k6, hx6, -, -, -, -⟩ := (o6.rk encI_len (Nat.le_refl _)).open_
                  rw [NV.out] at hx6
                  subst hx6
                  have T6 := Lib.hid (T5.out.below b6)
                  have R6 := Lib.hid (o6.rk encI_len (Nat.le_refl _))
                  have V6 := Lib.hid ((R5.out.below b6).more b6.size)
                  clear o6 b6
                  go_wp2_with fail
                  refine (oEdgesF T6.out x HX).mono ?_
                  rw [EF.out]
                  rintro r w7 ⟨x7, rfl, o7, b7⟩
                  obtain ⟨A7, k7, hx7, -, -, -, -⟩ := (o7.rk encI_len (Nat.le_refl _)).open_
                  rw [NE.out] at hx7
                  subst hx7
                  have T7 := Lib.hid (T6.out.below b7)
                  have R7 := Lib.hid (o7.rk encI_len (Nat.le_refl _))
                  have V7 := Lib.hid ((V6.out.below b7).more b7.size)
                  have U7 := Lib.hid ((R6.out.below b7).more b7.size)
                  clear o7 b7
                  go_wp2_with fail
                  refine (oEdgesG T7.out x HX).mono ?_
                  rw [EG.out, TE.out]
                  rintro r w8 ⟨x8, rfl, o8, b8⟩
                  obtain ⟨A8, k8, hx8, -, -, -, -⟩ := (o8.rk encI_len (Nat.le_refl _)).open_
                  rw [NE.out] at hx8
                  subst hx8
                  have T8 := Lib.hid (T7.out.below b8)
                  have R8 := Lib.hid (o8.rk encI_len (Nat.le_refl _))
                  have V8 := Lib.hid ((V7.out.below b8).more b8.size)
                  have U8 := Lib.hid ((U7.out.below b8).more b8.size)
                  have E8 := Lib.hid ((R7.out.below b8).more b8.size)
                  clear o8 b8
                  go_wp2_with fail
                  refine (SameInts_yes _ _ _ _ _ _ V8.out U8.out).mono ?_
                  rintro r w9 ⟨rfl, q9, h9⟩
                  have b9 : Below w8.heap.size w8 w9 := by rw [h9]; exact below_drewN (Below.refl _ _) _
                  have T9 := Lib.hid (T8.out.below b9)
                  have E9 := Lib.hid ((E8.out.below b9).more b9.size)
                  have G9 := Lib.hid ((R8.out.below b9).more b9.size)
                  clear b9 h9
                  go_wp2_with fail
                  refine (SameInts_yes _ _ _ _ _ _ E9.out G9.out).mono ?_
                  rintro r w10 ⟨rfl, q10, h10⟩
                  have T10 := Lib.hid (T9.out.below (show Below w9.heap.size w9 w10 by rw [h10]; exact below_drewN (Below.refl _ _) _))
                  clear h10
                  go_wp2_with fail
                  go_roundw
                  case rel => exact ⟨k3 + 1, HK3.out, by go_num, T10⟩
                  case measure => have := HK3.out; simp [intOf]; omega
                · obtain rfl : k3 = n0 := by omega
                  have hkd : decide ((k3 : Int) < (k3 : Int)) = false := by simp
                  go_wp2_with fail
                  refine (oLenF OR.out).mono ?_
                  rw [LF.out]
                  rintro r wx ⟨rfl, hwx⟩
                  rw [hwx]
                  clear hwx wx
                  go_wp2_with fail
                  refine (oLenG OR.out).mono ?_
                  rw [LG.out]
                  rintro r wx ⟨rfl, hwx⟩
                  rw [hwx]
                  clear hwx wx
                  go_wp2_with fail
                  go_ret
                  exact ⟨rfl, OR.out.low⟩

end Go.Proofs.Ytlakcldgolpaiaa

