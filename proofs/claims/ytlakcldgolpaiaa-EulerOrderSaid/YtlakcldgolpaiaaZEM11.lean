/-
  The program's forest and the document's, side by side: what both tell, and what each call does to both. No walk.
-/
import Derived.Test.YtlakcldgolpaiaaZEM10
import Derived.Test.YtlakcldgolpaiaaZEL8
namespace Go.Proofs.Ytlakcldgolpaiaa
set_option linter.unusedVariables false

/-- Two forests of the same vertices, edges and marks. -/
structure Beside (F : FS) (d : DF) : Prop where
  vs : Rise d.vs (fun i => i ∈ F.vs)
  es : d.es.Pairwise (fun a b => a.1 < b.1)
  em : ∀ e, e ∈ d.es ↔ e ∈ F.edges
  mv : Rise d.mv (fun i => F.mv i = true)
  me : Rise d.me (fun i => F.me i = true)

theorem beside_new : Beside FS.new ⟨[], [], [], []⟩ := ⟨⟨.nil, fun i => by simp [FS.new]⟩, .nil, fun e => by simp [FS.new], ⟨.nil, fun i => by simp [FS.new]⟩, ⟨.nil, fun i => by simp [FS.new]⟩⟩

theorem Rise.len_le {xs ys : List Int} {P : Int → Prop} (h : Rise xs P) (hs : ∀ i, P i → i ∈ ys) : xs.length ≤ ys.length := h.nd.length_le_of_subset fun i hi => hs i ((h.2 i).1 hi)

section

variable {F : FS} {d : DF}

theorem Beside.mem (h : Beside F d) (v : Int) : v ∈ d.vs ↔ v ∈ F.vs := h.vs.2 v

theorem Beside.ids (h : Beside F d) (i : Int) : i ∈ ids d.es ↔ i ∈ ids F.edges := by
  unfold Proofs.Ytlakcldgolpaiaa.ids
  rw [List.mem_map, List.mem_map]
  exact ⟨fun ⟨e, h1, h2⟩ => ⟨e, (h.em e).1 h1, h2⟩, fun ⟨e, h1, h2⟩ => ⟨e, (h.em e).2 h1, h2⟩⟩

theorem Beside.conn (h : Beside F d) (u v : Int) : Conn d.es u v ↔ Conn F.edges u v := ⟨fun c => c.mono fun e he => (h.em e).1 he, fun c => c.mono fun e he => (h.em e).2 he⟩

theorem good_ends (hG : F.Good) {id p q : Int} (he : (id, p, q) ∈ F.edges) : p ∈ F.vs ∧ q ∈ F.vs := by
  obtain ⟨W, hW⟩ := hG.ok
  obtain ⟨zs, hz, b, c, x, y, h1, h2, h3, h4, h5, h6⟩ := hW.ends2 he
  exact ⟨(hG.vs p).2 (by rw [h5]; simp), (hG.vs q).2 (by rw [h6]; simp)⟩

/-- Both tell the same tree. -/
theorem Beside.tree (h : Beside F d) (u : Int) : d.tree u = F.treeV u := by
  unfold DF.tree
  by_cases hu : u ∈ F.vs
  · rw [if_pos ((h.mem u).2 hu)]
    refine rise_unique (P := F.inV u) ⟨h.vs.1.filter _, fun i => ?_⟩ (F.riseV hu)
    rw [List.mem_filter, h.mem]
    unfold FS.inV
    simp only [decide_eq_true_eq]
    rw [h.conn]
  · rw [if_neg (fun e => hu ((h.mem u).1 e)), F.outV hu]

theorem Beside.treeE (h : Beside F d) (hG : F.Good) (u : Int) : d.treeE u = F.treeE u := by
  unfold DF.treeE
  rw [h.tree]
  by_cases hu : u ∈ F.vs
  · refine rise_unique (P := F.inE u) ⟨?_, fun i => ?_⟩ (F.riseE hu)
    · rw [List.pairwise_map]
      exact h.es.filter _
    · rw [List.mem_map]
      unfold FS.inE
      constructor
      · rintro ⟨⟨j, p, q⟩, h1, rfl⟩
        obtain ⟨h1, h2⟩ := List.mem_filter.1 h1
        exact ⟨p, q, (h.em _).1 h1, (((F.riseV hu).2 p).1 (of_decide_eq_true h2)).2⟩
      · rintro ⟨p, q, h1, h2⟩
        exact ⟨(i, p, q), List.mem_filter.2 ⟨(h.em _).2 h1, decide_eq_true (((F.riseV hu).2 p).2 ⟨(good_ends hG h1).1, h2⟩)⟩, rfl⟩
  · rw [F.outV hu, F.outE hu]
    simp

theorem Beside.len (h : Beside F d) (hG : F.Good) : d.vs.length = F.vs.length := perm_len h.vs.nd hG.nd fun i => h.mem i

theorem Beside.idsNd (h : Beside F d) : (Proofs.Ytlakcldgolpaiaa.ids d.es).Nodup := by
  unfold Proofs.Ytlakcldgolpaiaa.ids
  unfold List.Nodup
  rw [List.pairwise_map]
  exact h.es.imp fun h => by omega

theorem split_len (p : Nat → Bool) : ∀ l : List Nat, l.length = (l.filter p).length + (l.filter fun a => !p a).length
  | [] => rfl
  | a :: r => by
    have := split_len p r
    by_cases h : p a = true
    · simp [h]; omega
    · simp [h]; omega

/-- Each edge has a place of its own, and no vertex stands there. -/
theorem Beside.few (h : Beside F d) (hG : F.Good) : d.es.length ≤ 4096 := by
  obtain ⟨W, hW⟩ := hG.ok
  have hc := places_count hW hG.nd hG.vs
  have hf := hG.few
  have hp : ∀ i ∈ Proofs.Ytlakcldgolpaiaa.ids d.es, ∃ a b, F.pe i = some (a, b) := fun i hi => by
    obtain ⟨⟨a, b⟩, e⟩ := Option.ne_none_iff_exists'.1 ((hW.has i).1 ((h.ids i).1 hi))
    exact ⟨a, b, e⟩
  have h1 : ((Proofs.Ytlakcldgolpaiaa.ids d.es).map fun i => ((F.pe i).getD (0, 0)).1).Nodup := by
    unfold List.Nodup
    rw [List.pairwise_map]
    have hh : ∀ {i j : Int}, [i, j].Sublist (Proofs.Ytlakcldgolpaiaa.ids d.es) → i ≠ j := List.pairwise_iff_forall_sublist.1 h.idsNd
    refine List.pairwise_iff_forall_sublist.2 ?_
    intro i j hs hij
    have hi : i ∈ Proofs.Ytlakcldgolpaiaa.ids d.es := hs.subset (by simp)
    have hj : j ∈ Proofs.Ytlakcldgolpaiaa.ids d.es := hs.subset (by simp)
    obtain ⟨a, b, e1⟩ := hp i hi
    obtain ⟨a', b', e2⟩ := hp j hj
    rw [e1, e2] at hij
    have hij : a = a' := hij
    obtain ⟨-, -, -, t1, -⟩ := hW.edge _ _ _ e1
    obtain ⟨-, -, -, t2, -⟩ := hW.edge _ _ _ e2
    rw [hij, t2] at t1
    have : j = i := by injection t1
    exact hh hs this.symm
  have h2 := h1.length_le_of_subset (l₂ := W.flatten.filter fun a => !isV (tok F.who a)) (fun x hx => by
    obtain ⟨i, hi, rfl⟩ := List.mem_map.1 hx
    obtain ⟨a, b, e⟩ := hp i hi
    rw [e]
    have h3 := hW.edge _ _ _ e
    refine List.mem_filter.2 ⟨h3.2.1, ?_⟩
    show (!isV (tok F.who a)) = true
    rw [h3.2.2.2.1]
    rfl)
  have h5 := split_len (fun a => isV (tok F.who a)) W.flatten
  have h6 := verts_count hW hG.nd hG.vs
  rw [List.length_map] at h2
  have h3 : (Proofs.Ytlakcldgolpaiaa.ids d.es).length = d.es.length := by unfold Proofs.Ytlakcldgolpaiaa.ids; rw [List.length_map]
  omega

theorem Beside.fit (h : Beside F d) (hG : F.Good) : d.Fit ∧ d.mv.length ≤ 4096 ∧ d.me.length ≤ 4096 := by
  have h1 := h.len hG
  have h2 := hG.few
  have h3 := h.few hG
  refine ⟨⟨h.vs.nd, fun e he => ?_, by omega, by omega⟩, ?_, ?_⟩
  · obtain ⟨i, p, q⟩ := e
    have := good_ends hG ((h.em _).1 he)
    exact ⟨(h.mem p).2 this.1, (h.mem q).2 this.2⟩
  · have := h.mv.len_le (ys := F.vs) fun i hi => hG.mv i hi
    omega
  · have h4 := h.me.len_le (ys := Proofs.Ytlakcldgolpaiaa.ids d.es) fun i hi => (h.ids i).2 (hG.me i hi)
    have h5 : (Proofs.Ytlakcldgolpaiaa.ids d.es).length = d.es.length := by unfold Proofs.Ytlakcldgolpaiaa.ids; rw [List.length_map]
    omega

theorem Beside.addE (h : Beside F d) (hG : F.Good) (v : Int) : d.addE v = F.addE v := by
  unfold DF.addE FS.addE
  rw [h.len hG]
  by_cases h0 : okId v
  · rw [if_pos h0, if_pos (show 1 ≤ v ∧ v ≤ 2147483647 from h0)]
    by_cases h1 : v ∈ F.vs
    · rw [if_pos h1, if_pos ((h.mem v).2 h1)]
    · rw [if_neg h1, if_neg (fun e => h1 ((h.mem v).1 e))]
  · rw [if_neg h0, if_neg (show ¬ (1 ≤ v ∧ v ≤ 2147483647) from h0)]

theorem Beside.delE (h : Beside F d) (v : Int) : d.delE v = F.delE v := by
  unfold DF.delE FS.delE
  have hb : (∃ e ∈ d.es, e.2.1 = v ∨ e.2.2 = v) ↔ F.busy v := by
    unfold FS.busy
    exact ⟨fun ⟨⟨i, p, q⟩, h1, h2⟩ => ⟨i, p, q, (h.em _).1 h1, h2⟩, fun ⟨i, p, q, h1, h2⟩ => ⟨(i, p, q), (h.em _).2 h1, h2⟩⟩
  by_cases h0 : okId v
  · rw [if_pos h0, if_pos (show 1 ≤ v ∧ v ≤ 2147483647 from h0)]
    by_cases h1 : v ∈ F.vs
    · rw [if_pos h1, if_pos ((h.mem v).2 h1)]
      by_cases h2 : F.busy v
      · rw [if_pos h2, if_pos (hb.2 h2)]
      · rw [if_neg h2, if_neg (fun e => h2 (hb.1 e))]
    · rw [if_neg h1, if_neg (fun e => h1 ((h.mem v).1 e))]
  · rw [if_neg h0, if_neg (show ¬ (1 ≤ v ∧ v ≤ 2147483647) from h0)]

theorem Beside.linkE (h : Beside F d) (id u v : Int) : d.linkE id u v = F.linkE id u v := by
  unfold DF.linkE FS.linkE
  by_cases h0 : okId id ∧ okId u ∧ okId v
  · rw [if_pos h0, if_pos h0]
    by_cases h1 : id ∈ Proofs.Ytlakcldgolpaiaa.ids F.edges
    · rw [if_pos h1, if_pos ((h.ids id).2 h1)]
    · rw [if_neg h1, if_neg (fun e => h1 ((h.ids id).1 e))]
      by_cases h2 : u ∈ F.vs ∧ v ∈ F.vs
      · rw [if_pos h2, if_pos ⟨(h.mem u).2 h2.1, (h.mem v).2 h2.2⟩, h.tree]
        have hc : v ∈ F.treeV u ↔ Conn F.edges u v := ((F.riseV h2.1).2 v).trans ⟨fun e => e.2, fun e => ⟨h2.2, e⟩⟩
        by_cases h3 : Conn F.edges u v
        · rw [if_pos h3, if_pos (hc.2 h3)]
        · rw [if_neg h3, if_neg (fun e => h3 (hc.1 e))]
      · rw [if_neg h2, if_neg (fun e => h2 ⟨(h.mem u).1 e.1, (h.mem v).1 e.2⟩)]
  · rw [if_neg h0, if_neg h0]

theorem Beside.cutE (h : Beside F d) (id : Int) : d.cutE id = F.cutE id := by
  unfold DF.cutE FS.cutE
  by_cases h0 : okId id
  · rw [if_pos h0, if_pos h0]
    by_cases h1 : id ∈ Proofs.Ytlakcldgolpaiaa.ids F.edges
    · rw [if_pos h1, if_pos ((h.ids id).2 h1)]
    · rw [if_neg h1, if_neg (fun e => h1 ((h.ids id).1 e))]
  · rw [if_neg h0, if_neg h0]

end

end Go.Proofs.Ytlakcldgolpaiaa

/-
  The program's forest and the document's, side by side, behind each call. No walk.
-/
namespace Go.Proofs.Ytlakcldgolpaiaa
set_option linter.unusedVariables false

theorem rise_filter {xs : List Int} {P P' : Int → Prop} {v : Int} (h : Rise xs P) (he : ∀ i, P' i ↔ P i ∧ i ≠ v) : Rise (xs.filter (· ≠ v)) P' :=
  ⟨h.1.filter _, fun i => by rw [List.mem_filter, h.2, he]; simp⟩

theorem setB_true (f : Int → Bool) (v : Int) (on : Bool) (i : Int) : setB f v on i = true ↔ (f i = true ∧ i ≠ v) ∨ (i = v ∧ on = true) := by
  by_cases e : i = v
  · subst e; rw [setB_same]; simp
  · rw [setB_ne f on e]; simp [e]

theorem rise_mark {xs : List Int} {f : Int → Bool} (h : Rise xs (fun i => f i = true)) (v : Int) (on : Bool) : Rise (markL xs v on) (fun i => setB f v on i = true) := by
  have h1 : Rise (xs.filter (· ≠ v)) (fun i => f i = true ∧ i ≠ v) := rise_filter h fun i => Iff.rfl
  unfold markL
  cases on with
  | true =>
    rw [if_pos rfl]
    exact insI_rise h1 (fun e => e.2 rfl) fun i => by rw [setB_true]; simp
  | false =>
    rw [if_neg (by decide)]
    exact h1.congr fun i => by rw [setB_true]; simp

theorem mem_insE {e : Edg} : ∀ {l : List Edg} {x : Edg}, x ∈ insE e l ↔ x ∈ l ∨ x = e
  | [], x => by simp [insE]
  | y :: r, x => by
    rw [insE_cons]
    split
    · simp only [List.mem_cons]; constructor
      · rintro (h | h | h); exact .inr h; exact .inl (.inl h); exact .inl (.inr h)
      · rintro ((h | h) | h); exact .inr (.inl h); exact .inr (.inr h); exact .inl h
    · rw [List.mem_cons, mem_insE, List.mem_cons, or_assoc]

theorem insE_sorted {e : Edg} : ∀ {l : List Edg}, l.Pairwise (fun a b => a.1 < b.1) → (∀ x ∈ l, x.1 ≠ e.1) → (insE e l).Pairwise (fun a b => a.1 < b.1)
  | [], _, _ => by simp [insE]
  | y :: r, h, hn => by
    rw [insE_cons]
    obtain ⟨h1, h2⟩ := List.pairwise_cons.1 h
    have hye := hn y (by simp)
    split
    · rename_i hlt
      refine List.pairwise_cons.2 ⟨fun x hx => ?_, h⟩
      rcases List.mem_cons.1 hx with rfl | hx
      · exact hlt
      · have := h1 x hx; omega
    · rename_i hlt
      refine List.pairwise_cons.2 ⟨fun x hx => ?_, insE_sorted h2 fun x hx => hn x (List.mem_cons_of_mem _ hx)⟩
      rcases mem_insE.1 hx with hx | rfl
      · exact h1 x hx
      · omega

section

variable {F : FS} {d : DF}

theorem Beside.addA (h : Beside F d) (hG : F.Good) (v : Int) : Beside (F.addA v) (d.addA v) := by
  have he := h.addE hG v
  by_cases h0 : F.addE v = 0
  · have hv : v ∉ F.vs := by
      intro hm
      unfold FS.addE at h0
      rw [if_pos hm] at h0
      split at h0 <;> cases h0
    have e1 : F.addA v = F.addv v := by unfold FS.addA; rw [if_pos h0]
    have e2 : d.addA v = ⟨insI v d.vs, d.es, d.mv, d.me⟩ := by unfold DF.addA; rw [if_pos (he.trans h0)]
    rw [e1, e2]
    exact ⟨insI_rise h.vs hv fun i => by show i ∈ v :: F.vs ↔ _; rw [List.mem_cons]; exact or_comm, h.es, h.em, h.mv, h.me⟩
  · have e1 : F.addA v = F := by unfold FS.addA; rw [if_neg h0]
    rw [e1, d.addA_no he h0]
    exact h

theorem Beside.delA (h : Beside F d) (hG : F.Good) (v : Int) : Beside (F.delA v) (d.delA v) := by
  have he := h.delE v
  by_cases h0 : F.delE v = 0
  · have e1 : F.delA v = F.delv v ((F.pv v).getD 0) := by unfold FS.delA; rw [if_pos h0]
    have e2 : d.delA v = ⟨d.vs.filter (· ≠ v), d.es, d.mv.filter (· ≠ v), d.me⟩ := by unfold DF.delA; rw [if_pos (he.trans h0)]
    rw [e1, e2]
    refine ⟨rise_filter h.vs fun i => ?_, h.es, h.em, rise_filter h.mv fun i => ?_, h.me⟩
    · show i ∈ F.vs.erase v ↔ _
      rw [hG.nd.mem_erase_iff]
      exact and_comm
    · show setB F.mv v false i = true ↔ _
      rw [setB_true]; simp
  · have e1 : F.delA v = F := by unfold FS.delA; rw [if_neg h0]
    rw [e1, d.delA_no he h0]
    exact h

theorem Beside.linkA (h : Beside F d) (id u v : Int) : Beside (F.linkA id u v) (d.linkA id u v) := by
  have he := h.linkE id u v
  by_cases h0 : F.linkE id u v = 0
  · obtain ⟨o1, o2, o3, o4, o5, o6, o7⟩ := linkE_ok h0
    obtain ⟨-, hi, m1, m2⟩ := link_ok (F := F) ⟨rfl, rfl⟩ o1 o2 o3 o4 o5 o6 o7
    have e2 : d.linkA id u v = ⟨d.vs, insE (id, u, v) d.es, d.mv, d.me⟩ := by unfold DF.linkA; rw [if_pos (he.trans h0)]
    rw [e2]
    refine ⟨h.vs.congr fun i => by rw [hi.vs], insE_sorted h.es fun x hx e => o4 (List.mem_map.2 ⟨x, (h.em x).1 hx, e⟩), fun e => ?_, h.mv.congr fun i => by rw [m1], h.me.congr fun i => by rw [m2]⟩
    rw [mem_insE, h.em, hi.es, List.mem_cons]
    exact or_comm
  · rw [F.linkA_no rfl h0, d.linkA_no he h0]
    exact h

theorem Beside.cutA (h : Beside F d) (id : Int) : Beside (F.cutA id) (d.cutA id) := by
  have he := h.cutE id
  by_cases h0 : F.cutE id = 0
  · have ho : okId id ∧ id ∈ Proofs.Ytlakcldgolpaiaa.ids F.edges := by
      unfold FS.cutE at h0
      split at h0
      · rename_i h1
        split at h0
        · rename_i h2; exact ⟨h1, h2⟩
        · cases h0
      · cases h0
    obtain ⟨-, hi, m1, m2⟩ := cut_ok (F := F) ⟨rfl, rfl⟩ ho.1 ho.2
    have e2 : d.cutA id = ⟨d.vs, d.es.filter (fun e => e.1 ≠ id), d.mv, d.me.filter (· ≠ id)⟩ := by unfold DF.cutA; rw [if_pos (he.trans h0)]
    rw [e2]
    refine ⟨h.vs.congr fun i => by rw [hi.vs], h.es.filter _, fun e => ?_, h.mv.congr fun i => by rw [m1], rise_filter h.me fun i => ?_⟩
    · rw [hi.es, List.mem_filter, List.mem_filter, h.em]
      simp
    · rw [m2, setB_true]; simp
  · have e1 : F.cutA id = F := by unfold FS.cutA; rw [if_neg h0]
    rw [e1, d.cutA_no he h0]
    exact h

theorem Beside.markVA (h : Beside F d) (hG : F.Good) (v : Int) (on : Bool) (hv : v ∈ F.vs) : F.errV v = 0 ∧ Beside (F.markVA v on) ⟨d.vs, d.es, markL d.mv v on, d.me⟩ := by
  obtain ⟨h1, hi, m1, m2⟩ := markV_is hG ⟨rfl, rfl⟩ v on hv
  exact ⟨h1, h.vs.congr fun i => by rw [hi.vs], h.es, fun e => by rw [hi.es]; exact h.em e, (rise_mark h.mv v on).congr fun i => by rw [m1], h.me.congr fun i => by rw [m2]⟩

theorem Beside.markVA_no (h : Beside F d) (hG : F.Good) (v : Int) (on : Bool) (hv : v ∉ F.vs) : F.errV v = 51 ∧ F.markVA v on = F := by
  refine ⟨F.errV_out hv, ?_⟩
  have hp : F.pv v = none := by
    cases e : F.pv v with
    | none => rfl
    | some a => exact absurd ((hG.vs v).2 (by rw [e]; simp)) hv
  unfold FS.markVA
  rw [hp]

theorem Beside.markEA (h : Beside F d) (hG : F.Good) (v : Int) (on : Bool) (hv : v ∈ Proofs.Ytlakcldgolpaiaa.ids F.edges) : F.errE v = 0 ∧ Beside (F.markEA v on) ⟨d.vs, d.es, d.mv, markL d.me v on⟩ := by
  obtain ⟨h1, hi, m1, m2⟩ := markE_is hG ⟨rfl, rfl⟩ v on hv
  exact ⟨h1, h.vs.congr fun i => by rw [hi.vs], h.es, fun e => by rw [hi.es]; exact h.em e, h.mv.congr fun i => by rw [m1], (rise_mark h.me v on).congr fun i => by rw [m2]⟩

theorem Beside.markEA_no (h : Beside F d) (hG : F.Good) (v : Int) (on : Bool) (hv : v ∉ Proofs.Ytlakcldgolpaiaa.ids F.edges) : F.errE v = 152 ∧ F.markEA v on = F := by
  refine ⟨F.errE_out hv, ?_⟩
  obtain ⟨W, hW⟩ := hG.ok
  have hp : F.pe v = none := by
    cases e : F.pe v with
    | none => rfl
    | some a => exact absurd ((hW.has v).2 (by rw [e]; simp)) hv
  unfold FS.markEA
  rw [hp]

end

end Go.Proofs.Ytlakcldgolpaiaa

/-
  The program's forest in memory with the document's beside it: one contract per call of either.
-/
namespace Go.Proofs.Ytlakcldgolpaiaa
open Go.RowKit Go.Maps
set_option linter.unusedVariables false

theorem RK.stay {α : Type} {enc : α → List Value} {k : Nat} {w w' : World} {B : Nat} {v : Value} {xs : List α} (h : RK enc k w B v xs) (hb : ∀ b, blkOf v = some b → w'.heap[b]? = w.heap[b]?) : RK enc k w' B v xs := by
  obtain ⟨h1, A, c, rfl, h2, h3, h4⟩ := h
  refine ⟨h1, A, c, rfl, h2, h3, ?_⟩
  rcases h4 with h4 | ⟨b, off, rfl, hbl, hc⟩
  · exact .inl h4
  · refine .inr ⟨b, off, rfl, hbl, fun i x hx j u hu => ?_⟩
    exact (World.cell?_of_block (w := w) (hb b rfl)).trans (hc i x hx j u hu)

/-- A row's block lies in memory. -/
theorem RK.blkLt {α : Type} {enc : α → List Value} {k : Nat} {w : World} {B : Nat} {v : Value} {xs : List α} (h : RK enc k w B v xs) (hx : xs ≠ []) {b : Nat} (hb : blkOf v = some b) : b < B := by
  obtain ⟨h1, A, c, rfl, h2, h3, h4⟩ := h
  rcases h4 with h4 | ⟨b', off, rfl, hbl, hc⟩
  · exact absurd h4 hx
  · injection hb with hb
    have hb : b' = b := hb
    omega

/-- A row's block is one of Q, if the row has anything. -/
def InQ {α : Type} (Q : Nat → Prop) (v : Value) (xs : List α) : Prop := xs ≠ [] → ∀ k, blkOf v = some k → Q k

/-- A forest of the program made since w, and one of the document whose rows none of its calls turns. -/
def Two (w wr : World) (f : Nat) (F : FS) (d : DF) (a b c e : Value) : Prop :=
  ∃ Q : Nat → Prop, FB w.heap.size Q wr f F ∧ Below w.heap.size w wr ∧ DocR wr wr.heap.size a b c e d ∧ InQ Q a d.vs ∧ InQ Q b d.es ∧ InQ Q c d.mv ∧ InQ Q e d.me

section

variable {w wr w' : World} {f : Nat} {F : FS} {d : DF} {a b c e : Value}

theorem Two.good (h : Two w wr f F d a b c e) : F.Good := by obtain ⟨Q, h1, -⟩ := h; exact h1.good

theorem Two.low (h : Two w wr f F d a b c e) : Below w.heap.size w wr := by obtain ⟨Q, -, h2, -⟩ := h; exact h2

theorem Two.doc (h : Two w wr f F d a b c e) : DocR wr wr.heap.size a b c e d := by obtain ⟨Q, -, -, h3, -⟩ := h; exact h3

theorem row_stay {α : Type} {enc : α → List Value} {k : Nat} {v : Value} {xs : List α} {Q : Nat → Prop} (h : RK enc k wr wr.heap.size v xs) (ht : TameF w.heap.size Q wr w') (hq : InQ Q v xs) : RK enc k w' w'.heap.size v xs := by
  by_cases hx : xs = []
  · subst hx
    obtain ⟨h1, A, c, rfl, h2, h3, h4⟩ := h
    exact ⟨h1, A, c, rfl, h2, h3, .inl rfl⟩
  · exact (h.stay fun b hb => ht.kept b (hq hx b hb) (h.blkLt hx hb)).more ht.size

/-- The program's forest turns. -/
theorem two_turn {F' : FS} {Q : Nat → Prop} (h2 : Below w.heap.size w wr) (h3 : DocR wr wr.heap.size a b c e d) (ha : InQ Q a d.vs) (hb : InQ Q b d.es) (hc : InQ Q c d.mv) (he : InQ Q e d.me) (hF : FB w.heap.size Q w' f F') (ht : TameF w.heap.size Q wr w') : Two w w' f F' d a b c e :=
  ⟨Q, hF, h2.trans ht.below, ⟨row_stay h3.vs ht ha, row_stay h3.es ht hb, row_stay h3.mv ht hc, row_stay h3.me ht he⟩, ha, hb, hc, he⟩

theorem inQ_step {α : Type} {enc : α → List Value} {k : Nat} {v v' : Value} {xs xs' : List α} {Q : Nat → Prop} (h : RK enc k wr wr.heap.size v xs) (h' : RK enc k w' w'.heap.size v' xs') (hq : InQ Q v xs) (ho : OldNew wr v v') : InQ (fun k => Q k ∨ wr.heap.size ≤ k ∧ k < w'.heap.size) v' xs' := by
  intro hx b hb
  rcases ho with rfl | ho
  · refine .inl (hq (fun e => hx ?_) b hb)
    obtain ⟨-, A, c, rfl, -⟩ := h
    obtain ⟨-, A', c', e', -⟩ := h'
    injection e' with e1 e2 e3
    rw [e] at e2
    exact List.eq_nil_of_length_eq_zero e2.symm
  · exact .inr ⟨ho b hb, h'.blkLt hx hb⟩

/-- The document's forest turns. -/
theorem Two.docTurn {d' : DF} {a' b' c' e' : Value} (h : Two w wr f F d a b c e) (hb : Below wr.heap.size wr w') (hd : DocR w' w'.heap.size a' b' c' e' d') (na : OldNew wr a a') (nb : OldNew wr b b') (nc : OldNew wr c c') (ne : OldNew wr e e') : Two w w' f F d' a' b' c' e' := by
  obtain ⟨Q, h1, h2, h3, qa, qb, qc, qe⟩ := h
  exact ⟨fun k => Q k ∨ wr.heap.size ≤ k ∧ k < w'.heap.size, h1.more hb fun k hk => hk, h2.trans (hb.mono h2.size), hd, inQ_step h3.vs hd.vs qa na, inQ_step h3.es hd.es qb nb, inQ_step h3.mv hd.mv qc nc, inQ_step h3.me hd.me qe ne⟩

/-- Something was made beside both. -/
theorem Two.below (h : Two w wr f F d a b c e) (hb : Below wr.heap.size wr w') : Two w w' f F d a b c e :=
  h.docTurn hb (h.doc.stay hb) (.old _ _) (.old _ _) (.old _ _) (.old _ _)

end

end Go.Proofs.Ytlakcldgolpaiaa

/-
  The program's forest with the document's beside it: one contract per call of either. No walk.
-/
namespace Go.Proofs.Ytlakcldgolpaiaa
open Go.RowKit Go.Maps
set_option linter.unusedVariables false

/-- All blocks of a type that forests don't have stay. -/
def Kept (w w' : World) : Prop := w.heap.size ≤ w'.heap.size ∧ ∀ (k : Nat) (cs : Array Value) (t : TypeId) (fr : Nat × Nat), w.heap[k]? = some (Obj.cells cs t fr) → NotF t → w'.heap[k]? = some (Obj.cells cs t fr)

theorem Kept.of_tame {B : Nat} {Q : Nat → Prop} {w w' : World} (h : TameF B Q w w') : Kept w w' := ⟨h.size, fun k cs t fr h1 h2 => h.rows k cs t fr h1 h2⟩

theorem Kept.of_below {w w' : World} (h : Below w.heap.size w w') : Kept w w' := ⟨h.size, fun k cs t fr h1 _ => (h.block k (Array.getElem?_eq_some_iff.1 h1).1).trans h1⟩

theorem Kept.blk {w w' : World} {q : Nat} {t : TypeId} {cs : Array Value} (h : Kept w w') (hb : Blk w q t cs) (hn : NotF t) : Blk w' q t cs := h.2 _ _ _ _ hb hn

theorem Kept.trans {w w1 w' : World} (h : Kept w w1) (h' : Kept w1 w') : Kept w w' := ⟨Nat.le_trans h.1 h'.1, fun k cs t fr h1 h2 => h'.2 k cs t fr (h.2 k cs t fr h1 h2) h2⟩

/-- A block that was made since is written over. -/
theorem Kept.far {w w1 : World} {p i : Nat} (h : Kept w w1) (hp : w.heap.size ≤ p) (u : Value) : Kept w (w1.setCell ⟨p, i, none⟩ u) := by
  refine ⟨by simpa using h.1, fun k cs t fr h1 h2 => (Below.heap_setCell w1 ⟨p, i, none⟩ u k fun e => ?_).trans (h.2 k cs t fr h1 h2)⟩
  have e : k = p := e
  have := (Array.getElem?_eq_some_iff.1 h1).1
  omega

theorem Kept.far4 {w w1 : World} {p : Nat} (h : Kept w w1) (hp : w.heap.size ≤ p) (x y z u : Value) : Kept w ((((w1.setCell ⟨p, 0, none⟩ x).setCell ⟨p, 1, none⟩ y).setCell ⟨p, 2, none⟩ z).setCell ⟨p, 3, none⟩ u) := (((h.far hp x).far hp y).far hp z).far hp u

theorem OldNew.mono {w w2 : World} {a a' : Value} (h : OldNew w2 a a') (hs : w.heap.size ≤ w2.heap.size) : OldNew w a a' := h.imp id fun h k hk => Nat.le_trans hs (h k hk)

section

variable {w wr w' : World} {f : Nat} {F : FS} {d : DF} {a b c e : Value}

/-- A row that is the old one or new still doesn't lie in an older box. -/
theorem off_keep {α : Type} {enc : α → List Value} {k q : Nat} {w0 w3 : World} {v v' : Value} {xs xs' : List α} (hq : InQ (fun k => k ≠ q) v xs) (h : RK enc k w0 w0.heap.size v xs) (h' : RK enc k w3 w3.heap.size v' xs') (ho : OldNew w0 v v') (h0 : q < w0.heap.size) : InQ (fun k => k ≠ q) v' xs' := by
  intro hx b hb
  rcases ho with rfl | ho
  · refine hq (fun e => hx ?_) b hb
    subst e
    obtain ⟨-, A, c, rfl, -⟩ := h
    obtain ⟨-, A', c', e', -⟩ := h'
    injection e' with e1 e2 e3
    exact List.eq_nil_of_length_eq_zero e2.symm
  · have := ho b hb
    show b ≠ q
    omega

/-- The four rows as slices. -/
def Sl4 (a b c e : Value) : Prop := ∃ X0 n0 m0 X1 n1 m1 X2 n2 m2 X3 n3 m3, a = .slice X0 n0 m0 ∧ b = .slice X1 n1 m1 ∧ c = .slice X2 n2 m2 ∧ e = .slice X3 n3 m3

theorem DocR.sl4 {B : Nat} (h : DocR w B a b c e d) : Sl4 a b c e := by
  obtain ⟨A0, c0, h0, -⟩ := h.vs.open_
  obtain ⟨A1, c1, h1, -⟩ := h.es.open_
  obtain ⟨A2, c2, h2, -⟩ := h.mv.open_
  obtain ⟨A3, c3, h3, -⟩ := h.me.open_
  exact ⟨A0, _, c0, A1, _, c1, A2, _, c2, A3, _, c3, h0, h1, h2, h3⟩

/-- A row that is the old one or new doesn't lie in a box made between. -/
theorem off_new {α : Type} {enc : α → List Value} {k q : Nat} {w0 w2 w3 : World} {v v' : Value} {xs xs' : List α} (h : RK enc k w0 w0.heap.size v xs) (h' : RK enc k w3 w3.heap.size v' xs') (ho : OldNew w2 v v') (h0 : w0.heap.size ≤ q) (h2 : q < w2.heap.size) : InQ (fun k => k ≠ q) v' xs' := by
  intro hx b hb
  rcases ho with rfl | ho
  · have hne : xs ≠ [] := by
      intro e
      subst e
      refine hx ?_
      obtain ⟨-, A, c, rfl, -⟩ := h
      obtain ⟨-, A', c', e', -⟩ := h'
      injection e' with e1 e2 e3
      exact List.eq_nil_of_length_eq_zero e2.symm
    have := h.blkLt hne hb
    show b ≠ q
    omega
  · have := ho b hb
    show b ≠ q
    omega

theorem rk_far {α : Type} {enc : α → List Value} {k : Nat} {v : Value} {xs : List α} (h : RK enc k wr wr.heap.size v xs) (hb : ∀ b, (xs ≠ [] → blkOf v = some b → w'.heap[b]? = wr.heap[b]?)) (hs : wr.heap.size ≤ w'.heap.size) : RK enc k w' w'.heap.size v xs := by
  by_cases hx : xs = []
  · subst hx
    obtain ⟨h1, A, c, rfl, h2, h3, h4⟩ := h
    exact ⟨h1, A, c, rfl, h2, h3, .inl rfl⟩
  · exact (h.stay fun b hb' => hb b hx hb').more hs

/-- A box beside both is written over. -/
theorem Two.far (h : Two w wr f F d a b c e) {p i : Nat} {t : TypeId} {cs : Array Value} (hb : Blk wr p t cs) (hn : NotF t) (hp : w.heap.size ≤ p) (oa : InQ (fun k => k ≠ p) a d.vs) (ob : InQ (fun k => k ≠ p) b d.es) (oc : InQ (fun k => k ≠ p) c d.mv) (oe : InQ (fun k => k ≠ p) e d.me) (u : Value) :
    Two w (wr.setCell ⟨p, i, none⟩ u) f F d a b c e := by
  obtain ⟨Q, h1, h2, h3, qa, qb, qc, qe⟩ := h
  have hh : ∀ k, k ≠ p → (wr.setCell ⟨p, i, none⟩ u).heap[k]? = wr.heap[k]? := fun k hk => Below.heap_setCell wr ⟨p, i, none⟩ u k hk
  have hsz : wr.heap.size ≤ (wr.setCell ⟨p, i, none⟩ u).heap.size := by simp
  exact ⟨Q, h1.far hb hn u, h2.setCell (p := ⟨p, i, none⟩) hp u, ⟨rk_far h3.vs (fun k hx hk => hh k (oa hx k hk)) hsz, rk_far h3.es (fun k hx hk => hh k (ob hx k hk)) hsz, rk_far h3.mv (fun k hx hk => hh k (oc hx k hk)) hsz, rk_far h3.me (fun k hx hk => hh k (oe hx k hk)) hsz⟩, qa, qb, qc, qe⟩

theorem Two.far4 (h : Two w wr f F d a b c e) {p : Nat} {t : TypeId} {cs : Array Value} (hb : Blk wr p t cs) (hn : NotF t) (hp : w.heap.size ≤ p) (oa : InQ (fun k => k ≠ p) a d.vs) (ob : InQ (fun k => k ≠ p) b d.es) (oc : InQ (fun k => k ≠ p) c d.mv) (oe : InQ (fun k => k ≠ p) e d.me) (x y z u : Value) :
    Two w ((((wr.setCell ⟨p, 0, none⟩ x).setCell ⟨p, 1, none⟩ y).setCell ⟨p, 2, none⟩ z).setCell ⟨p, 3, none⟩ u) f F d a b c e :=
  (((h.far hb hn hp oa ob oc oe x).far (hb.set_ 0 x) hn hp oa ob oc oe y).far ((hb.set_ 0 x).set_ 1 y) hn hp oa ob oc oe z).far (((hb.set_ 0 x).set_ 1 y).set_ 2 z) hn hp oa ob oc oe u

theorem tAddV (h : Two w wr f F d a b c e) (v : Int) (hv : I64 v) : Calls Try.prog 32 #[.pointer (some ⟨f, 0, none⟩), .int .i64 v] wr fun r w' => r = .returned (.int .i64 (F.addE v)) ∧ Two w w' f (F.addA v) d a b c e ∧ Kept wr w' := by
  obtain ⟨Q, h1, h2, h3, qa, qb, qc, qe⟩ := h
  refine (bAddV w.heap.size Q wr f F h1 h2.size v hv).mono ?_
  rintro r w' ⟨rfl, hF, ht⟩
  exact ⟨rfl, two_turn h2 h3 qa qb qc qe hF ht, Kept.of_tame ht⟩

theorem tDelV (h : Two w wr f F d a b c e) (v : Int) (hv : I64 v) : Calls Try.prog 37 #[.pointer (some ⟨f, 0, none⟩), .int .i64 v] wr fun r w' => r = .returned (.int .i64 (F.delE v)) ∧ Two w w' f (F.delA v) d a b c e ∧ Kept wr w' := by
  obtain ⟨Q, h1, h2, h3, qa, qb, qc, qe⟩ := h
  refine (bDelV w.heap.size Q wr f F h1 h2.size v hv).mono ?_
  rintro r w' ⟨rfl, hF, ht⟩
  exact ⟨rfl, two_turn h2 h3 qa qb qc qe hF ht, Kept.of_tame ht⟩

theorem tLink (h : Two w wr f F d a b c e) (id u v : Int) (hi : I64 id) (hu : I64 u) (hv : I64 v) : Calls Try.prog 18 #[.pointer (some ⟨f, 0, none⟩), .int .i64 id, .int .i64 u, .int .i64 v] wr fun r w' => r = .returned (.int .i64 (F.linkE id u v)) ∧ Two w w' f (F.linkA id u v) d a b c e ∧ Kept wr w' := by
  obtain ⟨Q, h1, h2, h3, qa, qb, qc, qe⟩ := h
  refine (bLink w.heap.size Q wr f F h1 h2.size id u v hi hu hv).mono ?_
  rintro r w' ⟨rfl, hF, ht⟩
  exact ⟨rfl, two_turn h2 h3 qa qb qc qe hF ht, Kept.of_tame ht⟩

theorem tCut (h : Two w wr f F d a b c e) (id : Int) (hi : I64 id) : Calls Try.prog 23 #[.pointer (some ⟨f, 0, none⟩), .int .i64 id] wr fun r w' => r = .returned (.int .i64 (F.cutE id)) ∧ Two w w' f (F.cutA id) d a b c e ∧ Kept wr w' := by
  obtain ⟨Q, h1, h2, h3, qa, qb, qc, qe⟩ := h
  refine (bCut w.heap.size Q wr f F h1 h2.size id hi).mono ?_
  rintro r w' ⟨rfl, hF, ht⟩
  exact ⟨rfl, two_turn h2 h3 qa qb qc qe hF ht, Kept.of_tame ht⟩

theorem tMarkV (h : Two w wr f F d a b c e) (v : Int) (hv : I64 v) (on : Bool) : Calls Try.prog 34 #[.pointer (some ⟨f, 0, none⟩), .int .i64 v, .bool on] wr fun r w' => r = .returned (.int .i64 (F.errV v)) ∧ Two w w' f (F.markVA v on) d a b c e ∧ Kept wr w' := by
  obtain ⟨Q, h1, h2, h3, qa, qb, qc, qe⟩ := h
  refine (bMarkV w.heap.size Q wr f F h1 h2.size v hv on).mono ?_
  rintro r w' ⟨rfl, hF, ht⟩
  exact ⟨rfl, two_turn h2 h3 qa qb qc qe hF ht, Kept.of_tame ht⟩

theorem tMarkE (h : Two w wr f F d a b c e) (v : Int) (hv : I64 v) (on : Bool) : Calls Try.prog 26 #[.pointer (some ⟨f, 0, none⟩), .int .i64 v, .bool on] wr fun r w' => r = .returned (.int .i64 (F.errE v)) ∧ Two w w' f (F.markEA v on) d a b c e ∧ Kept wr w' := by
  obtain ⟨Q, h1, h2, h3, qa, qb, qc, qe⟩ := h
  refine (bMarkE w.heap.size Q wr f F h1 h2.size v hv on).mono ?_
  rintro r w' ⟨rfl, hF, ht⟩
  exact ⟨rfl, two_turn h2 h3 qa qb qc qe hF ht, Kept.of_tame ht⟩

theorem dAddV (h : Two w wr f F d a b c e) (hd : d.Fit ∧ d.mv.length ≤ 4096 ∧ d.me.length ≤ 4096) (v : Int) : Calls Try.prog 28 #[.agg #[a, b, c, e], .int .i64 v] wr fun r w' => ∃ a' b' c' e', r = .returned (.tuple #[.agg #[a', b', c', e'], .int .i64 (d.addE v)]) ∧ Two w w' f F (d.addA v) a' b' c' e' ∧ Below wr.heap.size wr w' ∧ OldNew wr a a' ∧ OldNew wr b b' ∧ OldNew wr c c' ∧ OldNew wr e e' := by
  refine (refAddV_any wr a b c e d v h.doc hd.1).mono ?_
  rintro r w' ⟨a', b', c', e', rfl, h1, h2, h3, h4, h5, h6⟩
  exact ⟨a', b', c', e', rfl, h.docTurn h2 h1 h3 h4 h5 h6, h2, h3, h4, h5, h6⟩

theorem dDelV (h : Two w wr f F d a b c e) (hd : d.Fit ∧ d.mv.length ≤ 4096 ∧ d.me.length ≤ 4096) (v : Int) : Calls Try.prog 29 #[.agg #[a, b, c, e], .int .i64 v] wr fun r w' => ∃ a' b' c' e', r = .returned (.tuple #[.agg #[a', b', c', e'], .int .i64 (d.delE v)]) ∧ Two w w' f F (d.delA v) a' b' c' e' ∧ Below wr.heap.size wr w' ∧ OldNew wr a a' ∧ OldNew wr b b' ∧ OldNew wr c c' ∧ OldNew wr e e' := by
  refine (refDelV_any wr a b c e d v h.doc hd.1 hd.2.1).mono ?_
  rintro r w' ⟨a', b', c', e', rfl, h1, h2, h3, h4, h5, h6⟩
  exact ⟨a', b', c', e', rfl, h.docTurn h2 h1 h3 h4 h5 h6, h2, h3, h4, h5, h6⟩

theorem dLink (h : Two w wr f F d a b c e) (hd : d.Fit ∧ d.mv.length ≤ 4096 ∧ d.me.length ≤ 4096) (id u v : Int) : Calls Try.prog 30 #[.agg #[a, b, c, e], .agg #[.int .i64 id, .int .i64 u, .int .i64 v, .int .i64 0]] wr fun r w' => ∃ a' b' c' e', r = .returned (.tuple #[.agg #[a', b', c', e'], .int .i64 (d.linkE id u v)]) ∧ Two w w' f F (d.linkA id u v) a' b' c' e' ∧ Below wr.heap.size wr w' ∧ OldNew wr a a' ∧ OldNew wr b b' ∧ OldNew wr c c' ∧ OldNew wr e e' := by
  refine (refLink_any wr a b c e d id u v h.doc hd.1).mono ?_
  rintro r w' ⟨a', b', c', e', rfl, h1, h2, h3, h4, h5, h6⟩
  exact ⟨a', b', c', e', rfl, h.docTurn h2 h1 h3 h4 h5 h6, h2, h3, h4, h5, h6⟩

theorem dCut (h : Two w wr f F d a b c e) (hd : d.Fit ∧ d.mv.length ≤ 4096 ∧ d.me.length ≤ 4096) (v : Int) : Calls Try.prog 31 #[.agg #[a, b, c, e], .int .i64 v] wr fun r w' => ∃ a' b' c' e', r = .returned (.tuple #[.agg #[a', b', c', e'], .int .i64 (d.cutE v)]) ∧ Two w w' f F (d.cutA v) a' b' c' e' ∧ Below wr.heap.size wr w' ∧ OldNew wr a a' ∧ OldNew wr b b' ∧ OldNew wr c c' ∧ OldNew wr e e' := by
  refine (refCut_any wr a b c e d v h.doc hd.1 hd.2.2).mono ?_
  rintro r w' ⟨a', b', c', e', rfl, h1, h2, h3, h4, h5, h6⟩
  exact ⟨a', b', c', e', rfl, h.docTurn h2 h1 h3 h4 h5 h6, h2, h3, h4, h5, h6⟩

theorem tVerts (h : Two w wr f F d a b c e) (u : Int) (hu : I64 u) : Calls Try.prog 16 #[.pointer (some ⟨f, 0, none⟩), .int .i64 u] wr fun r w' => ∃ v, r = .returned (.tuple #[v, .int .i64 (F.errV u)]) ∧ OK encI 1 3 w' wr.heap.size v (F.treeV u) ∧ Below wr.heap.size wr w' := by
  obtain ⟨Q, h1, h2, -⟩ := h
  exact bVerts w.heap.size Q wr f F h1 u hu

theorem tEdges (h : Two w wr f F d a b c e) (u : Int) (hu : I64 u) : Calls Try.prog 17 #[.pointer (some ⟨f, 0, none⟩), .int .i64 u] wr fun r w' => ∃ v, r = .returned (.tuple #[v, .int .i64 (F.errV u)]) ∧ OK encI 1 3 w' wr.heap.size v (F.treeE u) ∧ Below wr.heap.size wr w' := by
  obtain ⟨Q, h1, h2, -⟩ := h
  exact bEdges w.heap.size Q wr f F h1 u hu

theorem tSize (h : Two w wr f F d a b c e) (u : Int) (hu : I64 u) : Calls Try.prog 24 #[.pointer (some ⟨f, 0, none⟩), .int .i64 u] wr fun r w' => r = .returned (.tuple #[.int .i64 ((F.treeV u).length : Nat), .int .i64 (F.errV u)]) ∧ Below wr.heap.size wr w' := by
  obtain ⟨Q, h1, h2, -⟩ := h
  exact bSize w.heap.size Q wr f F h1 u hu

theorem tJoined (h : Two w wr f F d a b c e) (u v : Int) (hu : I64 u) (hv : I64 v) : Calls Try.prog 25 #[.pointer (some ⟨f, 0, none⟩), .int .i64 u, .int .i64 v] wr fun r w' => r = .returned (.tuple #[.bool (F.joinB u v), .int .i64 (F.joinX u v)]) ∧ w' = wr := by
  obtain ⟨Q, h1, h2, -⟩ := h
  exact bJoined w.heap.size Q wr f F h1 u v hu hv

theorem tHas (h : Two w wr f F d a b c e) (id : Int) (hi : I64 id) : Calls Try.prog 13 #[.pointer (some ⟨f, 0, none⟩), .int .i64 id] wr fun r w' => r = .returned (.bool (decide (id ∈ ids F.edges))) ∧ Below wr.heap.size wr w' := by
  obtain ⟨Q, h1, h2, -⟩ := h
  exact bHas w.heap.size Q wr f F h1 id hi

theorem tLen (h : Two w wr f F d a b c e)  : Calls Try.prog 12 #[.pointer (some ⟨f, 0, none⟩)] wr fun r w' => r = .returned (.int .i64 (F.vs.length : Nat)) ∧ w' = wr := by
  obtain ⟨Q, h1, h2, -⟩ := h
  exact bLen w.heap.size Q wr f F h1

theorem tSomeV (h : Two w wr f F d a b c e) (u : Int) (hu : I64 u) : Calls Try.prog 33 #[.pointer (some ⟨f, 0, none⟩), .int .i64 u] wr fun r w' => (∃ x, r = .returned (.tuple #[.int .i64 x, .int .i64 (F.errV u)]) ∧ (u ∈ F.vs → SomeOk (fun i => F.inV u i ∧ F.mv i = true) x) ∧ (u ∉ F.vs → x = 0)) ∧ Below wr.heap.size wr w' := by
  obtain ⟨Q, h1, h2, -⟩ := h
  exact bSomeV w.heap.size Q wr f F h1 u hu

theorem tSomeE (h : Two w wr f F d a b c e) (u : Int) (hu : I64 u) : Calls Try.prog 27 #[.pointer (some ⟨f, 0, none⟩), .int .i64 u] wr fun r w' => (∃ x, r = .returned (.tuple #[.int .i64 x, .int .i64 (F.errV u)]) ∧ (u ∈ F.vs → SomeOk (fun i => F.inE u i ∧ F.me i = true) x) ∧ (u ∉ F.vs → x = 0)) ∧ Below wr.heap.size wr w' := by
  obtain ⟨Q, h1, h2, -⟩ := h
  exact bSomeE w.heap.size Q wr f F h1 u hu

/-- The marked vertices' row is another one from now on. -/
theorem Two.setMv (h : Two w wr f F d a b c e) {x : Value} {xs : List Int} (hb : Below wr.heap.size wr w') (ho : OK encI 1 3 w' wr.heap.size x xs) : Two w w' f F ⟨d.vs, d.es, xs, d.me⟩ a b x e :=
  have hd := h.doc.stay hb
  h.docTurn hb ⟨hd.vs, hd.es, ho.rk encI_len (Nat.le_refl _), hd.me⟩ (.old _ _) (.old _ _) (.inr fun k hk => ho.blkOf hk) (.old _ _)

theorem Two.setMe (h : Two w wr f F d a b c e) {x : Value} {xs : List Int} (hb : Below wr.heap.size wr w') (ho : OK encI 1 3 w' wr.heap.size x xs) : Two w w' f F ⟨d.vs, d.es, d.mv, xs⟩ a b c x :=
  have hd := h.doc.stay hb
  h.docTurn hb ⟨hd.vs, hd.es, hd.mv, ho.rk encI_len (Nat.le_refl _)⟩ (.old _ _) (.old _ _) (.old _ _) (.inr fun k hk => ho.blkOf hk)

end

end Go.Proofs.Ytlakcldgolpaiaa
