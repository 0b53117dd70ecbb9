/-
  Plain words on the forest: its edges in the order of ids, whom they join, how many they are, which edges are left out. No walk.
-/
import Derived.Test.YtghacfhpafbdmaaGreatZT12
import Derived.Test.YtghacfhpafbdmaaGreatT1
namespace Go.Proofs.YtghacfhpafbdmaaGreat
set_option linter.unusedVariables false

/-- The forest's edges by their ids. -/
def bareE (V : List Int) (E : List Ed) : List Ed := (forestL V E).map (edIn E)
section
variable {V : List Int} {E : List Ed}
theorem forestL_perm (V : List Int) (E : List Ed) : (forestL V E).Perm ((forE V E).map (·.id)) := List.mergeSort_perm _ _
theorem mem_forestL {i : Int} : i ∈ forestL V E ↔ ∃ e ∈ forE V E, e.id = i := by
  rw [(forestL_perm V E).mem_iff]
  simp
theorem forestL_len (V : List Int) (E : List Ed) : (forestL V E).length = (forE V E).length := by rw [(forestL_perm V E).length_eq, List.length_map]
theorem forE_nodup (hr : Right V E) : (forE V E).Nodup := by
  have h1 : (sortE E).Nodup := (sortE_perm E).nodup_iff.2 (hr.eup.imp (fun {a b} h e => by subst e; omega))
  exact h1.sublist (krus_sublist _ _ _)
theorem forestL_up (hr : Right V E) : (forestL V E).Pairwise (· < ·) := by
  have h1 : (forestL V E).Pairwise (fun x y => decide (x ≤ y) = true) := List.pairwise_mergeSort (fun a b c h1 h2 => by simp at *; omega) (fun a b => by simp; omega) _
  have h2 : (forestL V E).Nodup := (forestL_perm V E).nodup_iff.2 (ids_nodup hr.eup (forE_sub V E) (forE_nodup hr))
  refine List.Pairwise.imp₂ ?_ h1 h2
  intro a b h3 h4
  simp at h3
  omega
theorem bare_ids (hr : Right V E) : (bareE V E).map (·.id) = forestL V E := by
  unfold bareE
  rw [List.map_map]
  conv => rhs; rw [← List.map_id (forestL V E)]
  apply List.map_congr_left
  intro i hi
  obtain ⟨e, he, rfl⟩ := mem_forestL.1 hi
  show (edIn E e.id).id = e.id
  rw [edIn_of hr.eup (forE_sub V E e he)]
theorem mem_bare (hr : Right V E) {e : Ed} : e ∈ bareE V E ↔ e ∈ forE V E := by
  unfold bareE
  rw [List.mem_map]
  constructor
  · rintro ⟨i, hi, rfl⟩
    obtain ⟨x, hx, rfl⟩ := mem_forestL.1 hi
    rw [edIn_of hr.eup (forE_sub V E x hx)]; exact hx
  · intro he
    exact ⟨e.id, mem_forestL.2 ⟨e, he, rfl⟩, edIn_of hr.eup (forE_sub V E e he)⟩
theorem bare_len (V : List Int) (E : List Ed) : (bareE V E).length = (forE V E).length := by unfold bareE; rw [List.length_map, forestL_len]
theorem bare_up (hr : Right V E) : (bareE V E).Pairwise (fun a b => a.id < b.id) := by
  have := forestL_up hr
  rw [← bare_ids hr, List.pairwise_map] at this
  exact this
theorem okE_mk : ∀ (F : List Ed) (last : Int), F.Pairwise (fun a b => a.id < b.id) → (∀ e ∈ F, last < e.id ∧ 1 ≤ e.id ∧ e.id ≤ 2147483647 ∧ 0 ≤ e.w ∧ e.w ≤ 1099511627776 ∧ e.u ∈ V ∧ e.v ∈ V) → okE V last F = true
  | [], _, _, _ => rfl
  | e :: r, last, hp, h => by
    obtain ⟨h1, h2⟩ := List.pairwise_cons.1 hp
    obtain ⟨a1, a2, a3, a4, a5, a6, a7⟩ := h e (by simp)
    simp only [okE, Bool.and_eq_true, decide_eq_true_eq, idB_iff, List.contains_iff_mem]
    refine ⟨⟨⟨⟨⟨a2, a3⟩, a1⟩, a4, a5⟩, a6, a7⟩, okE_mk r e.id h2 fun x hx => ?_⟩
    obtain ⟨_, b⟩ := h x (by simp [hx])
    exact ⟨h1 x hx, b⟩
theorem bare_right (hr : Right V E) (hv : rightV V = true) : rightN V (bareE V E) = true := by
  unfold rightN rightE
  rw [hv, Bool.true_and, decide_eq_true (by rw [bare_len]; exact Nat.le_trans (forE_len V E) hr.elen), Bool.true_and]
  apply okE_mk _ _ (bare_up hr)
  intro e he
  have he := forE_sub V E e ((mem_bare hr).1 he)
  have hid := hr.eid e he
  have hw := hr.ew e he
  exact ⟨by omega, by omega, by omega, by omega, by omega, hr.eu e he, hr.ev e he⟩
theorem labs_bare (hr : Right V E) (hv : rightV V = true) : labs V (bareE V E) = labs V E := by
  have hb := right_of (bare_right hr hv)
  refine labs_eq (n := V.length) (labs_ok hb.vup fun e he => ⟨hb.eu e he, hb.ev e he⟩) (labs_ok hr.vup fun e he => ⟨hr.eu e he, hr.ev e he⟩) (labs_len _ _) (labs_len _ _) ?_
  intro i j hi hj
  rw [labs_cn hr hi hj]
  have h1 := lab_iff_cn (f := plE V) (bareE V E) (plE_lt hb) i j hi hj
  show lab (labsF (plE V) (List.range V.length) (bareE V E)) i = lab (labsF (plE V) (List.range V.length) (bareE V E)) j ↔ _
  rw [h1]
  exact ⟨fun h => h.mono fun e he => (mem_bare hr).1 he, fun h => h.mono fun e he => (mem_bare hr).2 he⟩
theorem trees_bare (hr : Right V E) (hv : rightV V = true) : treesL V (bareE V E) = treesL V E := by
  unfold treesL
  rw [labs_bare hr hv]

/-! ### Sums -/
theorem sumW_perm {p q : List Ed} (h : p.Perm q) : sumW p = sumW q := by
  induction h with
  | nil => rfl
  | cons x _ ih => rw [sumW_cons, sumW_cons, ih]
  | swap x y l => rw [sumW_cons, sumW_cons, sumW_cons, sumW_cons]; omega
  | trans _ _ ih1 ih2 => exact ih1.trans ih2
theorem bare_perm (hr : Right V E) : (bareE V E).Perm (forE V E) := by
  have h1 : (bareE V E).Nodup := (bare_up hr).imp (fun {a b} h e => by subst e; omega)
  exact (List.perm_ext_iff_of_nodup h1 (forE_nodup hr)).2 fun e => mem_bare hr
theorem bare_sum (hr : Right V E) : sumW (bareE V E) = weightV V E := sumW_perm (bare_perm hr)

/-! ### How many -/
theorem filter_ne_len {x : Nat} : ∀ (l : List Nat), l.Nodup → x ∈ l → (l.filter (· != x)).length + 1 = l.length
  | [], _, h => by cases h
  | y :: r, hn, h => by
    obtain ⟨h1, h2⟩ := List.nodup_cons.1 hn
    by_cases hy : y = x
    · subst hy
      have : r.filter (· != y) = r := List.filter_eq_self.2 fun z hz => by
        rw [bne_iff_ne]
        intro e
        subst e
        exact h1 hz
      rw [List.filter_cons_of_neg (by simp), this]; rfl
    · have hx : x ∈ r := (List.mem_cons.1 h).resolve_left (Ne.symm hy)
      rw [List.filter_cons_of_pos (by simpa using hy), List.length_cons, List.length_cons, filter_ne_len r h2 hx]
theorem firsts_join {L : List Nat} {n i j : Nat} (h : LabOk L) (hl : L.length = n) (hi : i < n) (hj : j < n) (hne : lab L i ≠ lab L j) : (firsts (joinL L i j) n).length + 1 = (firsts L n).length := by
  have e : firsts (joinL L i j) n = (firsts L n).filter (· != max (lab L i) (lab L j)) := by
    unfold firsts
    rw [List.filter_filter]
    apply List.filter_congr
    intro k hk
    have hk := List.mem_range.1 hk
    have h1 := h.le k (by omega)
    rw [lab_joinL (by omega), Bool.eq_iff_iff]
    simp only [beq_iff_eq, Bool.and_eq_true, bne_iff_ne, ne_eq]
    unfold ren
    split <;> constructor <;> intro h2 <;> omega
  rw [e]
  refine filter_ne_len _ ((firsts_up L n).imp (fun {a b} h => Nat.ne_of_lt h)) (mem_firsts.2 ?_)
  have a1 := h.le i (by omega)
  have a2 := h.le j (by omega)
  have a3 := h.fix i (by omega)
  have a4 := h.fix j (by omega)
  rcases Nat.le_total (lab L i) (lab L j) with h5 | h5
  · rw [Nat.max_eq_right h5]; exact ⟨by omega, a4⟩
  · rw [Nat.max_eq_left h5]; exact ⟨by omega, a3⟩
theorem krus_count (f : Ed → Nat × Nat) {n : Nat} : ∀ (es : List Ed) (L : List Nat), LabOk L → L.length = n → (∀ e ∈ es, (f e).1 < n ∧ (f e).2 < n) → (firsts (labsF f L es) n).length + (krus f L es).length = (firsts L n).length
  | [], L, _, _, _ => by simp [labsF, krus]
  | e :: r, L, h, hl, hb => by
    have he := hb e (by simp)
    have hr' : ∀ x ∈ r, (f x).1 < n ∧ (f x).2 < n := fun x hx => hb x (by simp [hx])
    rw [labsF_cons]
    unfold krus
    split
    · rename_i hs
      rw [joinL_same hs]
      exact krus_count f r L h hl hr'
    · rename_i hs
      have h1 := krus_count f r (joinL L (f e).1 (f e).2) (h.join (by omega) (by omega)) (by simpa using hl) hr'
      have h2 := firsts_join h hl he.1 he.2 hs
      rw [List.length_cons]
      omega
theorem firsts_range (n : Nat) : (firsts (List.range n) n).length = n := by
  unfold firsts
  rw [List.filter_eq_self.2 fun k hk => by rw [lab_range n k (List.mem_range.1 hk)]; simp, List.length_range]
theorem forest_count (hr : Right V E) : (treesL V E).length + (forestL V E).length = V.length := by
  have hs : ∀ e ∈ sortE E, (plE V e).1 < V.length ∧ (plE V e).2 < V.length := fun e he => plE_lt hr e ((sortE_perm E).mem_iff.1 he)
  have h1 := krus_count (plE V) (sortE E) (List.range V.length) (labOk_range _) (by simp) hs
  rw [firsts_range] at h1
  have h2 : labsF (plE V) (List.range V.length) (sortE E) = labs V E := by
    refine labs_eq (n := V.length) (LabOk.fold (labOk_range _) (by simpa using hs)) (labs_ok hr.vup fun e he => ⟨hr.eu e he, hr.ev e he⟩) (by rw [length_labsF, List.length_range]) (labs_len _ _) ?_
    intro i j hi hj
    rw [labs_cn hr hi hj, forE_cn hr hi hj, lab_iff_cn (f := plE V) (sortE E) hs i j hi hj]
    exact ⟨fun h => h.mono fun e he => (sortE_perm E).mem_iff.1 he, fun h => h.mono fun e he => (sortE_perm E).mem_iff.2 he⟩
  rw [h2] at h1
  rw [(parts_of hr).eq, List.length_map, forestL_len]
  exact h1

/-! ### The path between an edge's ends -/
theorem edge_path (hr : Right V E) (hn : rightN V E = true) {x : Ed} (hx : x ∈ E) : pathErr V E x.u x.v = 0 := by
  have hu := hr.eu x hx
  have hv := hr.ev x hx
  unfold pathErr
  rw [if_pos (chk_yes hn (by intro z hz; simp at hz; rcases hz with rfl | rfl <;> assumption))]
  have : pathK V E x.u x.v = true := (pathK_iff hr hu hv).2 ((forE_cn hr (pl_lt hr.vup hv) (pl_lt hr.vup hu)).2 (Cn.one hx (.inr ⟨rfl, rfl⟩)))
  rw [this]; rfl
theorem path_ids {u v : Int} (h : pathErr V E u v = 0) : ∀ e ∈ pathL V E u v, e ∈ E ∧ (forestL V E).contains e.id = true := by
  intro e he
  have hf := pathL_sub h e he
  exact ⟨forE_sub V E e hf, by simpa using mem_forestL.2 ⟨e, hf, rfl⟩⟩
theorem krus_cons (f : Ed → Nat × Nat) (L : List Nat) (e : Ed) (r : List Ed) : krus f L (e :: r) = if lab L (f e).1 = lab L (f e).2 then krus f L r else e :: krus f (joinL L (f e).1 (f e).2) r := rfl
theorem krus_append (f : Ed → Nat × Nat) : ∀ (a b : List Ed) (L : List Nat), krus f L (a ++ b) = krus f L a ++ krus f (labsF f L a) b
  | [], _, _ => rfl
  | e :: r, b, L => by
    rw [List.cons_append, labsF_cons, krus_cons, krus_cons]
    by_cases hs : lab L (f e).1 = lab L (f e).2
    · rw [if_pos hs, if_pos hs, joinL_same hs]
      exact krus_append f r b L
    · rw [if_neg hs, if_neg hs, krus_append f r b, List.cons_append]
/-- An edge that isn't in the forest is above all edges of the path between its ends. -/
theorem left_out (hr : Right V E) {x : Ed} (hx : x ∈ E) (hf : (forestL V E).contains x.id = false) (hp : pathErr V E x.u x.v = 0) : ∀ y ∈ pathL V E x.u x.v, ltW y x = true := by
  have hxF : x ∉ forE V E := fun h => by
    have : (forestL V E).contains x.id = true := by simpa using mem_forestL.2 ⟨x, h, rfl⟩
    rw [this] at hf; cases hf
  obtain ⟨A, C, hs⟩ := List.append_of_mem ((sortE_perm E).mem_iff.2 hx)
  have hA : ∀ e ∈ A, e ∈ E := fun e he => (sortE_perm E).mem_iff.1 (by rw [hs]; simp [he])
  have hAb : ∀ e ∈ A, (plE V e).1 < V.length ∧ (plE V e).2 < V.length := fun e he => plE_lt hr e (hA e he)
  have hF : forE V E = krus (plE V) (List.range V.length) A ++ krus (plE V) (labsF (plE V) (List.range V.length) A) (x :: C) := by
    show krus (plE V) (List.range V.length) (sortE E) = _
    rw [hs, krus_append]
  have hT : ∀ e ∈ krus (plE V) (List.range V.length) A, (plE V e).1 < V.length ∧ (plE V e).2 < V.length := fun e he => hAb e ((krus_sublist _ _ _).subset he)
  have hlab : lab (labsF (plE V) (List.range V.length) A) (plE V x).1 = lab (labsF (plE V) (List.range V.length) A) (plE V x).2 := by
    rcases Nat.decEq (lab (labsF (plE V) (List.range V.length) A) (plE V x).1) (lab (labsF (plE V) (List.range V.length) A) (plE V x).2) with h | h
    · exact absurd (by rw [hF]; unfold krus; rw [if_neg h]; simp) hxF
    · exact h
  have hxb := plE_lt hr x hx
  rw [← krus_labs, lab_iff_cn (f := plE V) _ hT _ _ hxb.1 hxb.2] at hlab
  have hfo : Forest (plE V) (krus (plE V) (List.range V.length) A).reverse := by
    have := krus_forest (f := plE V) (n := V.length) A [] hAb (fun e he => by cases he) trivial
    rw [List.append_nil] at this
    exact this
  obtain ⟨q, hq⟩ := hfo.exists_ (hlab.mono fun e he => List.mem_reverse.2 he)
  obtain ⟨_, _, hu, hv, hk, _⟩ := path_known hp
  have h1 : pathL V E x.u x.v = q := trail_unique hr (path_trail hr hu hv hk).1 (hq.mono fun e he => by rw [hF]; exact List.mem_append_left _ (List.mem_reverse.1 he))
  intro y hy
  rw [h1] at hy
  have hyA : y ∈ A := (krus_sublist _ _ _).subset (List.mem_reverse.1 (hq.sub y hy))
  have hle : leW y x = true := by
    have := sortE_sorted E
    rw [hs, List.pairwise_append] at this
    exact this.2.2 y hyA x (by simp)
  have hne : y.id ≠ x.id := fun e => by
    have := ids_part hr.eup y (hA y hyA) x hx e
    subst this
    exact hxF (by rw [hF]; exact List.mem_append_left _ (List.mem_reverse.1 (hq.sub y hy)))
  unfold leW at hle
  unfold ltW
  simp only [decide_eq_true_eq] at hle ⊢
  omega
end
end Go.Proofs.YtghacfhpafbdmaaGreat

/-
  What PlainForest's walk wants of memory: one edge more in a net of the law's own, in whatever order Go takes the steps. No walk.
-/
namespace Go.Proofs.YtghacfhpafbdmaaGreat
open Go.RowKit Go.Sort
set_option linter.unusedVariables false

section
variable {a : Act} {ty : TypeId} {pos : String} {d : Option Tmp} {af : Array Edge} {g : Option (Nat × Bool)}
theorem rb_field {x : Tmp} {p : Nat} (w : World) (hx : a.tmps.getD x undef = .pointer (some ⟨p, 0, none⟩)) :
    (execOp a.eval { dst := d, op := .fieldAddr 25 (.tmp x) 1, type := ty, pos := pos, after := af, guard := g }).run Tryz.prog w = .ok (.value (.pointer (some ⟨p, 1, none⟩))) w := by
  simp only [execOp, Act.eval, hx]
  go_simp
theorem rb_load {x : Tmp} {p k : Nat} {v : Value} (w : World) (hx : a.tmps.getD x undef = .pointer (some ⟨p, k, none⟩)) (h0 : w.cell? ⟨p, k, none⟩ = some v) :
    (execOp a.eval { dst := d, op := .load 23 (.tmp x), type := ty, pos := pos, after := af, guard := g }).run Tryz.prog w = .ok (.value v) w := by
  simp only [execOp, Act.eval, hx]
  go_simp
theorem rb_slice {x : Tmp} {v0 v1 v2 v3 : Int} (w : World) (hx : a.tmps.getD x undef = .agg #[.int .i64 v0, .int .i64 v1, .int .i64 v2, .int .i64 v3]) :
    (execOp a.eval { dst := d, op := .buildSlice 23 1 #[(0, .tmp x)], type := ty, pos := pos, after := af, guard := g }).run Tryz.prog w = .ok (.value (.slice (some ⟨w.heap.size, 0, none⟩) 1 1)) (w.alloc (.cells #[.int .i64 v0, .int .i64 v1, .int .i64 v2, .int .i64 v3] 47)) := by
  simp only [execOp, Act.eval, hx, List.map_toArray, List.map]
  go_simp
theorem rb_store {x y : Tmp} {p k m c : Nat} {A : Option Addr} {u : Value} (w : World) (hx : a.tmps.getD x undef = .pointer (some ⟨p, k, none⟩)) (hy : a.tmps.getD y undef = .slice A m c) (h0 : w.cell? ⟨p, k, none⟩ = some u) (h1 : w.frozen? ⟨p, k, none⟩ = false) :
    (execOp a.eval { dst := d, op := .store 23 (.tmp x) (.tmp y), type := ty, pos := pos, after := af, guard := g }).run Tryz.prog w = .ok .skip (w.setCell ⟨p, k, none⟩ (.slice A m c)) := by
  simp only [execOp, Act.eval, hx, hy]
  go_simp
end
theorem cf_edgeOf : ∀ (args : Array Value) (w : World), (callFunc 29 args).run Tryz.prog w = .ok (.enter 29 args) w := enters_of Tryz.func29 (by kernel_rfl) rfl

/-- What the steps leave in their slots. -/
def SBare (B0 gb : Nat) (sv se ov : Value) (xs : List Ed) (y : Ed) (q : Nat) (x : Value) (w : World) : Prop := match q with
  | 0 => x = .pointer (some ⟨gb, 1, none⟩)
  | 1 => x = ov
  | 2 => x = netV sv se
  | 3 => x = .int .i64 y.id
  | 4 => x = .agg #[.int .i64 y.id, .int .i64 y.u, .int .i64 y.v, .int .i64 y.w]
  | 5 => ∃ h, x = .slice (some ⟨h, 0, none⟩) 1 1 ∧ Blk w h 47 (encE y).toArray ∧ ov.ownBlock ≠ some h
  | 6 => OK encE 4 47 w B0 x (xs ++ [y])
  | 7 => x = .pointer (some ⟨gb, 1, none⟩)
  | _ => True
theorem sbare_below {B0 gb : Nat} {sv se ov : Value} {xs : List Ed} {y : Ed} : ∀ (q : Nat) (x : Value) (w w' : World), SBare B0 gb sv se ov xs y q x w → Below w.heap.size w w' → SBare B0 gb sv se ov xs y q x w'
  | 0, _, _, _, h, _ => h
  | 1, _, _, _, h, _ => h
  | 2, _, _, _, h, _ => h
  | 3, _, _, _, h, _ => h
  | 4, _, _, _, h, _ => h
  | 5, _, _, _, ⟨h, h1, h2, h3⟩, hb => ⟨h, h1, h2.below hb h2.lt, h3⟩
  | 6, _, _, _, h, hb => OK.below h hb
  | 7, _, _, _, h, _ => h
  | _ + 8, _, _, _, h, _ => h

/-- What holds of the world. -/
structure IBare (B B0 g1 gb : Nat) (sv se ov : Value) (xs : List Ed) (y : Ed) (W : World) (L : Array Bool) (w : World) : Prop where
  low : Below B W w
  net : Blk w g1 25 #[sv, se]
  old : L.getD 8 false = false → Blk w gb 25 #[sv, ov]
  own : L.getD 6 false = false → OK encE 4 47 w B0 ov xs
  fin : L.getD 8 false = true → ∃ v', OK encE 4 47 w B0 v' (xs ++ [y]) ∧ Blk w gb 25 #[sv, v']
  u61 : L.getD 6 false = true → L.getD 1 false = true
  u81 : L.getD 8 false = true → L.getD 1 false = true
  u86 : L.getD 8 false = true → L.getD 6 false = true
  u65 : L.getD 6 false = true → L.getD 5 false = true
section
variable {B B0 g1 gb : Nat} {sv se ov : Value} {xs : List Ed} {y : Ed} {W w w' : World} {L : Array Bool}
theorem ran_set {L : Array Bool} {i k : Nat} (h : i ≠ k) : (L.setIfInBounds i true).getD k false = L.getD k false := by
  simp [Array.getElem?_setIfInBounds_ne h]
theorem ran_up {L : Array Bool} {i k : Nat} (h : L.getD k false = true) : (L.setIfInBounds i true).getD k false = true := by
  by_cases hik : i = k
  · subst hik
    have : i < L.size := by
      rcases Nat.lt_or_ge i L.size with h1 | h1
      · exact h1
      · simp [Array.getElem?_eq_none h1] at h
    simp [this]
  · rw [ran_set hik]; exact h
/-- A step that isn't the append or the store, and leaves what is there. -/
theorem IBare.step (h : IBare B B0 g1 gb sv se ov xs y W L w) (hb : Below w.heap.size w w') (hB : B ≤ w.heap.size) {i : Nat} (h6 : i ≠ 6) (h8 : i ≠ 8) : IBare B B0 g1 gb sv se ov xs y W (L.setIfInBounds i true) w' := by
  refine ⟨h.low.trans (hb.mono hB), h.net.below hb h.net.lt, fun e => ?_, fun e => ?_, fun e => ?_, fun e => ?_, fun e => ?_, fun e => ?_, fun e => ?_⟩
  · rw [ran_set h8] at e; exact (h.old e).below hb (h.old e).lt
  · rw [ran_set h6] at e; exact (h.own e).below hb
  · rw [ran_set h8] at e
    obtain ⟨v', h1, h2⟩ := h.fin e
    exact ⟨v', h1.below hb, h2.below hb h2.lt⟩
  · rw [ran_set h6] at e; exact ran_up (h.u61 e)
  · rw [ran_set h8] at e; exact ran_up (h.u81 e)
  · rw [ran_set h8] at e; rw [ran_set h6]; exact h.u86 e
  · rw [ran_set h6] at e; exact ran_up (h.u65 e)
theorem IBare.append (h : IBare B B0 g1 gb sv se ov xs y W L w) (h0 : L.getD 6 false = false) (h1 : L.getD 1 false = true) (h5 : L.getD 5 false = true) (hz : 6 < L.size) (hB : B ≤ w.heap.size) (hB0 : B ≤ B0) (hg : w.grownBy w' ov.ownBlock) : IBare B B0 g1 gb sv se ov xs y W (L.setIfInBounds 6 true) w' := by
  have ho := h.own h0
  have h8 : L.getD 8 false = false := by
    cases h8 : L.getD 8 false with
    | false => rfl
    | true => have := h.u86 h8; rw [h0] at this; cases this
  refine ⟨h.low.grown hg hB (fun q hq => Nat.le_trans hB0 (ho.lt q hq).1), h.net.grown hg (Ne.symm (ho.ne_blk h.net (by decide))), fun e => ?_, fun e => ?_, fun e => ?_, fun e => ran_up h1, fun e => ran_up h1, fun e => by simp [hz], fun e => ran_up h5⟩
  · exact (h.old h8).grown hg (Ne.symm (ho.ne_blk (h.old h8) (by decide)))
  · simp [hz] at e
  · rw [ran_set (by decide)] at e; rw [h8] at e; cases e
theorem IBare.store (h : IBare B B0 g1 gb sv se ov xs y W L w) (h0 : L.getD 8 false = false) (h6 : L.getD 6 false = true) (hz : 8 < L.size) (hgb : B ≤ gb) (hne : g1 ≠ gb) {v' : Value} (ho : OK encE 4 47 w B0 v' (xs ++ [y])) : IBare B B0 g1 gb sv se ov xs y W (L.setIfInBounds 8 true) (w.setCell ⟨gb, 1, none⟩ v') := by
  have hb := h.old h0
  refine ⟨h.low.setCell hgb _, h.net.far (p := ⟨gb, 1, none⟩) hne _, fun e => ?_, fun e => ?_, fun e => ⟨v', ho.kept (grownBy_set gb 1 v') (.inr (ho.ne_blk hb (by decide))), ?_⟩, fun e => ?_, fun e => ran_up (h.u61 h6), fun e => ran_up h6, fun e => ran_up (h.u65 h6)⟩
  · simp [hz] at e
  · rw [ran_set (by decide)] at e; rw [h6] at e; cases e
  · exact hb.set_ 1 v'
  · rw [ran_set (by decide)] at e; exact ran_up (h.u61 e)
end
end Go.Proofs.YtghacfhpafbdmaaGreat

/-
  Steps of a drawn region that hang on what an earlier one has given ('&&', '||'); the walk of SameInts at equal lists.
-/
namespace Go.Proofs.YtghacfhpafbdmaaGreat
open Go.RowKit Go.Sort
set_option linter.unusedVariables false

section
variable {P : Program} {ops : Array Oper} {Q : Exit → Act → World → Prop}
theorem bool_at {t : Array Value} {k : Nat} {b : Bool} (h : t.getD k undef = .bool b) : t[k]? = some (.bool b) := by
  rw [Array.getD_eq_getD_getElem?] at h
  cases h2 : t[k]? with
  | none => rw [h2] at h; cases h
  | some x => rw [h2] at h; exact congrArg some h
theorem yields {a : Act} {oj : Oper} {j t : Nat} {b : Bool} (hoj : ops[j]? = some oj) (ht : oj.dst = some t) (hv : a.tmps.getD t undef = .bool b) : yielded ops a.tmps j = some b := by
  unfold yielded
  rw [hoj]
  simp only [Option.bind_some, ht, bool_at hv]
theorem wanted_of {a : Act} {o oj : Oper} {j t : Nat} {b : Bool} (hg : o.guard = some (j, b)) (hoj : ops[j]? = some oj) (ht : oj.dst = some t) (hv : a.tmps.getD t undef = .bool b) : Region.wanted o (yielded ops a.tmps) = true := by
  unfold Region.wanted
  rw [hg]
  simp only [yields hoj ht hv, beq_self_eq_true]
theorem unwanted_of {a : Act} {o oj : Oper} {j t : Nat} {b c : Bool} (hg : o.guard = some (j, b)) (hoj : ops[j]? = some oj) (ht : oj.dst = some t) (hv : a.tmps.getD t undef = .bool c) (hne : c ≠ b) : Region.wanted o (yielded ops a.tmps) = false := by
  unfold Region.wanted
  rw [hg]
  simp only [yields hoj ht hv]
  simpa using hne
variable {S : Nat → Value → World → Prop} {I : Array Bool → World → Prop} {a0 a : Act} {L : Array Bool} {w w' : World}
theorem Slots.valG (h : Slots ops S I a0 L a w) {i : Nat} {o : Oper} (ho : ops[i]? = some o) (hw : Region.wanted o (yielded ops a.tmps) = true) {v : Value} (hrun : (execOp a.eval o).run P w = .ok (.value v) w) (hI : I (L.setIfInBounds i true) w) (hv : S i v w) :
    wpOp P ops Q i (Slots ops S I a0 (L.setIfInBounds i true)) a w := by
  unfold wpOp
  simp only [ho, hw, if_true, Oper.wp, hrun, Oper.upon]
  exact .inl (h.put ho (fun _ _ _ h => h) hI hv)
theorem Slots.callG (h : Slots ops S I a0 L a w) {i : Nat} {o : Oper} (ho : ops[i]? = some o) (hw : Region.wanted o (yielded ops a.tmps) = true) {f : FuncId} {args : Array Value} (hrun : (execOp a.eval o).run P w = .ok (.enter f args) w)
    (hc : Calls P f args w fun e w' => ∃ v, e = .returned v ∧ (∀ k u, L.getD k false = true → S k u w → S k u w') ∧ I (L.setIfInBounds i true) w' ∧ S i v w') : wpOp P ops Q i (Slots ops S I a0 (L.setIfInBounds i true)) a w := by
  unfold wpOp
  simp only [ho, hw, if_true, Oper.wp, hrun, Oper.upon]
  refine .inl (hc.mono ?_)
  rintro e w' ⟨v, rfl, hS, hI, hv⟩
  exact h.put ho hS hI hv
theorem Slots.passG (h : Slots ops S I a0 L a w) {i : Nat} {o : Oper} (ho : ops[i]? = some o) (hw : Region.wanted o (yielded ops a.tmps) = false) (hI : I (L.setIfInBounds i true) w) (hv : S i undef w) :
    wpOp P ops Q i (Slots ops S I a0 (L.setIfInBounds i true)) a w := by
  unfold wpOp
  simp only [ho, hw, Bool.false_eq_true, if_false]
  exact h.put ho (fun _ _ _ h => h) hI hv
end

set_option maxRecDepth 100000 in
set_option maxHeartbeats 2000000 in
theorem SameInts_yes (v v2 : Value) (V : List Int) (w : World) (B B2 : Nat) (hv : RI w B v V) (hv2 : RI w B2 v2 V) :
    Calls Tryz.prog 27 #[v, v2] w fun e w' => e = .returned (.bool true) ∧ ∃ q, w' = w.drewN q := by
  obtain ⟨A, c, rfl, hc1, hc2, hc3, HC⟩ := hv.open_
  obtain ⟨A2, c2, rfl, hd1, hd2, hd3, HD⟩ := hv2.open_
  clear hv hv2
  obtain ⟨n, hn⟩ : ∃ n, n = V.length := ⟨_, rfl⟩
  rw [← hn] at hc1 hc3 hd1 hd3 ⊢
  have HN := Lib.hid hn
  clear hn
  go_enter Tryz.func27, Tryz.ntmps27
  go_wp2
  go_loopw [5] (fun i wr => ∃ (k q : Nat), k ≤ n ∧ i = .int .i64 k ∧ wr = w.drewN q) (fun i wr => n - (intOf i).toNat)
  case atStart => exact ⟨0, 0, Nat.zero_le _, rfl, rfl⟩
  case round =>
    obtain ⟨k, q, hk, rfl, rfl⟩ := hrel
    by_cases hlt : k < n
    · obtain ⟨b, o, rfl, hb, hx⟩ := HC.out k (by have := HN.out; omega)
      obtain ⟨b2, o2, rfl, hb2, hx2⟩ := HD.out k (by have := HN.out; omega)
      obtain ⟨y, hy⟩ : ∃ y, y = V[k]'(by have := HN.out; omega) := ⟨_, rfl⟩
      rw [← hy] at hx hx2
      have hx := cellI hx
      have hx2 := cellI hx2
      have hx : (w.drewN q).cell? ⟨b, o + k, none⟩ = some (.int .i64 y) := hx
      have hx2 : (w.drewN q).cell? ⟨b2, o2 + k, none⟩ = some (.int .i64 y) := hx2
      clear hy
      obtain ⟨wr, hwr⟩ : ∃ wr, wr = w.drewN q := ⟨_, rfl⟩
      rw [← hwr] at hx hx2 ⊢
      have HWr := Lib.hid hwr
      clear hwr
      go_wp2_with fail
      go_quiet (fail)
      go_wp2_with fail
      go_roundw
      case rel => exact ⟨k + 1, _, by omega, by go_num, by rw [HWr.out, World.drewN_drewN]⟩
      case measure => simp [intOf]; omega
    · obtain rfl : k = n := by omega
      go_wp2
      go_ret
      exact ⟨rfl, q, rfl⟩
end Go.Proofs.YtghacfhpafbdmaaGreat
