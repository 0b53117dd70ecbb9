/-
  Plain words on paths: the path of the forest, there and back; whom it joins; what is told of it. No walk.
-/
import Derived.Test.YtghacfhpafbdmaaGreatG34
import Derived.Test.YtghacfhpafbdmaaGreatT2
namespace Go.Proofs.YtghacfhpafbdmaaGreat
set_option linter.unusedVariables false

section
variable {V : List Int} {E : List Ed}
theorem plE_lt (hr : Right V E) : ∀ e ∈ E, (plE V e).1 < V.length ∧ (plE V e).2 < V.length := fun e he => ⟨pl_lt hr.vup (hr.eu e he), pl_lt hr.vup (hr.ev e he)⟩
theorem forE_forest (hr : Right V E) : Forest (plE V) (forE V E).reverse := by
  have := krus_forest (f := plE V) (n := V.length) (sortE E) [] (fun e he => plE_lt hr e ((sortE_perm E).mem_iff.1 he)) (fun e he => by cases he) trivial
  rw [List.append_nil] at this
  exact this
/-- Whom the net joins, the forest joins. -/
theorem forE_cn (hr : Right V E) {i j : Nat} (hi : i < V.length) (hj : j < V.length) : Cn (plE V) (forE V E) i j ↔ Cn (plE V) E i j := by
  have hs : ∀ e ∈ sortE E, (plE V e).1 < V.length ∧ (plE V e).2 < V.length := fun e he => plE_lt hr e ((sortE_perm E).mem_iff.1 he)
  have h1 := lab_iff_cn (f := plE V) (forE V E) (forE_lt hr) i j hi hj
  have h2 := lab_iff_cn (f := plE V) (sortE E) hs i j hi hj
  unfold forE at h1
  rw [krus_labs] at h1
  show Cn (plE V) (forE V E) i j ↔ _
  unfold forE
  rw [← h1, h2]
  exact ⟨fun h => h.mono fun e he => (sortE_perm E).mem_iff.1 he, fun h => h.mono fun e he => (sortE_perm E).mem_iff.2 he⟩
theorem labs_cn (hr : Right V E) {i j : Nat} (hi : i < V.length) (hj : j < V.length) : lab (labs V E) i = lab (labs V E) j ↔ Cn (plE V) (forE V E) i j := by
  rw [forE_cn hr hi hj]
  exact lab_iff_cn (f := plE V) E (plE_lt hr) i j hi hj
theorem pathK_iff (hr : Right V E) {u v : Int} (hu : u ∈ V) (hv : v ∈ V) : pathK V E u v = true ↔ Cn (plE V) (forE V E) (pl V v) (pl V u) :=
  bfs_known (forE_lt hr) (pl_lt hr.vup hv) (pl V u) (pl_lt hr.vup hu)
theorem pathK_joined (hr : Right V E) {u v : Int} (hu : u ∈ V) (hv : v ∈ V) : pathK V E u v = joinedB V E u v := by
  rw [Bool.eq_iff_iff, pathK_iff hr hu hv]
  unfold joinedB
  rw [decide_eq_true_iff, labs_cn hr (pl_lt hr.vup hu) (pl_lt hr.vup hv)]
  exact ⟨Cn.symm, Cn.symm⟩
theorem joinedB_symm (u v : Int) : joinedB V E u v = joinedB V E v u := by
  unfold joinedB
  rw [Bool.eq_iff_iff, decide_eq_true_iff, decide_eq_true_iff]
  exact ⟨Eq.symm, Eq.symm⟩
/-- The path is a way along the forest that takes no edge twice. -/
theorem path_trail (hr : Right V E) {u v : Int} (hu : u ∈ V) (hv : v ∈ V) (hk : pathK V E u v = true) :
    Trail (plE V) (forE V E) (pl V u) (pathL V E u v) (pl V v) ∧ sumW (pathL V E u v) = frr (goneF V E v).far (pl V u) := by
  have hw := goneF_went hr hv
  obtain ⟨k, hk⟩ := List.getElem?_of_mem ((hw.known (pl V u)).2 ⟨pl_lt hr.vup hu, hk⟩)
  have hlt := (List.getElem?_eq_some_iff.1 hk).1
  have := hw.back V.length k (pl V u) hk (by have := hw.len; omega)
  exact ⟨this.1, this.2.1⟩
theorem trail_unique (hr : Right V E) {i j : Nat} {p q : List Ed} (hp : Trail (plE V) (forE V E) i p j) (hq : Trail (plE V) (forE V E) i q j) : p = q :=
  (forE_forest hr).unique (hp.mono fun e he => List.mem_reverse.2 he) (hq.mono fun e he => List.mem_reverse.2 he)
theorem path_back (hr : Right V E) {u v : Int} (hu : u ∈ V) (hv : v ∈ V) (hk : pathK V E u v = true) : pathL V E v u = (pathL V E u v).reverse := by
  have hk' : pathK V E v u = true := by rw [pathK_joined hr hv hu, joinedB_symm, ← pathK_joined hr hu hv]; exact hk
  exact trail_unique hr (path_trail hr hv hu hk').1 (path_trail hr hu hv hk).1.back

/-! ### An edge by its id -/
def edIn : List Ed → Int → Ed
  | [], _ => ⟨0, 0, 0, 0⟩
  | e :: r, i => if e.id = i then e else edIn r i
theorem edIn_of {E : List Ed} (hid : E.Pairwise (fun a b => a.id < b.id)) {e : Ed} (he : e ∈ E) : edIn E e.id = e := by
  induction E with
  | nil => cases he
  | cons x r ih =>
    obtain ⟨h1, h2⟩ := List.pairwise_cons.1 hid
    unfold edIn
    rcases List.mem_cons.1 he with rfl | he
    · rw [if_pos rfl]
    · have := h1 e he
      rw [if_neg (by omega)]
      exact ih h2 he
theorem edIn_ids {E : List Ed} (hid : E.Pairwise (fun a b => a.id < b.id)) (p : List Ed) (hp : ∀ e ∈ p, e ∈ E) (k : Nat) (hk : k < (p.map (·.id)).length) : edIn E (p.map (·.id))[k] = p[k]'(by simpa using hk) := by
  rw [List.getElem_map]
  exact edIn_of hid (hp _ (List.getElem_mem _))
theorem ids_nodup {E : List Ed} (hid : E.Pairwise (fun a b => a.id < b.id)) {p : List Ed} (hp : ∀ e ∈ p, e ∈ E) (hn : p.Nodup) : (p.map (·.id)).Nodup := by
  unfold List.Nodup
  rw [List.pairwise_map]
  refine List.Pairwise.imp_of_mem ?_ hn
  intro a b ha hb hab e
  exact hab (ids_part hid a (hp a ha) b (hp b hb) e)

/-! ### Vertices along a path -/
/-- The path leads from vertex a to v. -/
def WayV (V : List Int) (a : Int) (p : List Ed) (v : Int) : Prop := a ∈ V ∧ Walk (plE V) (pl V a) p (pl V v)
theorem WayV.nil (hs : V.Pairwise (· < ·)) {a v : Int} (hv : v ∈ V) (h : WayV V a [] v) : a = v := pl_inj hs h.1 hv h.2
theorem WayV.cons (hs : V.Pairwise (· < ·)) {a v : Int} {e : Ed} {p : List Ed} (hu : e.u ∈ V) (hv : e.v ∈ V) (h : WayV V a (e :: p) v) :
    (e.u = a ∨ e.v = a) ∧ WayV V (e.u + e.v - a) p v := by
  obtain ⟨ha, k, hl, hw⟩ := h
  rcases hl with ⟨h1, h2⟩ | ⟨h1, h2⟩
  · have e1 : e.u = a := pl_inj hs hu ha h1
    refine ⟨.inl e1, ?_⟩
    have e2 : e.u + e.v - a = e.v := by omega
    rw [e2]
    exact ⟨hv, by rw [show pl V e.v = k from h2]; exact hw⟩
  · have e1 : e.v = a := pl_inj hs hv ha h1
    refine ⟨.inr e1, ?_⟩
    have e2 : e.u + e.v - a = e.u := by omega
    rw [e2]
    exact ⟨hu, by rw [show pl V e.u = k from h2]; exact hw⟩
theorem way_of (hr : Right V E) {u v : Int} (hu : u ∈ V) (hv : v ∈ V) (hk : pathK V E u v = true) : WayV V u (pathL V E u v) v := ⟨hu, (path_trail hr hu hv hk).1.walk⟩

/-! ### The greatest edge, by what stands ahead -/
theorem ltW_cfW (a b : Ed) : ltW a b = decide (0 < cfW b a) := by
  have := ltOf_cfW a b
  unfold ltW cfW or2 Lib.compareInt
  rw [Bool.eq_iff_iff]
  simp only [decide_eq_true_eq]
  by_cases h1 : b.w < a.w
  · simp [h1]; omega
  · by_cases h2 : a.w < b.w
    · simp [h1, h2]
    · have h3 : a.w = b.w := by omega
      by_cases h4 : b.id < a.id
      · simp [h3, h4]; omega
      · by_cases h5 : a.id < b.id
        · simp [h3, h4, h5]
        · simp [h3, h4, h5]
end
end Go.Proofs.YtghacfhpafbdmaaGreat

/-
  The net of the document's example: how it is made, and what is told of it.
-/
namespace Go.Proofs.YtghacfhpafbdmaaGreat
open Go.RowKit
set_option linter.unusedVariables false

theorem RK.of_blk {α : Type} {enc : α → List Value} {k : Nat} (hk : ∀ x, (enc x).length = k) {w : World} {g t c B : Nat} {cs : Array Value} {xs : List α} (h : Blk w g t cs) (hc : cs.toList = xs.flatMap enc) (hl : xs.length * k ≤ 140737488355328) (h1 : xs.length ≤ c) (h2 : c ≤ 9223372036854775807) (hB : g < B) :
    RK enc k w B (.slice (some ⟨g, 0, none⟩) xs.length c) xs := by
  refine ⟨hl, _, c, rfl, h1, h2, .inr ⟨g, 0, rfl, hB, fun i x hx j u hu => ?_⟩⟩
  have h3 := flat_get hk xs i x hx j u hu
  rw [h.cell, ← Array.getElem?_toList, hc, Nat.zero_add]
  exact h3

def smV : List Int := [1, 2, 3, 4]
def smE : List Ed := [⟨1, 1, 2, 5⟩, ⟨2, 2, 3, 4⟩, ⟨3, 1, 3, 4⟩]
theorem small_right : rightN smV smE = true := by decide
theorem small_forE : forE smV smE = [⟨2, 2, 3, 4⟩, ⟨3, 1, 3, 4⟩] := by
  have h : [⟨2, 2, 3, 4⟩, ⟨3, 1, 3, 4⟩, ⟨1, 1, 2, 5⟩] = sortE smE := sortE_of (right_of small_right).eup (by decide) (by decide)
  unfold forE
  rw [← h]
  decide
theorem small_forest : forestL smV smE = [2, 3] := by
  unfold forestL
  rw [small_forE]
  exact List.mergeSort_of_pairwise (by decide)
theorem small_weight : weightV smV smE = 8 := by
  unfold weightV
  rw [small_forE]
  decide
theorem small_path : pathL smV smE 1 2 = [⟨3, 1, 3, 4⟩, ⟨2, 2, 3, 4⟩] := by
  unfold pathL goneF
  rw [small_forE]
  decide
theorem small_pathErr : pathErr smV smE 1 2 = 0 := by
  unfold pathErr pathK goneF
  rw [small_forE]
  decide
theorem small_noPath : pathErr smV smE 1 4 = 61 := by
  unfold pathErr pathK goneF
  rw [small_forE]
  decide
theorem small_span : spanV smV smE 1 = 8 := by
  unfold spanV goneP endOf goneF
  rw [small_forE]
  decide
theorem small_trees : treesL smV smE = [[1, 2, 3], [4]] := by decide
theorem small_joined : joinedB smV smE 1 3 = true := by decide
theorem small_chk1 : chkV smV smE [1] = 0 := by decide
theorem small_chk13 : chkV smV smE [1, 3] = 0 := by decide

set_option maxRecDepth 100000 in
set_option maxHeartbeats 1000000 in
theorem small_any (w : World) : Calls Tryz.prog 32 #[] w fun e w' => ∃ sv se, e = .returned (netV sv se) ∧ RI w' w'.heap.size sv smV ∧ RE w' w'.heap.size se smE ∧ Below w.heap.size w w' := by
  go_enter Tryz.func32, Tryz.ntmps32
  go_wp2
  have k0 : Blk (((w.alloc (.cells #[.slice (some ⟨w.heap.size + 1, 0, none⟩) 4 4, .slice (some ⟨w.heap.size + 1 + 1, 0, none⟩) 3 3] 25)).alloc (.cells #[.int .i64 1, .int .i64 2, .int .i64 3, .int .i64 4] 3)).alloc (.cells #[.int .i64 1, .int .i64 1, .int .i64 2, .int .i64 5, .int .i64 2, .int .i64 2, .int .i64 3, .int .i64 4, .int .i64 3, .int .i64 1, .int .i64 3, .int .i64 4] 47)) w.heap.size 25 #[.slice (some ⟨w.heap.size + 1, 0, none⟩) 4 4, .slice (some ⟨w.heap.size + 1 + 1, 0, none⟩) 3 3] := ((Blk.new w 25 _).alloc _).alloc _
  have k1 := Blk.alloc (Blk.new (w.alloc (.cells #[.slice (some ⟨w.heap.size + 1, 0, none⟩) 4 4, .slice (some ⟨w.heap.size + 1 + 1, 0, none⟩) 3 3] 25)) 3 #[.int .i64 1, .int .i64 2, .int .i64 3, .int .i64 4]) (.cells #[.int .i64 1, .int .i64 1, .int .i64 2, .int .i64 5, .int .i64 2, .int .i64 2, .int .i64 3, .int .i64 4, .int .i64 3, .int .i64 1, .int .i64 3, .int .i64 4] 47)
  have k2 := Blk.new ((w.alloc (.cells #[.slice (some ⟨w.heap.size + 1, 0, none⟩) 4 4, .slice (some ⟨w.heap.size + 1 + 1, 0, none⟩) 3 3] 25)).alloc (.cells #[.int .i64 1, .int .i64 2, .int .i64 3, .int .i64 4] 3)) 47 #[.int .i64 1, .int .i64 1, .int .i64 2, .int .i64 5, .int .i64 2, .int .i64 2, .int .i64 3, .int .i64 4, .int .i64 3, .int .i64 1, .int .i64 3, .int .i64 4]
  rw [show (w.alloc (.cells #[.slice (some ⟨w.heap.size + 1, 0, none⟩) 4 4, .slice (some ⟨w.heap.size + 1 + 1, 0, none⟩) 3 3] 25)).heap.size = w.heap.size + 1 by simp] at k1
  rw [show ((w.alloc (.cells #[.slice (some ⟨w.heap.size + 1, 0, none⟩) 4 4, .slice (some ⟨w.heap.size + 1 + 1, 0, none⟩) 3 3] 25)).alloc (.cells #[.int .i64 1, .int .i64 2, .int .i64 3, .int .i64 4] 3)).heap.size = w.heap.size + 1 + 1 by simp] at k2
  have hb : Below w.heap.size w (((w.alloc (.cells #[.slice (some ⟨w.heap.size + 1, 0, none⟩) 4 4, .slice (some ⟨w.heap.size + 1 + 1, 0, none⟩) 3 3] 25)).alloc (.cells #[.int .i64 1, .int .i64 2, .int .i64 3, .int .i64 4] 3)).alloc (.cells #[.int .i64 1, .int .i64 1, .int .i64 2, .int .i64 5, .int .i64 2, .int .i64 2, .int .i64 3, .int .i64 4, .int .i64 3, .int .i64 1, .int .i64 3, .int .i64 4] 47)) := (((Below.refl _ _).alloc (Nat.le_refl _) _).alloc (by simp) _).alloc (by simp; omega) _
  generalize (((w.alloc (.cells #[.slice (some ⟨w.heap.size + 1, 0, none⟩) 4 4, .slice (some ⟨w.heap.size + 1 + 1, 0, none⟩) 3 3] 25)).alloc (.cells #[.int .i64 1, .int .i64 2, .int .i64 3, .int .i64 4] 3)).alloc (.cells #[.int .i64 1, .int .i64 1, .int .i64 2, .int .i64 5, .int .i64 2, .int .i64 2, .int .i64 3, .int .i64 4, .int .i64 3, .int .i64 1, .int .i64 3, .int .i64 4] 47)) = W at k0 k1 k2 hb ⊢
  have c0 := k0.cell 0
  have c1 := k0.cell 1
  refine ret_cell1 (p := 0) (v := netV (.slice (some ⟨w.heap.size + 1, 0, none⟩) 4 4) (.slice (some ⟨w.heap.size + 1 + 1, 0, none⟩) 3 3)) rfl rfl (by go_simp) rfl ⟨_, _, rfl, ?_, ?_, hb⟩
  · exact RK.of_blk (xs := smV) encI_len k1 rfl (by decide) (by decide) (by decide) k1.lt
  · exact RK.of_blk (xs := smE) encE_len k2 rfl (by decide) (by decide) (by decide) k2.lt
end Go.Proofs.YtghacfhpafbdmaaGreat
