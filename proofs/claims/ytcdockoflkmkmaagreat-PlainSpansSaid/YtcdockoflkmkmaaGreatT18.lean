/-
  Plain words on spans: the span of a tree is the greatest distance in it, and all its vertices tell it. No walk.
-/
import Derived.Test.YtcdockoflkmkmaaGreatT17
import Derived.Test.YtcdockoflkmkmaaGreatT10
namespace Go.Proofs.YtcdockoflkmkmaaGreat
set_option linter.unusedVariables false

section
variable {V : List Int} {E : List Ed}
/-- How far two vertices are apart. -/
noncomputable def dsV (V : List Int) (E : List Ed) (u v : Int) : Int := dst (plE V) (forE V E).reverse (pl V u) (pl V v)
theorem rev_cn {i j : Nat} : Cn (plE V) (forE V E).reverse i j ↔ Cn (plE V) (forE V E) i j :=
  ⟨fun h => h.mono fun e he => List.mem_reverse.1 he, fun h => h.mono fun e he => List.mem_reverse.2 he⟩
theorem rev_w (hr : Right V E) : ∀ e ∈ (forE V E).reverse, 0 ≤ e.w := fun e he => (hr.ew e (forE_sub V E e (List.mem_reverse.1 he))).1
theorem path_dst {u v : Int} (h : pathErr V E u v = 0) : sumW (pathL V E u v) = dsV V E u v := by
  obtain ⟨_, hr, hu, hv, hk, _⟩ := path_known h
  exact (dst_of (forE_forest hr) ((path_trail hr hu hv hk).1.mono fun e he => List.mem_reverse.2 he)).symm
theorem far_dst (hr : Right V E) {s x : Nat} (hs : s < V.length) (hx : x < V.length) (h : Cn (plE V) (forE V E) s x) : frr (goneP V E s).far x = dst (plE V) (forE V E).reverse x s := by
  have hw := goneP_went hr hs
  have hk := (bfs_known (forE_lt hr) hs x hx).2 h
  obtain ⟨k, hk⟩ := List.getElem?_of_mem ((hw.known x).2 ⟨hx, hk⟩)
  have hlt := (List.getElem?_eq_some_iff.1 hk).1
  have := hw.back V.length k x hk (by have := hw.len; omega)
  rw [← this.2.1]
  exact (dst_of (forE_forest hr) (this.1.mono fun e he => List.mem_reverse.2 he)).symm
theorem farthest_of (hr : Right V E) {s : Nat} (hs : s < V.length) : farthest (goneP V E s) < V.length ∧ Cn (plE V) (forE V E) s (farthest (goneP V E s)) ∧
    ∀ p, p < V.length → Cn (plE V) (forE V E) s p → dst (plE V) (forE V E).reverse p s ≤ dst (plE V) (forE V E).reverse (farthest (goneP V E s)) s := by
  have hw := goneP_went hr hs
  obtain ⟨h1, h2⟩ := hw.farthest
  have h3 := (hw.known _).1 h1
  have h4 := (bfs_known (forE_lt hr) hs _ h3.1).1 h3.2
  refine ⟨h3.1, h4, fun p hp hc => ?_⟩
  rw [← far_dst hr hs hp hc, ← far_dst hr hs h3.1 h4]
  exact h2 p ((hw.known p).2 ⟨hp, (bfs_known (forE_lt hr) hs p hp).2 hc⟩)
theorem cn_lt (hr : Right V E) {s p : Nat} (hs : s < V.length) (h : Cn (plE V) (forE V E) s p) : p < V.length := by
  induction h with
  | refl => exact hs
  | step _ he hl _ => exact (hl.lt (forE_lt hr) he).2
/-- The span: between two places of the tree, and no two are farther apart. -/
theorem span_spec (hr : Right V E) {u : Int} (hu : u ∈ V) : ∃ a b, a < V.length ∧ b < V.length ∧ Cn (plE V) (forE V E) (pl V u) a ∧ Cn (plE V) (forE V E) (pl V u) b ∧ spanV V E u = dst (plE V) (forE V E).reverse b a ∧
    ∀ x y, Cn (plE V) (forE V E) (pl V u) x → Cn (plE V) (forE V E) (pl V u) y → dst (plE V) (forE V E).reverse x y ≤ spanV V E u := by
  have hs := pl_lt hr.vup hu
  obtain ⟨a1, a2, a3⟩ := farthest_of hr hs
  obtain ⟨b1, b2, b3⟩ := farthest_of hr a1
  have e : spanV V E u = dst (plE V) (forE V E).reverse (farthest (goneP V E (farthest (goneP V E (pl V u))))) (farthest (goneP V E (pl V u))) := far_dst hr a1 b1 b2
  refine ⟨_, _, a1, b1, a2, a2.trans b2, e, fun x y hx hy => ?_⟩
  rw [e]
  refine far_far (forE_forest hr) (rev_w hr) (s := pl V u) (rev_cn.2 a2) (rev_cn.2 (a2.trans b2)) (fun p hp => ?_) (fun p hp => ?_) (rev_cn.2 hx) (rev_cn.2 hy)
  · have hp := rev_cn.1 hp
    exact a3 p (cn_lt hr hs hp) hp
  · have hp := rev_cn.1 hp
    exact b3 p (cn_lt hr hs hp) (a2.symm.trans hp)
theorem joined_cn (hr : Right V E) {u v : Int} (hu : u ∈ V) (hv : v ∈ V) : joinedB V E u v = true ↔ Cn (plE V) (forE V E) (pl V u) (pl V v) := by
  unfold joinedB
  rw [decide_eq_true_iff, labs_cn hr (pl_lt hr.vup hu) (pl_lt hr.vup hv)]
theorem span_same (hr : Right V E) {u v : Int} (hu : u ∈ V) (hv : v ∈ V) (h : joinedB V E u v = true) : spanV V E v = spanV V E u := by
  have h := (joined_cn hr hu hv).1 h
  obtain ⟨a, b, _, _, h1, h2, h3, h4⟩ := span_spec hr hu
  obtain ⟨c, d, _, _, k1, k2, k3, k4⟩ := span_spec hr hv
  have e1 := k4 b a (h.symm.trans h2) (h.symm.trans h1)
  have e2 := h4 d c (h.trans k2) (h.trans k1)
  omega
theorem span_le (hr : Right V E) {u v w : Int} (hu : u ∈ V) (hv : v ∈ V) (hw : w ∈ V) (h1 : joinedB V E u v = true) (h2 : joinedB V E v w = true) : dsV V E v w ≤ spanV V E u := by
  obtain ⟨a, b, _, _, _, _, _, h4⟩ := span_spec hr hu
  have k1 := (joined_cn hr hu hv).1 h1
  have k2 := (joined_cn hr hv hw).1 h2
  exact h4 _ _ k1 (k1.trans k2)
theorem pl_at {i : Nat} (hr : Right V E) (hi : i < V.length) : pl V V[i] = i := pl_get V hr.vup i V[i] (List.getElem?_eq_getElem hi)
theorem span_met (hr : Right V E) {u : Int} (hu : u ∈ V) : ∃ v w, v ∈ V ∧ w ∈ V ∧ joinedB V E u v = true ∧ joinedB V E v w = true ∧ dsV V E v w = spanV V E u := by
  obtain ⟨a, b, ha, hb, h1, h2, h3, _⟩ := span_spec hr hu
  refine ⟨V[b], V[a], List.getElem_mem hb, List.getElem_mem ha, (joined_cn hr hu (List.getElem_mem hb)).2 ?_, (joined_cn hr (List.getElem_mem hb) (List.getElem_mem ha)).2 ?_, ?_⟩
  · rw [pl_at hr hb]; exact h2
  · rw [pl_at hr hb, pl_at hr ha]; exact h2.symm.trans h1
  · unfold dsV; rw [pl_at hr hb, pl_at hr ha]; exact h3.symm
theorem chk_51 (h : rightN V E = true) {x : Int} (hn : x ∉ V) : chkV V E [x] = 51 := by
  unfold chkV
  rw [if_pos h, if_neg]
  intro h2
  have := List.all_eq_true.1 h2 x (by simp)
  exact hn (by simpa using this)
/-- Where there is a path between two vertices of the net. -/
theorem path_if (hn : rightN V E = true) {v w : Int} (hv : v ∈ V) (hw : w ∈ V) : pathErr V E v w = if joinedB V E v w = true then 0 else 61 := by
  have hr := right_of hn
  unfold pathErr
  rw [if_pos (chk_yes hn (by intro z hz; simp at hz; rcases hz with rfl | rfl <;> assumption)), pathK_joined hr hv hw]
  cases joinedB V E v w <;> rfl

/-- What is known of the greatest distance so far: of the first i vertices' questions all, of the next one's the first j. -/
structure SpIn (V : List Int) (E : List Ed) (u : Int) (i j : Nat) (v : Int) (seen : Nat) (mo : Int) : Prop where
  le : mo ≤ spanV V E u
  done : 25 < seen ∨ ∀ x ∈ V.take i, joinedB V E u x = true → ∀ y ∈ V, joinedB V E x y = true → dsV V E x y ≤ mo
  now : ∀ y ∈ V.take j, joinedB V E v y = true → dsV V E v y ≤ mo
theorem take_next {xs : List Int} {k : Nat} {y : Int} (h : xs[k]? = some y) {x : Int} (hx : x ∈ xs.take (k + 1)) : x ∈ xs.take k ∨ x = y := by
  obtain ⟨hk, rfl⟩ := List.getElem?_eq_some_iff.1 h
  rw [List.take_succ_eq_append_getElem hk] at hx
  rcases List.mem_append.1 hx with h | h
  · exact .inl h
  · exact .inr (by simpa using h)
section
variable {u v v' w : Int} {i j seen : Nat} {mo : Int}
theorem SpIn.start (hr : Right V E) (hu : u ∈ V) : SpIn V E u 0 0 0 0 (-1) := by
  have h1 : joinedB V E u u = true := by unfold joinedB; simp
  have h2 := span_le hr hu hu hu h1 h1
  have h3 : dsV V E u u = 0 := dst_self (forE_forest hr) _
  exact ⟨by omega, .inr fun x hx => by simp at hx, fun y hy => by simp at hy⟩
theorem SpIn.enter (h : SpIn V E u i 0 v seen mo) : SpIn V E u i 0 v' seen mo := ⟨h.le, h.done, fun y hy => by simp at hy⟩
theorem SpIn.skip (h : SpIn V E u i 0 v' seen mo) (hv : V[i]? = some v) (hq : joinedB V E u v = false ∨ 25 < seen) : SpIn V E u (i + 1) 0 v' seen mo := by
  refine ⟨h.le, ?_, fun y hy => by simp at hy⟩
  rcases hq with hq | hq
  · rcases h.done with hd | hd
    · exact .inl hd
    · refine .inr fun x hx h1 => ?_
      rcases take_next hv hx with h2 | rfl
      · exact hd x h2 h1
      · rw [hq] at h1; cases h1
  · exact .inl hq
theorem SpIn.pass (h : SpIn V E u i j v seen mo) (hw : V[j]? = some w) (hn : joinedB V E v w = false ∨ dsV V E v w ≤ mo) : SpIn V E u i (j + 1) v seen mo := by
  refine ⟨h.le, h.done, fun y hy h1 => ?_⟩
  rcases take_next hw hy with h2 | rfl
  · exact h.now y h2 h1
  · rcases hn with hn | hn
    · rw [hn] at h1; cases h1
    · exact hn
theorem SpIn.up (h : SpIn V E u i j v seen mo) (hw : V[j]? = some w) (hle : dsV V E v w ≤ spanV V E u) (hgt : mo ≤ dsV V E v w) : SpIn V E u i (j + 1) v seen (dsV V E v w) := by
  refine ⟨hle, ?_, fun y hy h1 => ?_⟩
  · rcases h.done with hd | hd
    · exact .inl hd
    · exact .inr fun x hx h1 y hy h2 => Int.le_trans (hd x hx h1 y hy h2) hgt
  · rcases take_next hw hy with h2 | rfl
    · exact Int.le_trans (h.now y h2 h1) hgt
    · exact Int.le_refl _
theorem SpIn.leave (h : SpIn V E u i V.length v seen mo) (hv : V[i]? = some v) : SpIn V E u (i + 1) 0 v' (seen + 1) mo := by
  refine ⟨h.le, ?_, fun y hy => by simp at hy⟩
  rcases h.done with hd | hd
  · exact .inl (by omega)
  · refine .inr fun x hx h1 y hy h2 => ?_
    rcases take_next hv hx with h3 | rfl
    · exact hd x h3 h1 y hy h2
    · exact h.now y (by rw [List.take_length]; exact hy) h2
end
/-- The span is met behind all questions. -/
theorem SpIn.end_ (hr : Right V E) {u : Int} (hu : u ∈ V) {seen : Nat} {mo : Int} {v : Int} (h : SpIn V E u V.length 0 v seen mo) : mo ≤ spanV V E u ∧ (mo = spanV V E u ∨ 25 < seen) := by
  refine ⟨h.le, ?_⟩
  rcases h.done with hd | hd
  · exact .inr hd
  · left
    obtain ⟨x, y, hx, hy, h1, h2, h3⟩ := span_met hr hu
    have := hd x (by rw [List.take_length]; exact hx) h1 y hy h2
    have := h.le
    omega
end
end Go.Proofs.YtcdockoflkmkmaaGreat
