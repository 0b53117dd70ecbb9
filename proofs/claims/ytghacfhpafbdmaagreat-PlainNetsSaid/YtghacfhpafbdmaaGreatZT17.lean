/-
  Plain words on distances in a forest: four places, and why the farthest from the farthest is the greatest distance. No walk.
-/
import Derived.Test.YtghacfhpafbdmaaGreatZT13
import Derived.Test.YtghacfhpafbdmaaGreatZT9
namespace Go.Proofs.YtghacfhpafbdmaaGreat
set_option linter.unusedVariables false

section
variable {f : Ed → Nat × Nat} {T : List Ed}
open Classical in
/-- How far two places are apart along trails; 0 if there is none. -/
noncomputable def dst (f : Ed → Nat × Nat) (T : List Ed) (i j : Nat) : Int := if h : ∃ p, Trail f T i p j then sumW h.choose else 0
theorem dst_of (hT : Forest f T) {i j : Nat} {p : List Ed} (h : Trail f T i p j) : dst f T i j = sumW p := by
  have hex : ∃ p, Trail f T i p j := ⟨p, h⟩
  unfold dst
  rw [dif_pos hex, hT.unique hex.choose_spec h]
theorem dst_symm (hT : Forest f T) {i j : Nat} (h : Cn f T i j) : dst f T i j = dst f T j i := by
  obtain ⟨p, hp⟩ := hT.exists_ h
  rw [dst_of hT hp, dst_of hT hp.back, sumW_reverse]
theorem dst_self (hT : Forest f T) (i : Nat) : dst f T i i = 0 := dst_of hT (Trail.nil i)
theorem dst_in {t : Ed} (hT : Forest f (t :: T)) {i j : Nat} (h : Cn f T i j) : dst f (t :: T) i j = dst f T i j := by
  obtain ⟨p, hp⟩ := hT.1.exists_ h
  rw [dst_of hT (hp.mono fun e he => List.mem_cons_of_mem _ he), dst_of hT.1 hp]
theorem dst_over {t : Ed} (hT : Forest f (t :: T)) {i j a b : Nat} (hl : Leads f t a b) (h1 : Cn f T i a) (h2 : Cn f T b j) : dst f (t :: T) i j = dst f T i a + t.w + dst f T b j := by
  obtain ⟨p, hp⟩ := hT.1.exists_ h1
  obtain ⟨q, hq⟩ := hT.1.exists_ h2
  have htT : t ∉ T := fun h' => hl.not_cn hT.2 (Cn.one h' hl)
  have htr : Trail f (t :: T) i (p ++ t :: q) j := by
    refine ⟨hp.walk.app ⟨b, hl, hq.walk⟩, fun e he => ?_, ?_⟩
    · rcases List.mem_append.1 he with he | he
      · exact List.mem_cons_of_mem _ (hp.sub e he)
      · rcases List.mem_cons.1 he with rfl | he
        · simp
        · exact List.mem_cons_of_mem _ (hq.sub e he)
    · refine List.nodup_append.2 ⟨hp.one, List.nodup_cons.2 ⟨fun h' => htT (hq.sub t h'), hq.one⟩, fun a ha b hb hab => ?_⟩
      subst hab
      rcases List.mem_cons.1 hb with rfl | hb
      · exact htT (hp.sub _ ha)
      · exact hl.not_cn hT.2 ((hp.cn.symm.trans (hp.walk.mem_cn hp.sub a ha)).trans (hq.walk.mem_cn hq.sub a hb).symm)
  rw [dst_of hT htr, dst_of hT.1 hp, dst_of hT.1 hq, sumW_append, sumW_cons]
  omega

/-- The four-point condition, of all places that are joined. -/
def Four (f : Ed → Nat × Nat) (T : List Ed) : Prop := ∀ x y u a : Nat, Cn f T x y → Cn f T x u → Cn f T x a →
  dst f T x y + dst f T u a ≤ max (dst f T x u + dst f T y a) (dst f T x a + dst f T y u)
theorem Four.tri (h : Four f T) (hT : Forest f T) {x y z : Nat} (h1 : Cn f T x y) (h2 : Cn f T x z) : dst f T x y ≤ dst f T x z + dst f T z y := by
  have := h x y z z h1 h2 h2
  rw [dst_self hT, dst_symm hT (h1.symm.trans h2), Int.max_self] at this
  omega
theorem four_side {t : Ed} (h : Four f T) (hT : Forest f (t :: T)) (hw : 0 ≤ t.w) {A B x y u a : Nat} (hl : Leads f t A B) (hx : Cn f T x A) (hy : Cn f T y A ∨ Cn f T y B) (hu : Cn f T u A ∨ Cn f T u B) (ha : Cn f T a A ∨ Cn f T a B) :
    dst f (t :: T) x y + dst f (t :: T) u a ≤ max (dst f (t :: T) x u + dst f (t :: T) y a) (dst f (t :: T) x a + dst f (t :: T) y u) := by
  have hT' := hT.1
  rcases hy with hy | hy <;> rcases hu with hu | hu <;> rcases ha with ha | ha
  · rw [dst_in hT (hx.trans hy.symm), dst_in hT (hu.trans ha.symm), dst_in hT (hx.trans hu.symm), dst_in hT (hy.trans ha.symm), dst_in hT (hx.trans ha.symm), dst_in hT (hy.trans hu.symm)]
    exact h x y u a (hx.trans hy.symm) (hx.trans hu.symm) (hx.trans ha.symm)
  · rw [dst_in hT (hx.trans hy.symm), dst_over hT hl hu ha.symm, dst_in hT (hx.trans hu.symm), dst_over hT hl hy ha.symm, dst_over hT hl hx ha.symm, dst_in hT (hy.trans hu.symm)]
    have := h x y u A (hx.trans hy.symm) (hx.trans hu.symm) hx
    omega
  · rw [dst_in hT (hx.trans hy.symm), dst_over hT hl.symm hu ha.symm, dst_over hT hl hx hu.symm, dst_in hT (hy.trans ha.symm), dst_in hT (hx.trans ha.symm), dst_over hT hl hy hu.symm]
    have := h x y A a (hx.trans hy.symm) hx (hx.trans ha.symm)
    have e1 := dst_symm hT' hu
    omega
  · rw [dst_in hT (hx.trans hy.symm), dst_in hT (hu.trans ha.symm), dst_over hT hl hx hu.symm, dst_over hT hl hy ha.symm, dst_over hT hl hx ha.symm, dst_over hT hl hy hu.symm]
    have h1 := h.tri hT' (hx.trans hy.symm) hx
    have h2 := h.tri hT' (hu.trans ha.symm) hu
    have e1 := dst_symm hT' hu
    have e2 := dst_symm hT' hy
    omega
  · rw [dst_over hT hl hx hy.symm, dst_in hT (hu.trans ha.symm), dst_in hT (hx.trans hu.symm), dst_over hT hl.symm hy ha.symm, dst_in hT (hx.trans ha.symm), dst_over hT hl.symm hy hu.symm]
    have := h x A u a hx (hx.trans hu.symm) (hx.trans ha.symm)
    have e1 := dst_symm hT' hy
    omega
  · rw [dst_over hT hl hx hy.symm, dst_over hT hl hu ha.symm, dst_in hT (hx.trans hu.symm), dst_in hT (hy.trans ha.symm), dst_over hT hl hx ha.symm, dst_over hT hl.symm hy hu.symm]
    have e1 := dst_symm hT' hy
    have e2 := dst_symm hT' hu
    omega
  · rw [dst_over hT hl hx hy.symm, dst_over hT hl.symm hu ha.symm, dst_over hT hl hx hu.symm, dst_over hT hl.symm hy ha.symm, dst_in hT (hx.trans ha.symm), dst_in hT (hy.trans hu.symm)]
    have e1 := dst_symm hT' hy
    have e2 := dst_symm hT' hu
    omega
  · rw [dst_over hT hl hx hy.symm, dst_in hT (hu.trans ha.symm), dst_over hT hl hx hu.symm, dst_in hT (hy.trans ha.symm), dst_over hT hl hx ha.symm, dst_in hT (hy.trans hu.symm)]
    have := h B y u a hy.symm hu.symm ha.symm
    omega
theorem four : ∀ {T : List Ed}, Forest f T → (∀ e ∈ T, 0 ≤ e.w) → Four f T
  | [], hT, _ => by
    intro x y u a h1 h2 h3
    have key : ∀ {i j : Nat}, Cn f [] i j → i = j := by
      intro i j h
      cases h with
      | refl => rfl
      | step _ he => cases he
    obtain rfl := key h1
    obtain rfl := key h2
    obtain rfl := key h3
    exact Int.le_max_left _ _
  | t :: T, hT, hw => by
    have ih := four hT.1 fun e he => hw e (List.mem_cons_of_mem _ he)
    have hwt := hw t (by simp)
    intro x y u a h1 h2 h3
    have side : ∀ {A B : Nat}, Leads f t A B → ¬ Cn f T A B → Cn f T x A → ∀ {p : Nat}, Cn f (t :: T) x p → Cn f T p A ∨ Cn f T p B := by
      intro A B hl hn hx p hp
      rcases hp.split with h | ⟨h4, h5⟩ | ⟨h4, h5⟩
      · exact .inl (h.symm.trans hx)
      · rcases hl with ⟨rfl, rfl⟩ | ⟨rfl, rfl⟩
        · exact .inr h5.symm
        · exact .inl h5.symm
      · rcases hl with ⟨rfl, rfl⟩ | ⟨rfl, rfl⟩
        · exact .inl h5.symm
        · exact .inr h5.symm
    have l1 : Leads f t (f t).1 (f t).2 := .inl ⟨rfl, rfl⟩
    have l2 : Leads f t (f t).2 (f t).1 := .inr ⟨rfl, rfl⟩
    by_cases hA : Cn f T x (f t).1
    · exact four_side ih hT hwt l1 hA (side l1 hT.2 hA h1) (side l1 hT.2 hA h2) (side l1 hT.2 hA h3)
    · by_cases hB : Cn f T x (f t).2
      · exact four_side ih hT hwt l2 hB (side l2 (fun h => hT.2 h.symm) hB h1) (side l2 (fun h => hT.2 h.symm) hB h2) (side l2 (fun h => hT.2 h.symm) hB h3)
      · have lone : ∀ {p : Nat}, Cn f (t :: T) x p → Cn f T x p := by
          intro p hp
          rcases hp.split with h | ⟨h4, _⟩ | ⟨h4, _⟩
          · exact h
          · exact absurd h4 hA
          · exact absurd h4 hB
        have k1 := lone h1
        have k2 := lone h2
        have k3 := lone h3
        rw [dst_in hT k1, dst_in hT (k2.symm.trans k3), dst_in hT k2, dst_in hT (k1.symm.trans k3), dst_in hT k3, dst_in hT (k1.symm.trans k2)]
        exact ih x y u a k1 k2 k3
/-- From the farthest of any place, the farthest is as far as any two are apart. -/
theorem far_far (hT : Forest f T) (hw : ∀ e ∈ T, 0 ≤ e.w) {s a b : Nat} (ha : Cn f T s a) (hb : Cn f T s b) (hfa : ∀ p, Cn f T s p → dst f T p s ≤ dst f T a s) (hfb : ∀ p, Cn f T s p → dst f T p a ≤ dst f T b a)
    {x y : Nat} (hx : Cn f T s x) (hy : Cn f T s y) : dst f T x y ≤ dst f T b a := by
  have h := four hT hw x y s a (hx.symm.trans hy) hx.symm (hx.symm.trans ha)
  have h1 := hfa x hx
  have h2 := hfa y hy
  have h3 := hfb x hx
  have h4 := hfb y hy
  have e1 := dst_symm hT ha
  omega
end
end Go.Proofs.YtghacfhpafbdmaaGreat

/-
  Plain words on spans: the span of a tree is the greatest distance in it, and all its vertices tell it. No walk.
-/
namespace Go.Proofs.YtghacfhpafbdmaaGreat
set_option linter.unusedVariables false

section
variable {V : List Int} {E : List Ed}
/-- How far two vertices are apart. -/
noncomputable def dsV (V : List Int) (E : List Ed) (u v : Int) : Int := dst (plE V) (forE V E).reverse (pl V u) (pl V v)
theorem rev_cn {i j : Nat} : Cn (plE V) (forE V E).reverse i j ↔ Cn (plE V) (forE V E) i j :=
  ⟨fun h => h.mono fun e he => List.mem_reverse.1 he, fun h => h.mono fun e he => List.mem_reverse.2 he⟩
theorem rev_w (hr : Right V E) : ∀ e ∈ (forE V E).reverse, 0 ≤ e.w := fun e he => (hr.ew e (forE_sub V E e (List.mem_reverse.1 he))).1
theorem path_dst {u v : Int} (h : pathErr V E u v = 0) : sumW (pathL V E u v) = dsV V E u v := by
  obtain ⟨_, hr, hu, hv, hk, _⟩ := path_known h
  exact (dst_of (forE_forest hr) ((path_trail hr hu hv hk).1.mono fun e he => List.mem_reverse.2 he)).symm
theorem far_dst (hr : Right V E) {s x : Nat} (hs : s < V.length) (hx : x < V.length) (h : Cn (plE V) (forE V E) s x) : frr (goneP V E s).far x = dst (plE V) (forE V E).reverse x s := by
  have hw := goneP_went hr hs
  have hk := (bfs_known (forE_lt hr) hs x hx).2 h
  obtain ⟨k, hk⟩ := List.getElem?_of_mem ((hw.known x).2 ⟨hx, hk⟩)
  have hlt := (List.getElem?_eq_some_iff.1 hk).1
  have := hw.back V.length k x hk (by have := hw.len; omega)
  rw [← this.2.1]
  exact (dst_of (forE_forest hr) (this.1.mono fun e he => List.mem_reverse.2 he)).symm
theorem farthest_of (hr : Right V E) {s : Nat} (hs : s < V.length) : farthest (goneP V E s) < V.length ∧ Cn (plE V) (forE V E) s (farthest (goneP V E s)) ∧
    ∀ p, p < V.length → Cn (plE V) (forE V E) s p → dst (plE V) (forE V E).reverse p s ≤ dst (plE V) (forE V E).reverse (farthest (goneP V E s)) s := by
  have hw := goneP_went hr hs
  obtain ⟨h1, h2⟩ := hw.farthest
  have h3 := (hw.known _).1 h1
  have h4 := (bfs_known (forE_lt hr) hs _ h3.1).1 h3.2
  refine ⟨h3.1, h4, fun p hp hc => ?_⟩
  rw [← far_dst hr hs hp hc, ← far_dst hr hs h3.1 h4]
  exact h2 p ((hw.known p).2 ⟨hp, (bfs_known (forE_lt hr) hs p hp).2 hc⟩)
theorem cn_lt (hr : Right V E) {s p : Nat} (hs : s < V.length) (h : Cn (plE V) (forE V E) s p) : p < V.length := by
  induction h with
  | refl => exact hs
  | step _ he hl _ => exact (hl.lt (forE_lt hr) he).2
/-- The span: between two places of the tree, and no two are farther apart. -/
theorem span_spec (hr : Right V E) {u : Int} (hu : u ∈ V) : ∃ a b, a < V.length ∧ b < V.length ∧ Cn (plE V) (forE V E) (pl V u) a ∧ Cn (plE V) (forE V E) (pl V u) b ∧ spanV V E u = dst (plE V) (forE V E).reverse b a ∧
    ∀ x y, Cn (plE V) (forE V E) (pl V u) x → Cn (plE V) (forE V E) (pl V u) y → dst (plE V) (forE V E).reverse x y ≤ spanV V E u := by
  have hs := pl_lt hr.vup hu
  obtain ⟨a1, a2, a3⟩ := farthest_of hr hs
  obtain ⟨b1, b2, b3⟩ := farthest_of hr a1
  have e : spanV V E u = dst (plE V) (forE V E).reverse (farthest (goneP V E (farthest (goneP V E (pl V u))))) (farthest (goneP V E (pl V u))) := far_dst hr a1 b1 b2
  refine ⟨_, _, a1, b1, a2, a2.trans b2, e, fun x y hx hy => ?_⟩
  rw [e]
  refine far_far (forE_forest hr) (rev_w hr) (s := pl V u) (rev_cn.2 a2) (rev_cn.2 (a2.trans b2)) (fun p hp => ?_) (fun p hp => ?_) (rev_cn.2 hx) (rev_cn.2 hy)
  · have hp := rev_cn.1 hp
    exact a3 p (cn_lt hr hs hp) hp
  · have hp := rev_cn.1 hp
    exact b3 p (cn_lt hr hs hp) (a2.symm.trans hp)
theorem joined_cn (hr : Right V E) {u v : Int} (hu : u ∈ V) (hv : v ∈ V) : joinedB V E u v = true ↔ Cn (plE V) (forE V E) (pl V u) (pl V v) := by
  unfold joinedB
  rw [decide_eq_true_iff, labs_cn hr (pl_lt hr.vup hu) (pl_lt hr.vup hv)]
theorem span_same (hr : Right V E) {u v : Int} (hu : u ∈ V) (hv : v ∈ V) (h : joinedB V E u v = true) : spanV V E v = spanV V E u := by
  have h := (joined_cn hr hu hv).1 h
  obtain ⟨a, b, _, _, h1, h2, h3, h4⟩ := span_spec hr hu
  obtain ⟨c, d, _, _, k1, k2, k3, k4⟩ := span_spec hr hv
  have e1 := k4 b a (h.symm.trans h2) (h.symm.trans h1)
  have e2 := h4 d c (h.trans k2) (h.trans k1)
  omega
theorem span_le (hr : Right V E) {u v w : Int} (hu : u ∈ V) (hv : v ∈ V) (hw : w ∈ V) (h1 : joinedB V E u v = true) (h2 : joinedB V E v w = true) : dsV V E v w ≤ spanV V E u := by
  obtain ⟨a, b, _, _, _, _, _, h4⟩ := span_spec hr hu
  have k1 := (joined_cn hr hu hv).1 h1
  have k2 := (joined_cn hr hv hw).1 h2
  exact h4 _ _ k1 (k1.trans k2)
theorem pl_at {i : Nat} (hr : Right V E) (hi : i < V.length) : pl V V[i] = i := pl_get V hr.vup i V[i] (List.getElem?_eq_getElem hi)
theorem span_met (hr : Right V E) {u : Int} (hu : u ∈ V) : ∃ v w, v ∈ V ∧ w ∈ V ∧ joinedB V E u v = true ∧ joinedB V E v w = true ∧ dsV V E v w = spanV V E u := by
  obtain ⟨a, b, ha, hb, h1, h2, h3, _⟩ := span_spec hr hu
  refine ⟨V[b], V[a], List.getElem_mem hb, List.getElem_mem ha, (joined_cn hr hu (List.getElem_mem hb)).2 ?_, (joined_cn hr (List.getElem_mem hb) (List.getElem_mem ha)).2 ?_, ?_⟩
  · rw [pl_at hr hb]; exact h2
  · rw [pl_at hr hb, pl_at hr ha]; exact h2.symm.trans h1
  · unfold dsV; rw [pl_at hr hb, pl_at hr ha]; exact h3.symm
theorem chk_51 (h : rightN V E = true) {x : Int} (hn : x ∉ V) : chkV V E [x] = 51 := by
  unfold chkV
  rw [if_pos h, if_neg]
  intro h2
  have := List.all_eq_true.1 h2 x (by simp)
  exact hn (by simpa using this)
/-- Where there is a path between two vertices of the net. -/
theorem path_if (hn : rightN V E = true) {v w : Int} (hv : v ∈ V) (hw : w ∈ V) : pathErr V E v w = if joinedB V E v w = true then 0 else 61 := by
  have hr := right_of hn
  unfold pathErr
  rw [if_pos (chk_yes hn (by intro z hz; simp at hz; rcases hz with rfl | rfl <;> assumption)), pathK_joined hr hv hw]
  cases joinedB V E v w <;> rfl

/-- What is known of the greatest distance so far: of the first i vertices' questions all, of the next one's the first j. -/
structure SpIn (V : List Int) (E : List Ed) (u : Int) (i j : Nat) (v : Int) (seen : Nat) (mo : Int) : Prop where
  le : mo ≤ spanV V E u
  done : 25 < seen ∨ ∀ x ∈ V.take i, joinedB V E u x = true → ∀ y ∈ V, joinedB V E x y = true → dsV V E x y ≤ mo
  now : ∀ y ∈ V.take j, joinedB V E v y = true → dsV V E v y ≤ mo
theorem take_next {xs : List Int} {k : Nat} {y : Int} (h : xs[k]? = some y) {x : Int} (hx : x ∈ xs.take (k + 1)) : x ∈ xs.take k ∨ x = y := by
  obtain ⟨hk, rfl⟩ := List.getElem?_eq_some_iff.1 h
  rw [List.take_succ_eq_append_getElem hk] at hx
  rcases List.mem_append.1 hx with h | h
  · exact .inl h
  · exact .inr (by simpa using h)
section
variable {u v v' w : Int} {i j seen : Nat} {mo : Int}
theorem SpIn.start (hr : Right V E) (hu : u ∈ V) : SpIn V E u 0 0 0 0 (-1) := by
  have h1 : joinedB V E u u = true := by unfold joinedB; simp
  have h2 := span_le hr hu hu hu h1 h1
  have h3 : dsV V E u u = 0 := dst_self (forE_forest hr) _
  exact ⟨by omega, .inr fun x hx => by simp at hx, fun y hy => by simp at hy⟩
theorem SpIn.enter (h : SpIn V E u i 0 v seen mo) : SpIn V E u i 0 v' seen mo := ⟨h.le, h.done, fun y hy => by simp at hy⟩
theorem SpIn.skip (h : SpIn V E u i 0 v' seen mo) (hv : V[i]? = some v) (hq : joinedB V E u v = false ∨ 25 < seen) : SpIn V E u (i + 1) 0 v' seen mo := by
  refine ⟨h.le, ?_, fun y hy => by simp at hy⟩
  rcases hq with hq | hq
  · rcases h.done with hd | hd
    · exact .inl hd
    · refine .inr fun x hx h1 => ?_
      rcases take_next hv hx with h2 | rfl
      · exact hd x h2 h1
      · rw [hq] at h1; cases h1
  · exact .inl hq
theorem SpIn.pass (h : SpIn V E u i j v seen mo) (hw : V[j]? = some w) (hn : joinedB V E v w = false ∨ dsV V E v w ≤ mo) : SpIn V E u i (j + 1) v seen mo := by
  refine ⟨h.le, h.done, fun y hy h1 => ?_⟩
  rcases take_next hw hy with h2 | rfl
  · exact h.now y h2 h1
  · rcases hn with hn | hn
    · rw [hn] at h1; cases h1
    · exact hn
theorem SpIn.up (h : SpIn V E u i j v seen mo) (hw : V[j]? = some w) (hle : dsV V E v w ≤ spanV V E u) (hgt : mo ≤ dsV V E v w) : SpIn V E u i (j + 1) v seen (dsV V E v w) := by
  refine ⟨hle, ?_, fun y hy h1 => ?_⟩
  · rcases h.done with hd | hd
    · exact .inl hd
    · exact .inr fun x hx h1 y hy h2 => Int.le_trans (hd x hx h1 y hy h2) hgt
  · rcases take_next hw hy with h2 | rfl
    · exact Int.le_trans (h.now y h2 h1) hgt
    · exact Int.le_refl _
theorem SpIn.leave (h : SpIn V E u i V.length v seen mo) (hv : V[i]? = some v) : SpIn V E u (i + 1) 0 v' (seen + 1) mo := by
  refine ⟨h.le, ?_, fun y hy => by simp at hy⟩
  rcases h.done with hd | hd
  · exact .inl (by omega)
  · refine .inr fun x hx h1 y hy h2 => ?_
    rcases take_next hv hx with h3 | rfl
    · exact hd x h3 h1 y hy h2
    · exact h.now y (by rw [List.take_length]; exact hy) h2
end
/-- The span is met behind all questions. -/
theorem SpIn.end_ (hr : Right V E) {u : Int} (hu : u ∈ V) {seen : Nat} {mo : Int} {v : Int} (h : SpIn V E u V.length 0 v seen mo) : mo ≤ spanV V E u ∧ (mo = spanV V E u ∨ 25 < seen) := by
  refine ⟨h.le, ?_⟩
  rcases h.done with hd | hd
  · exact .inr hd
  · left
    obtain ⟨x, y, hx, hy, h1, h2, h3⟩ := span_met hr hu
    have := hd x (by rw [List.take_length]; exact hx) h1 y hy h2
    have := h.le
    omega
end
end Go.Proofs.YtghacfhpafbdmaaGreat
