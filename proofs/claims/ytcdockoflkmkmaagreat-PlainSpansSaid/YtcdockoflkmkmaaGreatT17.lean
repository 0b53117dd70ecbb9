/-
  Plain words on distances in a forest: four places, and why the farthest from the farthest is the greatest distance. No walk.
-/
import Derived.Test.YtcdockoflkmkmaaGreatT13
namespace Go.Proofs.YtcdockoflkmkmaaGreat
set_option linter.unusedVariables false

section
variable {f : Ed → Nat × Nat} {T : List Ed}
open Classical in
/-- How far two places are apart along trails; 0 if there is none. -/
noncomputable def dst (f : Ed → Nat × Nat) (T : List Ed) (i j : Nat) : Int := if h : ∃ p, Trail f T i p j then sumW h.choose else 0
theorem dst_of (hT : Forest f T) {i j : Nat} {p : List Ed} (h : Trail f T i p j) : dst f T i j = sumW p := by
  have hex : ∃ p, Trail f T i p j := ⟨p, h⟩
  unfold dst
  rw [dif_pos hex, hT.unique hex.choose_spec h]
theorem dst_symm (hT : Forest f T) {i j : Nat} (h : Cn f T i j) : dst f T i j = dst f T j i := by
  obtain ⟨p, hp⟩ := hT.exists_ h
  rw [dst_of hT hp, dst_of hT hp.back, sumW_reverse]
theorem dst_self (hT : Forest f T) (i : Nat) : dst f T i i = 0 := dst_of hT (Trail.nil i)
theorem dst_in {t : Ed} (hT : Forest f (t :: T)) {i j : Nat} (h : Cn f T i j) : dst f (t :: T) i j = dst f T i j := by
  obtain ⟨p, hp⟩ := hT.1.exists_ h
  rw [dst_of hT (hp.mono fun e he => List.mem_cons_of_mem _ he), dst_of hT.1 hp]
theorem dst_over {t : Ed} (hT : Forest f (t :: T)) {i j a b : Nat} (hl : Leads f t a b) (h1 : Cn f T i a) (h2 : Cn f T b j) : dst f (t :: T) i j = dst f T i a + t.w + dst f T b j := by
  obtain ⟨p, hp⟩ := hT.1.exists_ h1
  obtain ⟨q, hq⟩ := hT.1.exists_ h2
  have htT : t ∉ T := fun h' => hl.not_cn hT.2 (Cn.one h' hl)
  have htr : Trail f (t :: T) i (p ++ t :: q) j := by
    refine ⟨hp.walk.app ⟨b, hl, hq.walk⟩, fun e he => ?_, ?_⟩
    · rcases List.mem_append.1 he with he | he
      · exact List.mem_cons_of_mem _ (hp.sub e he)
      · rcases List.mem_cons.1 he with rfl | he
        · simp
        · exact List.mem_cons_of_mem _ (hq.sub e he)
    · refine List.nodup_append.2 ⟨hp.one, List.nodup_cons.2 ⟨fun h' => htT (hq.sub t h'), hq.one⟩, fun a ha b hb hab => ?_⟩
      subst hab
      rcases List.mem_cons.1 hb with rfl | hb
      · exact htT (hp.sub _ ha)
      · exact hl.not_cn hT.2 ((hp.cn.symm.trans (hp.walk.mem_cn hp.sub a ha)).trans (hq.walk.mem_cn hq.sub a hb).symm)
  rw [dst_of hT htr, dst_of hT.1 hp, dst_of hT.1 hq, sumW_append, sumW_cons]
  omega

/-- The four-point condition, of all places that are joined. -/
def Four (f : Ed → Nat × Nat) (T : List Ed) : Prop := ∀ x y u a : Nat, Cn f T x y → Cn f T x u → Cn f T x a →
  dst f T x y + dst f T u a ≤ max (dst f T x u + dst f T y a) (dst f T x a + dst f T y u)
theorem Four.tri (h : Four f T) (hT : Forest f T) {x y z : Nat} (h1 : Cn f T x y) (h2 : Cn f T x z) : dst f T x y ≤ dst f T x z + dst f T z y := by
  have := h x y z z h1 h2 h2
  rw [dst_self hT, dst_symm hT (h1.symm.trans h2), Int.max_self] at this
  omega
theorem four_side {t : Ed} (h : Four f T) (hT : Forest f (t :: T)) (hw : 0 ≤ t.w) {A B x y u a : Nat} (hl : Leads f t A B) (hx : Cn f T x A) (hy : Cn f T y A ∨ Cn f T y B) (hu : Cn f T u A ∨ Cn f T u B) (ha : Cn f T a A ∨ Cn f T a B) :
    dst f (t :: T) x y + dst f (t :: T) u a ≤ max (dst f (t :: T) x u + dst f (t :: T) y a) (dst f (t :: T) x a + dst f (t :: T) y u) := by
  have hT' := hT.1
  rcases hy with hy | hy <;> rcases hu with hu | hu <;> rcases ha with ha | ha
  · rw [dst_in hT (hx.trans hy.symm), dst_in hT (hu.trans ha.symm), dst_in hT (hx.trans hu.symm), dst_in hT (hy.trans ha.symm), dst_in hT (hx.trans ha.symm), dst_in hT (hy.trans hu.symm)]
    exact h x y u a (hx.trans hy.symm) (hx.trans hu.symm) (hx.trans ha.symm)
  · rw [dst_in hT (hx.trans hy.symm), dst_over hT hl hu ha.symm, dst_in hT (hx.trans hu.symm), dst_over hT hl hy ha.symm, dst_over hT hl hx ha.symm, dst_in hT (hy.trans hu.symm)]
    have := h x y u A (hx.trans hy.symm) (hx.trans hu.symm) hx
    omega
  · rw [dst_in hT (hx.trans hy.symm), dst_over hT hl.symm hu ha.symm, dst_over hT hl hx hu.symm, dst_in hT (hy.trans ha.symm), dst_in hT (hx.trans ha.symm), dst_over hT hl hy hu.symm]
    have := h x y A a (hx.trans hy.symm) hx (hx.trans ha.symm)
    have e1 := dst_symm hT' hu
    omega
  · rw [dst_in hT (hx.trans hy.symm), dst_in hT (hu.trans ha.symm), dst_over hT hl hx hu.symm, dst_over hT hl hy ha.symm, dst_over hT hl hx ha.symm, dst_over hT hl hy hu.symm]
    have h1 := h.tri hT' (hx.trans hy.symm) hx
    have h2 := h.tri hT' (hu.trans ha.symm) hu
    have e1 := dst_symm hT' hu
    have e2 := dst_symm hT' hy
    omega
  · rw [dst_over hT hl hx hy.symm, dst_in hT (hu.trans ha.symm), dst_in hT (hx.trans hu.symm), dst_over hT hl.symm hy ha.symm, dst_in hT (hx.trans ha.symm), dst_over hT hl.symm hy hu.symm]
    have := h x A u a hx (hx.trans hu.symm) (hx.trans ha.symm)
    have e1 := dst_symm hT' hy
    omega
  · rw [dst_over hT hl hx hy.symm, dst_over hT hl hu ha.symm, dst_in hT (hx.trans hu.symm), dst_in hT (hy.trans ha.symm), dst_over hT hl hx ha.symm, dst_over hT hl.symm hy hu.symm]
    have e1 := dst_symm hT' hy
    have e2 := dst_symm hT' hu
    omega
  · rw [dst_over hT hl hx hy.symm, dst_over hT hl.symm hu ha.symm, dst_over hT hl hx hu.symm, dst_over hT hl.symm hy ha.symm, dst_in hT (hx.trans ha.symm), dst_in hT (hy.trans hu.symm)]
    have e1 := dst_symm hT' hy
    have e2 := dst_symm hT' hu
    omega
  · rw [dst_over hT hl hx hy.symm, dst_in hT (hu.trans ha.symm), dst_over hT hl hx hu.symm, dst_in hT (hy.trans ha.symm), dst_over hT hl hx ha.symm, dst_in hT (hy.trans hu.symm)]
    have := h B y u a hy.symm hu.symm ha.symm
    omega
theorem four : ∀ {T : List Ed}, Forest f T → (∀ e ∈ T, 0 ≤ e.w) → Four f T
  | [], hT, _ => by
    intro x y u a h1 h2 h3
    have key : ∀ {i j : Nat}, Cn f [] i j → i = j := by
      intro i j h
      cases h with
      | refl => rfl
      | step _ he => cases he
    obtain rfl := key h1
    obtain rfl := key h2
    obtain rfl := key h3
    exact Int.le_max_left _ _
  | t :: T, hT, hw => by
    have ih := four hT.1 fun e he => hw e (List.mem_cons_of_mem _ he)
    have hwt := hw t (by simp)
    intro x y u a h1 h2 h3
    have side : ∀ {A B : Nat}, Leads f t A B → ¬ Cn f T A B → Cn f T x A → ∀ {p : Nat}, Cn f (t :: T) x p → Cn f T p A ∨ Cn f T p B := by
      intro A B hl hn hx p hp
      rcases hp.split with h | ⟨h4, h5⟩ | ⟨h4, h5⟩
      · exact .inl (h.symm.trans hx)
      · rcases hl with ⟨rfl, rfl⟩ | ⟨rfl, rfl⟩
        · exact .inr h5.symm
        · exact .inl h5.symm
      · rcases hl with ⟨rfl, rfl⟩ | ⟨rfl, rfl⟩
        · exact .inl h5.symm
        · exact .inr h5.symm
    have l1 : Leads f t (f t).1 (f t).2 := .inl ⟨rfl, rfl⟩
    have l2 : Leads f t (f t).2 (f t).1 := .inr ⟨rfl, rfl⟩
    by_cases hA : Cn f T x (f t).1
    · exact four_side ih hT hwt l1 hA (side l1 hT.2 hA h1) (side l1 hT.2 hA h2) (side l1 hT.2 hA h3)
    · by_cases hB : Cn f T x (f t).2
      · exact four_side ih hT hwt l2 hB (side l2 (fun h => hT.2 h.symm) hB h1) (side l2 (fun h => hT.2 h.symm) hB h2) (side l2 (fun h => hT.2 h.symm) hB h3)
      · have lone : ∀ {p : Nat}, Cn f (t :: T) x p → Cn f T x p := by
          intro p hp
          rcases hp.split with h | ⟨h4, _⟩ | ⟨h4, _⟩
          · exact h
          · exact absurd h4 hA
          · exact absurd h4 hB
        have k1 := lone h1
        have k2 := lone h2
        have k3 := lone h3
        rw [dst_in hT k1, dst_in hT (k2.symm.trans k3), dst_in hT k2, dst_in hT (k1.symm.trans k3), dst_in hT k3, dst_in hT (k1.symm.trans k2)]
        exact ih x y u a k1 k2 k3
/-- From the farthest of any place, the farthest is as far as any two are apart. -/
theorem far_far (hT : Forest f T) (hw : ∀ e ∈ T, 0 ≤ e.w) {s a b : Nat} (ha : Cn f T s a) (hb : Cn f T s b) (hfa : ∀ p, Cn f T s p → dst f T p s ≤ dst f T a s) (hfb : ∀ p, Cn f T s p → dst f T p a ≤ dst f T b a)
    {x y : Nat} (hx : Cn f T s x) (hy : Cn f T s y) : dst f T x y ≤ dst f T b a := by
  have h := four hT hw x y s a (hx.symm.trans hy) hx.symm (hx.symm.trans ha)
  have h1 := hfa x hx
  have h2 := hfa y hy
  have h3 := hfb x hx
  have h4 := hfb y hy
  have e1 := dst_symm hT ha
  omega
end
end Go.Proofs.YtcdockoflkmkmaaGreat
