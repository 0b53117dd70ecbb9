/-
  Plain words on nets, more: who is joined by edges, walks along edges, and that in a forest there is just one walk that takes no edge twice. No walk of the program.
-/
import Derived.Test.YtghacfhpafbdmaaGreatG1
namespace Go.Proofs.YtghacfhpafbdmaaGreat
set_option linter.unusedVariables false

section
variable (f : Ed → Nat × Nat)

/-- e leads from i to k. -/
def Leads (e : Ed) (i k : Nat) : Prop := ((f e).1 = i ∧ (f e).2 = k) ∨ ((f e).2 = i ∧ (f e).1 = k)
theorem Leads.symm {f : Ed → Nat × Nat} {e : Ed} {i k : Nat} (h : Leads f e i k) : Leads f e k i := by
  rcases h with ⟨h1, h2⟩ | ⟨h1, h2⟩
  · exact .inr ⟨h2, h1⟩
  · exact .inl ⟨h2, h1⟩

/-- Joined by edges. -/
inductive Cn (es : List Ed) : Nat → Nat → Prop
  | refl (i : Nat) : Cn es i i
  | step {i j k : Nat} {e : Ed} : Cn es i j → e ∈ es → Leads f e j k → Cn es i k
end

section
variable {f : Ed → Nat × Nat} {es T : List Ed}
theorem Cn.one {e : Ed} {i k : Nat} (he : e ∈ es) (h : Leads f e i k) : Cn f es i k := .step (.refl i) he h
theorem Cn.trans {i j k : Nat} (h : Cn f es i j) (h' : Cn f es j k) : Cn f es i k := by
  induction h' with
  | refl => exact h
  | step _ he hl ih => exact .step ih he hl
theorem Cn.symm {i j : Nat} (h : Cn f es i j) : Cn f es j i := by
  induction h with
  | refl => exact .refl _
  | step _ he hl ih => exact (Cn.one he hl.symm).trans ih
theorem Cn.mono {i j : Nat} (h : Cn f es i j) (hs : ∀ e ∈ es, e ∈ T) : Cn f T i j := by
  induction h with
  | refl => exact .refl _
  | step _ he hl ih => exact .step ih (hs _ he) hl

/-- With one edge more. -/
theorem Cn.split {t : Ed} {i j : Nat} (h : Cn f (t :: T) i j) :
    Cn f T i j ∨ (Cn f T i (f t).1 ∧ Cn f T (f t).2 j) ∨ (Cn f T i (f t).2 ∧ Cn f T (f t).1 j) := by
  induction h with
  | refl => exact .inl (.refl _)
  | @step j k e h he hl ih =>
    rcases List.mem_cons.1 he with rfl | he
    · rcases ih with ih | ⟨ih1, ih2⟩ | ⟨ih1, ih2⟩ <;> rcases hl with ⟨rfl, rfl⟩ | ⟨rfl, rfl⟩
      · exact .inr (.inl ⟨ih, .refl _⟩)
      · exact .inr (.inr ⟨ih, .refl _⟩)
      · exact .inr (.inl ⟨ih1, .refl _⟩)
      · exact .inl ih1
      · exact .inl ih1
      · exact .inr (.inr ⟨ih1, .refl _⟩)
    · have h1 := Cn.one (f := f) he hl
      rcases ih with ih | ⟨ih1, ih2⟩ | ⟨ih1, ih2⟩
      · exact .inl (ih.trans h1)
      · exact .inr (.inl ⟨ih1, ih2.trans h1⟩)
      · exact .inr (.inr ⟨ih1, ih2.trans h1⟩)
theorem Cn.of_split {t : Ed} {i j : Nat} (h : Cn f T i j ∨ (Cn f T i (f t).1 ∧ Cn f T (f t).2 j) ∨ (Cn f T i (f t).2 ∧ Cn f T (f t).1 j)) : Cn f (t :: T) i j := by
  have hs : ∀ e ∈ T, e ∈ t :: T := fun e he => List.mem_cons_of_mem _ he
  rcases h with h | ⟨h1, h2⟩ | ⟨h1, h2⟩
  · exact h.mono hs
  · exact ((h1.mono hs).trans (Cn.one (by simp) (.inl ⟨rfl, rfl⟩))).trans (h2.mono hs)
  · exact ((h1.mono hs).trans (Cn.one (by simp) (.inr ⟨rfl, rfl⟩))).trans (h2.mono hs)

/-- Labels tell who is joined. -/
theorem lab_iff_cn {n : Nat} : ∀ (es : List Ed), (∀ e ∈ es, (f e).1 < n ∧ (f e).2 < n) → ∀ i j, i < n → j < n →
    (lab (labsF f (List.range n) es) i = lab (labsF f (List.range n) es) j ↔ Cn f es i j) := by
  intro es
  have key : ∀ (r : List Ed), (∀ e ∈ r, (f e).1 < n ∧ (f e).2 < n) → ∀ i j, i < n → j < n →
      (lab (labsF f (List.range n) r.reverse) i = lab (labsF f (List.range n) r.reverse) j ↔ Cn f r i j) := by
    intro r
    induction r with
    | nil =>
      intro _ i j hi hj
      simp only [List.reverse_nil, labsF, List.foldl_nil]
      rw [lab_range n i hi, lab_range n j hj]
      constructor
      · rintro rfl; exact .refl _
      · intro h
        cases h with
        | refl => rfl
        | step _ he => cases he
    | cons t r ih =>
      intro hr i j hi hj
      have ht := hr t (by simp)
      have hr' : ∀ e ∈ r, (f e).1 < n ∧ (f e).2 < n := fun e he => hr e (by simp [he])
      have ih' := ih hr'
      have hlen : (labsF f (List.range n) r.reverse).length = n := by rw [length_labsF, List.length_range]
      rw [List.reverse_cons, labsF_snoc, lab_joinL (by omega), lab_joinL (by omega), ren_eq_iff, ih' i j hi hj, ih' i _ hi ht.1, ih' j _ hj ht.2, ih' i _ hi ht.2, ih' j _ hj ht.1]
      constructor
      · rintro (h | ⟨h1, h2⟩ | ⟨h1, h2⟩)
        · exact .of_split (.inl h)
        · exact .of_split (.inr (.inl ⟨h1, h2.symm⟩))
        · exact .of_split (.inr (.inr ⟨h1, h2.symm⟩))
      · intro h
        rcases h.split with h | ⟨h1, h2⟩ | ⟨h1, h2⟩
        · exact .inl h
        · exact .inr (.inl ⟨h1, h2.symm⟩)
        · exact .inr (.inr ⟨h1, h2.symm⟩)
  intro he i j hi hj
  have := key es.reverse (fun e h => he e (List.mem_reverse.1 h)) i j hi hj
  rw [List.reverse_reverse] at this
  rw [this]
  exact ⟨fun h => h.mono fun e he => List.mem_reverse.1 he, fun h => h.mono fun e he => List.mem_reverse.2 he⟩

/-- Labels hang on who is joined alone. -/
theorem labs_eq {n : Nat} {L L' : List Nat} (h1 : LabOk L) (h2 : LabOk L') (hl : L.length = n) (hl' : L'.length = n)
    (h : ∀ i j, i < n → j < n → (lab L i = lab L j ↔ lab L' i = lab L' j)) : L = L' := by
  refine List.ext_getElem (by omega) fun i hi hi' => ?_
  have a1 := h1.le i hi
  have a2 := h1.fix i hi
  have b1 := h2.le i hi'
  have b2 := h2.fix i hi'
  have c1 := (h (lab L i) i (by omega) (by omega)).1 a2
  have c2 := (h (lab L' i) i (by omega) (by omega)).2 b2
  have d1 := h2.le (lab L i) (by omega)
  have d2 := h1.le (lab L' i) (by omega)
  have e1 : lab L i = L[i] := by simp [lab, List.getD, hi]
  have e2 : lab L' i = L'[i] := by simp [lab, List.getD, hi']
  omega

/-! ### Walks along edges -/
/-- The edges lead from i to j. -/
def Walk (f : Ed → Nat × Nat) : Nat → List Ed → Nat → Prop
  | i, [], j => i = j
  | i, e :: r, j => ∃ k, Leads f e i k ∧ Walk f k r j
theorem Walk.app {p q : List Ed} : ∀ {i j k : Nat}, Walk f i p j → Walk f j q k → Walk f i (p ++ q) k := by
  induction p with
  | nil => intro i j k h h'; simp only [Walk] at h; subst h; exact h'
  | cons e r ih => intro i j k h h'; obtain ⟨m, h1, h2⟩ := h; exact ⟨m, h1, ih h2 h'⟩
theorem Walk.part {p q : List Ed} : ∀ {i k : Nat}, Walk f i (p ++ q) k → ∃ j, Walk f i p j ∧ Walk f j q k := by
  induction p with
  | nil => intro i k h; exact ⟨i, rfl, h⟩
  | cons e r ih =>
    intro i k h
    obtain ⟨m, h1, h2⟩ := h
    obtain ⟨j, h3, h4⟩ := ih h2
    exact ⟨j, ⟨m, h1, h3⟩, h4⟩
theorem Walk.snoc {p : List Ed} {e : Ed} {i j k : Nat} (h : Walk f i p j) (hl : Leads f e j k) : Walk f i (p ++ [e]) k := h.app ⟨k, hl, rfl⟩
theorem Walk.back {p : List Ed} : ∀ {i j : Nat}, Walk f i p j → Walk f j p.reverse i := by
  induction p with
  | nil => intro i j h; simp only [Walk] at h; subst h; rfl
  | cons e r ih =>
    intro i j h
    obtain ⟨m, h1, h2⟩ := h
    rw [List.reverse_cons]
    exact (ih h2).snoc h1.symm
theorem Walk.cn {p : List Ed} : ∀ {i j : Nat}, Walk f i p j → (∀ e ∈ p, e ∈ T) → Cn f T i j := by
  induction p with
  | nil => intro i j h _; simp only [Walk] at h; subst h; exact .refl _
  | cons e r ih =>
    intro i j h hs
    obtain ⟨m, h1, h2⟩ := h
    exact (Cn.one (hs e (by simp)) h1).trans (ih h2 fun x hx => hs x (by simp [hx]))
/-- An edge of a walk is joined to where it begins. -/
theorem Walk.mem_cn {p : List Ed} : ∀ {i j : Nat}, Walk f i p j → (∀ e ∈ p, e ∈ T) → ∀ e ∈ p, Cn f T i (f e).1 := by
  induction p with
  | nil => intro i j _ _ e he; cases he
  | cons x r ih =>
    intro i j h hs e he
    obtain ⟨m, h1, h2⟩ := h
    have hx := hs x (by simp)
    rcases List.mem_cons.1 he with rfl | he
    · rcases h1 with ⟨h1, _⟩ | ⟨h1, h3⟩
      · rw [h1]; exact .refl _
      · rw [h3]; exact Cn.one hx (.inr ⟨h1, h3⟩)
    · exact (Cn.one hx h1).trans (ih h2 (fun y hy => hs y (by simp [hy])) e he)

/-- A walk that takes edges of T alone, none twice. -/
structure Trail (f : Ed → Nat × Nat) (T : List Ed) (i : Nat) (p : List Ed) (j : Nat) : Prop where
  walk : Walk f i p j
  sub : ∀ e ∈ p, e ∈ T
  one : p.Nodup
theorem Trail.back {p : List Ed} {i j : Nat} (h : Trail f T i p j) : Trail f T j p.reverse i :=
  ⟨h.walk.back, fun e he => h.sub e (List.mem_reverse.1 he), by unfold List.Nodup; rw [List.pairwise_reverse]; exact h.one.imp Ne.symm⟩
theorem Trail.nil (i : Nat) : Trail f T i [] i := ⟨rfl, fun e he => (by cases he), List.nodup_nil⟩
theorem Trail.cn {p : List Ed} {i j : Nat} (h : Trail f T i p j) : Cn f T i j := h.walk.cn h.sub
theorem Trail.mono {p : List Ed} {i j : Nat} (h : Trail f es i p j) (hs : ∀ e ∈ es, e ∈ T) : Trail f T i p j := ⟨h.walk, fun e he => hs e (h.sub e he), h.one⟩

/-- A trail with one edge more to take. -/
theorem Trail.split {t : Ed} {p : List Ed} {i j : Nat} (h : Trail f (t :: T) i p j) :
    Trail f T i p j ∨ ∃ p1 p2 x y, p = p1 ++ t :: p2 ∧ Leads f t x y ∧ Trail f T i p1 x ∧ Trail f T y p2 j := by
  by_cases ht : t ∈ p
  · right
    obtain ⟨p1, p2, rfl⟩ := List.append_of_mem ht
    obtain ⟨x, h1, y, h2, h3⟩ := h.walk.part
    have hn := List.nodup_append.1 h.one
    obtain ⟨n1, n2, n3⟩ := hn
    obtain ⟨n4, n5⟩ := List.nodup_cons.1 n2
    refine ⟨p1, p2, x, y, rfl, h2, ⟨h1, fun e he => ?_, n1⟩, ⟨h3, fun e he => ?_, n5⟩⟩
    · rcases List.mem_cons.1 (h.sub e (by simp [he])) with rfl | h'
      · exact absurd rfl (n3 e he e (by simp))
      · exact h'
    · rcases List.mem_cons.1 (h.sub e (by simp [he])) with rfl | h'
      · exact absurd he n4
      · exact h'
  · left
    refine ⟨h.walk, fun e he => ?_, h.one⟩
    rcases List.mem_cons.1 (h.sub e he) with rfl | h'
    · exact absurd he ht
    · exact h'

/-- No way round: each edge joins what those behind it in the list don't. -/
def Forest (f : Ed → Nat × Nat) : List Ed → Prop
  | [] => True
  | t :: T => Forest f T ∧ ¬ Cn f T (f t).1 (f t).2
theorem Leads.not_cn {t : Ed} {x y : Nat} (h : ¬ Cn f T (f t).1 (f t).2) (hl : Leads f t x y) : ¬ Cn f T x y := by
  rcases hl with ⟨rfl, rfl⟩ | ⟨rfl, rfl⟩
  · exact h
  · exact fun h' => h h'.symm

theorem Forest.unique : ∀ {T : List Ed}, Forest f T → ∀ {i j : Nat} {p q : List Ed}, Trail f T i p j → Trail f T i q j → p = q
  | [], _, i, j, p, q, hp, hq => by
    have h1 : p = [] := List.eq_nil_iff_forall_not_mem.2 fun e he => by have := hp.sub e he; cases this
    have h2 : q = [] := List.eq_nil_iff_forall_not_mem.2 fun e he => by have := hq.sub e he; cases this
    rw [h1, h2]
  | t :: T, ⟨hT, ht⟩, i, j, p, q, hp, hq => by
    rcases hp.split with h1 | ⟨p1, p2, x, y, rfl, hl, h1, h2⟩ <;> rcases hq.split with k1 | ⟨q1, q2, x', y', rfl, kl, k1, k2⟩
    · exact hT.unique h1 k1
    · exact absurd ((k1.cn.symm.trans h1.cn).trans k2.cn.symm) (kl.not_cn ht)
    · exact absurd ((h1.cn.symm.trans k1.cn).trans h2.cn.symm) (hl.not_cn ht)
    · have e : x = x' ∧ y = y' := by
        rcases hl with ⟨rfl, rfl⟩ | ⟨rfl, rfl⟩ <;> rcases kl with ⟨rfl, rfl⟩ | ⟨rfl, rfl⟩
        · exact ⟨rfl, rfl⟩
        · exact absurd (h1.cn.symm.trans k1.cn) ht
        · exact absurd (k1.cn.symm.trans h1.cn) ht
        · exact ⟨rfl, rfl⟩
      obtain ⟨rfl, rfl⟩ := e
      rw [hT.unique h1 k1, hT.unique h2 k2]

theorem Forest.exists_ : ∀ {T : List Ed}, Forest f T → ∀ {i j : Nat}, Cn f T i j → ∃ p, Trail f T i p j
  | [], _, i, j, h => by
    cases h with
    | refl => exact ⟨[], .nil _⟩
    | step _ he => cases he
  | t :: T, ⟨hT, ht⟩, i, j, h => by
    have hs : ∀ e ∈ T, e ∈ t :: T := fun e he => List.mem_cons_of_mem _ he
    have glue : ∀ x y, Leads f t x y → Cn f T i x → Cn f T y j → ∃ p, Trail f (t :: T) i p j := by
      intro x y hl hx hy
      obtain ⟨p, hp⟩ := hT.exists_ hx
      obtain ⟨q, hq⟩ := hT.exists_ hy
      have htT : t ∉ T := fun h' => hl.not_cn ht (Cn.one h' hl)
      refine ⟨p ++ t :: q, hp.walk.app ⟨y, hl, hq.walk⟩, fun e he => ?_, ?_⟩
      · rcases List.mem_append.1 he with he | he
        · exact hs _ (hp.sub e he)
        · rcases List.mem_cons.1 he with rfl | he
          · simp
          · exact hs _ (hq.sub e he)
      · refine List.nodup_append.2 ⟨hp.one, List.nodup_cons.2 ⟨fun h' => htT (hq.sub t h'), hq.one⟩, fun a ha b hb hab => ?_⟩
        subst hab
        rcases List.mem_cons.1 hb with rfl | hb
        · exact htT (hp.sub _ ha)
        · exact hl.not_cn ht ((hp.cn.symm.trans (hp.walk.mem_cn hp.sub a ha)).trans (hq.walk.mem_cn hq.sub a hb).symm)
    rcases h.split with h | ⟨h1, h2⟩ | ⟨h1, h2⟩
    · obtain ⟨p, hp⟩ := hT.exists_ h; exact ⟨p, hp.mono hs⟩
    · exact glue _ _ (.inl ⟨rfl, rfl⟩) h1 h2
    · exact glue _ _ (.inr ⟨rfl, rfl⟩) h1 h2

/-- What is taken has no way round, from labels of what was taken before. -/
theorem krus_forest {n : Nat} : ∀ (es T : List Ed), (∀ e ∈ es, (f e).1 < n ∧ (f e).2 < n) → (∀ e ∈ T, (f e).1 < n ∧ (f e).2 < n) → Forest f T →
    Forest f ((krus f (labsF f (List.range n) T.reverse) es).reverse ++ T)
  | [], T, _, _, h => h
  | e :: r, T, hr, hT, h => by
    have he := hr e (by simp)
    have hr' : ∀ e ∈ r, (f e).1 < n ∧ (f e).2 < n := fun e he => hr e (by simp [he])
    unfold krus
    split
    · exact krus_forest r T hr' hT h
    · rename_i hne
      have h1 := krus_forest r (e :: T) hr' (fun x hx => (List.mem_cons.1 hx).elim (fun h' => by rw [h']; exact he) (hT x)) ⟨h, fun hc => hne ?_⟩
      · rw [List.reverse_cons, labsF_snoc] at h1
        rw [List.reverse_cons, List.append_assoc]
        exact h1
      · rw [lab_iff_cn T.reverse (fun e he => hT e (List.mem_reverse.1 he)) _ _ he.1 he.2]
        exact hc.mono fun e he => List.mem_reverse.2 he
end
end Go.Proofs.YtghacfhpafbdmaaGreat
