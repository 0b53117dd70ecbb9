/-
  Plain words for layer 15: one tree out of two, two out of one; a node that bears something else. No walk.
-/
import Derived.Test.YtlakcldgolpaiaaRP2
namespace Go.Proofs.Ytlakcldgolpaiaa
set_option linter.unusedVariables false

section

variable {V : Type} [Bear V]

theorem hangN_far {N : Nodes V} {l r : Tr} {a i : Nat} (hp : 0 < a) (hi : i ∉ l.list ++ a :: r.list) : hangN N a l.root r.root i = N i := by
  by_cases h0 : i = 0
  · subst h0; exact hangN_zero hp
  · refine hangN_ne N (fun e => hi (by simp [e])) (fun e => ?_) (fun e => ?_)
    · by_cases hn : l = .nil
      · subst hn; exact h0 e
      · exact hi (by rw [e]; simp [Tr.root_mem hn])
    · by_cases hn : r = .nil
      · subst hn; exact h0 e
      · exact hi (by rw [e]; simp [Tr.root_mem hn])

theorem root_ne {t : Tr} {a : Nat} (hp : 0 < a) (h : a ∉ t.list) : a ≠ t.root := by
  by_cases hn : t = .nil
  · subst hn; simp [Tr.root]; omega
  · exact fun e => h (e ▸ Tr.root_mem hn)

/-! ### One of two -/

structure MergeOut (N : Nodes V) (ta tb : Tr) (N' : Nodes V) (t : Tr) : Prop where
  list : t.list = ta.list ++ tb.list
  laid : Laid N' t
  own : ∀ i, (N' i).own = (N i).own
  far : ∀ i, i ∉ ta.list ++ tb.list → N' i = N i
  up : (N' t.root).up = (N t.root).up
  root : t.root = ta.root ∨ t.root = tb.root

theorem merge_nil_left {N : Nodes V} {tb : Tr} (h : Laid N tb) : MergeOut N .nil tb N tb := ⟨rfl, h, fun _ => rfl, fun _ _ => rfl, rfl, .inr rfl⟩

theorem merge_nil_right {N : Nodes V} {ta : Tr} (h : Laid N ta) : MergeOut N ta .nil N ta := ⟨by simp [Tr.list], h, fun _ => rfl, fun _ _ => rfl, rfl, .inl rfl⟩

theorem merge_left {N N1 : Nodes V} {l r tb t1 : Tr} {a : Nat} (h : Laid N (.node l a r)) (hm : MergeOut N r tb N1 t1) (hd : ((Tr.node l a r).list ++ tb.list).Nodup) (hp : ∀ i ∈ (Tr.node l a r).list ++ tb.list, 0 < i) (h0 : (N 0).size = 0) :
    MergeOut N (.node l a r) tb (hangN N1 a l.root t1.root) (.node l a t1) := by
  have e : (Tr.node l a t1).list = (Tr.node l a r).list ++ tb.list := by simp [Tr.list, hm.list]
  have hd' : (l.list ++ a :: t1.list).Nodup := by rw [show l.list ++ a :: t1.list = (Tr.node l a t1).list from rfl, e]; exact hd
  have hp' : ∀ i ∈ l.list ++ a :: t1.list, 0 < i := by rw [show l.list ++ a :: t1.list = (Tr.node l a t1).list from rfl, e]; exact hp
  have hd2 := List.nodup_append.1 hd'
  have hfar : ∀ i ∈ l.list ++ [a], N1 i = N i := by
    intro i hi
    refine hm.far i fun hi2 => ?_
    rw [← hm.list] at hi2
    rcases List.mem_append.1 hi with hi | hi
    · exact hd2.2.2 i hi i (by simp [hi2]) rfl
    · rw [List.mem_singleton.1 hi] at hi2
      exact (List.nodup_cons.1 hd2.2.1).1 hi2
  have hz : N1 0 = N 0 := hm.far 0 fun hi => by
    have := hp 0 (by simp [Tr.list] at hi ⊢; rcases hi with hi | hi <;> simp [hi])
    omega
  obtain ⟨g1, g2, g3, g4, g5, g6, g7, g8⟩ := h
  have hl : Laid N1 l := g5.same (fun i hi => hfar i (by simp [hi])) hd2.1
  have ha0 : 0 < a := hp' a (by simp)
  have hal : a ∉ l.list := fun hi => hd2.2.2 a hi a (by simp) rfl
  have hat : a ∉ t1.list := (List.nodup_cons.1 hd2.2.1).1
  refine ⟨e, laid_hang hl hm.laid hd' hp' (by rw [hz]; exact h0), fun i => (hangN_own _ _ _ _ i).1.trans (hm.own i), fun i hi => ?_, ?_, .inl rfl⟩
  · rw [← e] at hi
    rw [hangN_far ha0 hi]
    exact hm.far i fun hi2 => hi (by simp [Tr.list, hm.list] at hi2 ⊢; rcases hi2 with h | h <;> simp [h])
  · show (hangN N1 a l.root t1.root a).up = (N a).up
    rw [hangN_up _ (root_ne ha0 hal) (root_ne ha0 hat), hfar a (by simp)]

theorem merge_right {N N1 : Nodes V} {l r ta t1 : Tr} {b : Nat} (h : Laid N (.node l b r)) (hm : MergeOut N ta l N1 t1) (hd : (ta.list ++ (Tr.node l b r).list).Nodup) (hp : ∀ i ∈ ta.list ++ (Tr.node l b r).list, 0 < i) (h0 : (N 0).size = 0) :
    MergeOut N ta (.node l b r) (hangN N1 b t1.root r.root) (.node t1 b r) := by
  have e : (Tr.node t1 b r).list = ta.list ++ (Tr.node l b r).list := by simp [Tr.list, hm.list]
  have hd' : (t1.list ++ b :: r.list).Nodup := by rw [show t1.list ++ b :: r.list = (Tr.node t1 b r).list from rfl, e]; exact hd
  have hp' : ∀ i ∈ t1.list ++ b :: r.list, 0 < i := by rw [show t1.list ++ b :: r.list = (Tr.node t1 b r).list from rfl, e]; exact hp
  have hd2 := List.nodup_append.1 hd'
  have hfar : ∀ i ∈ b :: r.list, N1 i = N i := by
    intro i hi
    refine hm.far i fun hi2 => ?_
    rw [← hm.list] at hi2
    exact hd2.2.2 i hi2 i hi rfl
  have hz : N1 0 = N 0 := hm.far 0 fun hi => by
    have := hp 0 (by simp [Tr.list] at hi ⊢; rcases hi with hi | hi <;> simp [hi])
    omega
  obtain ⟨g1, g2, g3, g4, g5, g6, g7, g8⟩ := h
  have hr : Laid N1 r := g6.same (fun i hi => hfar i (by simp [hi])) (List.nodup_cons.1 hd2.2.1).2
  have hb0 : 0 < b := hp' b (by simp)
  have hbr : b ∉ r.list := (List.nodup_cons.1 hd2.2.1).1
  have hbt : b ∉ t1.list := fun hi => hd2.2.2 b hi b (by simp) rfl
  refine ⟨e, laid_hang hm.laid hr hd' hp' (by rw [hz]; exact h0), fun i => (hangN_own _ _ _ _ i).1.trans (hm.own i), fun i hi => ?_, ?_, .inr rfl⟩
  · rw [← e] at hi
    rw [hangN_far hb0 hi]
    exact hm.far i fun hi2 => hi (by simp [Tr.list, hm.list] at hi2 ⊢; rcases hi2 with h | h <;> simp [h])
  · show (hangN N1 b t1.root r.root b).up = (N b).up
    rw [hangN_up _ (root_ne hb0 hbt) (root_ne hb0 hbr), hfar b (by simp)]

/-! ### Two of one -/

structure SplitSt (N N' : Nodes V) (c : Nat) (fs : List Up) (ta tr : Tr) : Prop where
  la : Laid N' ta
  lr : Laid N' tr
  ne : tr ≠ .nil
  zip : Zip N' c fs
  c : c ∈ ta.list ++ tr.list
  own : ∀ i, (N' i).own = (N i).own
  nd : (ta.list ++ tr.list ++ around fs).Nodup
  pos : ∀ i ∈ ta.list ++ tr.list ++ around fs, 0 < i
  zero : N' 0 = N 0
  far : ∀ i, i ∉ ta.list ++ tr.list → N' i = N i

theorem split_start {N : Nodes V} {l r : Tr} {a : Nat} {fs : List Up} (h : Laid N (.node l a r)) (hz : Zip N a fs) (hd : (l.list ++ (a :: r.list) ++ around fs).Nodup) (hp : ∀ i ∈ l.list ++ (a :: r.list) ++ around fs, 0 < i) (h0 : (N 0).size = 0) :
    SplitSt N (hangN N a 0 r.root) a fs l (.node .nil a r) := by
  have hd1 := List.nodup_append.1 hd
  have hd2 := List.nodup_append.1 hd1.1
  have ha0 : 0 < a := hp a (by simp)
  obtain ⟨g1, g2, g3, g4, g5, g6, g7, g8⟩ := h
  have far : ∀ i, i ∉ a :: r.list → hangN N a 0 r.root i = N i := fun i hi => hangN_far (l := .nil) (r := r) ha0 (by simpa [Tr.list] using hi)
  have hl : Laid (hangN N a 0 r.root) l := g5.same (fun i hi => far i fun hi2 => hd2.2.2 i hi i hi2 rfl) hd2.1
  have hr : Laid (hangN N a 0 r.root) (.node .nil a r) := laid_hang (l := .nil) trivial g6 (by simpa [Tr.list] using hd2.2.1) (fun i hi => hp i (by simp [Tr.list] at hi ⊢; rcases hi with hi | hi <;> simp [hi])) h0
  refine ⟨hl, hr, by simp, ?_, by simp [Tr.list], fun i => (hangN_own _ _ _ _ i).1, by simpa [Tr.list] using hd, by simpa [Tr.list] using hp, hangN_zero ha0, fun i hi => far i fun hi2 => hi (by simp [Tr.list] at hi2 ⊢; rcases hi2 with h | h <;> simp [h])⟩
  exact hz.agree (fun i hi => far i fun hi2 => hd1.2.2 i (by simp at hi2 ⊢; rcases hi2 with h | h <;> simp [h]) i hi rfl) hd1.2.1

theorem split_right {N N' : Nodes V} {c p : Nat} {s ta tr : Tr} {fs : List Up} (h : SplitSt N N' c (⟨true, p, s⟩ :: fs) ta tr) (h0 : (N 0).size = 0) :
    SplitSt N (hangN N' p s.root ta.root) p fs (.node s p ta) tr := by
  have hd := h.nd
  have hp := h.pos
  rw [show around (⟨true, p, s⟩ :: fs) = p :: (s.list ++ around fs) from rfl] at hd hp
  obtain ⟨g1, g2, g3, g4, g5⟩ := h.zip
  have hd' : (s.list ++ p :: ta.list ++ tr.list ++ around fs).Nodup := by
    refine (List.Perm.nodup_iff ?_).1 hd
    rw [List.perm_iff_count]
    intro x
    simp only [List.count_append, List.count_cons]
    omega
  have hm : ∀ i, i ∈ s.list ++ p :: ta.list ++ tr.list ++ around fs ↔ i ∈ ta.list ++ tr.list ++ p :: (s.list ++ around fs) := by
    intro i; simp only [List.mem_append, List.mem_cons]
    constructor
    · rintro (((h | h | h) | h) | h) <;> simp [h]
    · rintro ((h | h) | h | h | h) <;> simp [h]
  have hp' : ∀ i ∈ s.list ++ p :: ta.list ++ tr.list ++ around fs, 0 < i := fun i hi => hp i ((hm i).1 hi)
  have hd1 := List.nodup_append.1 hd'
  have hd2 := List.nodup_append.1 hd1.1
  have hp0 : 0 < p := hp' p (by simp)
  have far : ∀ i, i ∉ s.list ++ p :: ta.list → hangN N' p s.root ta.root i = N' i := fun i hi => hangN_far hp0 hi
  have e0 : (N' 0).size = 0 := by rw [h.zero]; exact h0
  refine ⟨laid_hang g2 h.la hd2.1 (fun i hi => hp' i (by simp only [List.mem_append] at hi ⊢; exact .inl (.inl hi))) e0, h.lr.same (fun i hi => far i fun hi2 => hd2.2.2 i hi2 i hi rfl) hd2.2.1, h.ne, ?_, by simp [Tr.list], fun i => (hangN_own _ _ _ _ i).1.trans (h.own i), hd', hp', (hangN_zero hp0).trans h.zero, fun i hi => ?_⟩
  · exact g5.agree (fun i hi => far i fun hi2 => hd1.2.2 i (List.mem_append_left _ hi2) i hi rfl) hd1.2.1
  · have hi1 : i ∉ s.list ++ p :: ta.list := fun e => hi (List.mem_append_left _ e)
    rw [far i hi1]
    exact h.far i fun e => by
      rcases List.mem_append.1 e with e | e
      · exact hi1 (by simp [e])
      · exact hi (List.mem_append_right _ e)

theorem split_left {N N' : Nodes V} {c p : Nat} {s ta tr : Tr} {fs : List Up} (h : SplitSt N N' c (⟨false, p, s⟩ :: fs) ta tr) (h0 : (N 0).size = 0) :
    SplitSt N (hangN N' p tr.root s.root) p fs ta (.node tr p s) := by
  have hd := h.nd
  have hp := h.pos
  rw [show around (⟨false, p, s⟩ :: fs) = p :: (s.list ++ around fs) from rfl] at hd hp
  obtain ⟨g1, g2, g3, g4, g5⟩ := h.zip
  have hd' : (ta.list ++ (tr.list ++ p :: s.list) ++ around fs).Nodup := by
    refine (List.Perm.nodup_iff ?_).1 hd
    rw [List.perm_iff_count]
    intro x
    simp only [List.count_append, List.count_cons]
    omega
  have hm : ∀ i, i ∈ ta.list ++ (tr.list ++ p :: s.list) ++ around fs ↔ i ∈ ta.list ++ tr.list ++ p :: (s.list ++ around fs) := by
    intro i; simp only [List.mem_append, List.mem_cons]
    constructor
    · rintro ((h | h | h | h) | h) <;> simp [h]
    · rintro ((h | h) | h | h | h) <;> simp [h]
  have hp' : ∀ i ∈ ta.list ++ (tr.list ++ p :: s.list) ++ around fs, 0 < i := fun i hi => hp i ((hm i).1 hi)
  have hd1 := List.nodup_append.1 hd'
  have hd2 := List.nodup_append.1 hd1.1
  have hp0 : 0 < p := hp' p (by simp)
  have far : ∀ i, i ∉ tr.list ++ p :: s.list → hangN N' p tr.root s.root i = N' i := fun i hi => hangN_far hp0 hi
  have e0 : (N' 0).size = 0 := by rw [h.zero]; exact h0
  refine ⟨h.la.same (fun i hi => far i fun hi2 => hd2.2.2 i hi i hi2 rfl) hd2.1, laid_hang h.lr g2 hd2.2.1 (fun i hi => hp' i (by simp only [List.mem_append] at hi ⊢; exact .inl (.inr hi))) e0, by simp, ?_, by simp [Tr.list], fun i => (hangN_own _ _ _ _ i).1.trans (h.own i), hd', hp', (hangN_zero hp0).trans h.zero, fun i hi => ?_⟩
  · exact g5.agree (fun i hi => far i fun hi2 => hd1.2.2 i (List.mem_append_right _ hi2) i hi rfl) hd1.2.1
  · have hi1 : i ∉ tr.list ++ p :: s.list := fun e => hi (List.mem_append_right _ e)
    rw [far i hi1]
    exact h.far i fun e => by
      rcases List.mem_append.1 e with e | e
      · exact hi (List.mem_append_left _ e)
      · exact hi1 (by simp [e])

/-- The ups of two roots become none. -/
def freeUp (N : Nodes V) (x : Nat) : Nodes V := upd N x { N x with up := 0 }

omit [Bear V] in
theorem freeUp_same (N : Nodes V) (x i : Nat) : SameB N (freeUp N x) i := by
  unfold freeUp
  by_cases h : i = x
  · subst h; unfold SameB; simp [upd_self]
  · exact SameB.of_eq (upd_ne N _ h)

omit [Bear V] in
theorem freeUp_up (N : Nodes V) (x i : Nat) : (freeUp N x i).up = if i = x then 0 else (N i).up := by
  unfold freeUp upd
  split <;> rfl

theorem split_end {N N' : Nodes V} {c : Nat} {ta tr : Tr} (h : SplitSt N N' c [] ta tr) :
    Laid (freeUp (freeUp N' ta.root) tr.root) ta ∧ Laid (freeUp (freeUp N' ta.root) tr.root) tr ∧ (freeUp (freeUp N' ta.root) tr.root ta.root).up = 0 ∧ (freeUp (freeUp N' ta.root) tr.root tr.root).up = 0 ∧
      (∀ i, (freeUp (freeUp N' ta.root) tr.root i).own = (N i).own) ∧ (freeUp (freeUp N' ta.root) tr.root 0).size = (N 0).size ∧ ∀ i, 0 < i → i ∉ ta.list ++ tr.list → freeUp (freeUp N' ta.root) tr.root i = N i := by
  have hd := List.nodup_append.1 (by have := h.nd; simpa [around] using this : (ta.list ++ tr.list).Nodup)
  have hp : ∀ i ∈ ta.list ++ tr.list, 0 < i := by have := h.pos; simpa [around] using this
  have sb : ∀ i, SameB N' (freeUp (freeUp N' ta.root) tr.root) i := by
    intro i
    have h1 := freeUp_same (freeUp N' ta.root) tr.root i
    have h2 := freeUp_same N' ta.root i
    unfold SameB at *
    refine ⟨h1.1.trans h2.1, h1.2.1.trans h2.2.1, h1.2.2.1.trans h2.2.2.1, h1.2.2.2.1.trans h2.2.2.2.1, h1.2.2.2.2.1.trans h2.2.2.2.2.1, h1.2.2.2.2.2.trans h2.2.2.2.2.2⟩
  have su : ∀ i, i ≠ ta.root → i ≠ tr.root → (freeUp (freeUp N' ta.root) tr.root i).up = (N' i).up := by
    intro i h1 h2
    rw [freeUp_up, if_neg h2, freeUp_up, if_neg h1]
  refine ⟨h.la.agree (fun i _ => sb i) (fun i hi hr => su i hr ?_) hd.1, h.lr.agree (fun i _ => sb i) (fun i hi hr => su i ?_ hr) hd.2.1, ?_, ?_, fun i => (sb i).1.trans (h.own i), (sb 0).2.2.1.trans (by rw [h.zero]), fun i hi0 hi => ?_⟩
  · exact hd.2.2 i hi _ (Tr.root_mem h.ne)
  · by_cases hn : ta = .nil
    · subst hn; have := hp i (by simp [hi]); simp [Tr.root]; omega
    · exact fun e => hd.2.2 _ (Tr.root_mem hn) i hi e.symm
  · rw [freeUp_up]
    split
    · rfl
    · rw [freeUp_up, if_pos rfl]
  · rw [freeUp_up, if_pos rfl]
  · have h1 : i ≠ ta.root := by
      by_cases hn : ta = .nil
      · subst hn; simp [Tr.root]; omega
      · exact fun e => hi (by rw [e]; simp [Tr.root_mem hn])
    have h2 : i ≠ tr.root := fun e => hi (by rw [e]; simp [Tr.root_mem h.ne])
    unfold freeUp
    rw [upd_ne _ _ h2, upd_ne _ _ h1]
    exact h.far i hi

/-! ### A node that bears something else -/

structure SetSt (N N' : Nodes V) (own' : Nat → V) (c : Nat) (fs : List Up) (l r : Tr) : Prop where
  half : Half (Laid N') N' l c r
  zip : Zip N' c fs
  up : (N' c).up = nextP fs
  own : ∀ i, (N' i).own = own' i
  nd : (l.list ++ c :: r.list ++ around fs).Nodup
  pos : ∀ i ∈ l.list ++ c :: r.list ++ around fs, 0 < i
  zero : N' 0 = N 0
  far : ∀ i, i ∉ l.list ++ c :: r.list → N' i = N i

theorem set_start {N : Nodes V} {l r : Tr} {a : Nat} {fs : List Up} {v : V} (h : Laid N (.node l a r)) (hz : Zip N a fs) (hu : (N a).up = nextP fs) (hd : (l.list ++ a :: r.list ++ around fs).Nodup) (hp : ∀ i ∈ l.list ++ a :: r.list ++ around fs, 0 < i) :
    SetSt N (upd N a { N a with own := v }) (fun i => if i = a then v else (N i).own) a fs l r := by
  have hd1 := List.nodup_append.1 hd
  have hd2 := List.nodup_append.1 hd1.1
  have ha0 : 0 < a := hp a (by simp)
  have hnl : ∀ i ∈ l.list, i ≠ a := fun i hi => hd2.2.2 i hi a (by simp)
  have hnr : ∀ i ∈ r.list, i ≠ a := fun i hi e => (List.nodup_cons.1 hd2.2.1).1 (e ▸ hi)
  obtain ⟨g1, g2, g3, g4, g5, g6, g7, g8⟩ := h
  refine ⟨⟨by rw [upd_self]; exact g1, by rw [upd_self]; exact g2, fun hn => ?_, fun hn => ?_, g5.same (fun i hi => upd_ne N _ (hnl i hi)) hd2.1, g6.same (fun i hi => upd_ne N _ (hnr i hi)) (List.nodup_cons.1 hd2.2.1).2⟩, ?_, by rw [upd_self]; exact hu, fun i => ?_, hd, hp, upd_ne N _ (by omega), fun i hi => upd_ne N _ fun e => hi (by simp [e])⟩
  · rw [upd_ne N _ (hnl _ (Tr.root_mem hn))]; exact g3 hn
  · rw [upd_ne N _ (hnr _ (Tr.root_mem hn))]; exact g4 hn
  · exact hz.agree (fun i hi => upd_ne N _ fun e => hd1.2.2 a (by simp) i hi e.symm) hd1.2.1
  · unfold upd; split <;> simp_all

theorem set_laid {N N' : Nodes V} {own' : Nat → V} {c : Nat} {fs : List Up} {l r : Tr} (h : SetSt N N' own' c fs l r) (h0 : (N 0).size = 0) : Laid (retell N' c) (.node l c r) :=
  half_retell h.half (List.nodup_append.1 h.nd).1 (fun i hi => h.pos i (List.mem_append_left _ hi)) (by rw [h.zero]; exact h0)

theorem set_up {N N' : Nodes V} {own' : Nat → V} {c : Nat} {f : Up} {fs : List Up} {l r : Tr} (h : SetSt N N' own' c (f :: fs) l r) (h0 : (N 0).size = 0) :
    SetSt N (retell N' c) own' f.p fs (if f.right = true then f.s else .node l c r) (if f.right = true then .node l c r else f.s) := by
  have hl := set_laid h h0
  obtain ⟨d, p, s⟩ := f
  have hd := h.nd
  have hp := h.pos
  rw [show around (⟨d, p, s⟩ :: fs) = p :: (s.list ++ around fs) from rfl] at hd hp
  have hd1 := List.nodup_append.1 hd
  have hd3 := List.nodup_cons.1 hd1.2.1
  have hd4 := List.nodup_append.1 hd3.2
  have hc : ∀ i ∈ p :: (s.list ++ around fs), i ≠ c := fun i hi e => hd1.2.2 c (by simp) i hi e.symm
  have hu := h.up
  obtain ⟨g1, g2, g3, g4, g5⟩ := h.zip
  have ro := retell_own N' c
  have hsl : Laid (retell N' c) s := g2.same (fun i hi => retell_ne N' (hc i (by simp [hi]))) hd4.1
  have hcn : (Tr.node l c r) ≠ .nil := by simp
  have e0 : retell N' c 0 = N 0 := by rw [retell_ne N' (by have := hp c (by simp); omega)]; exact h.zero
  have hz : Zip (retell N' c) p fs := g5.agree (fun i hi => retell_ne N' (hc i (by simp [hi]))) hd4.2.1
  have hpe : retell N' c p = N' p := retell_ne N' (hc p (by simp))
  have hse : s ≠ .nil → (retell N' c s.root).up = p := fun hn => by rw [(ro _).2.2.1]; exact g3 hn
  cases d with
  | true =>
    simp only [if_true] at g1 ⊢
    refine ⟨⟨by rw [hpe]; exact g1.2, by rw [hpe]; exact g1.1, hse, fun _ => ?_, hsl, hl⟩, hz, by rw [hpe]; exact g4, fun i => (ro i).1.trans (h.own i), ?_, ?_, e0, fun i hi => ?_⟩
    · show (retell N' c c).up = p
      rw [(ro c).2.2.1]; exact hu
    · refine (List.Perm.nodup_iff ?_).1 hd
      rw [List.perm_iff_count]
      intro x
      simp only [Tr.list, List.count_append, List.count_cons]
      omega
    · intro i hi
      refine hp i ?_
      simp only [Tr.list, List.mem_append, List.mem_cons] at hi ⊢
      rcases hi with (hi | hi | hi | hi | hi) | hi <;> simp [hi]
    · have : i ∉ l.list ++ c :: r.list := fun e => hi (by simp only [Tr.list, List.mem_append, List.mem_cons] at e ⊢; rcases e with e | e | e <;> simp [e])
      rw [retell_ne N' (fun e => this (by simp [e]))]
      exact h.far i this
  | false =>
    simp only [Bool.false_eq_true, if_false] at g1 ⊢
    refine ⟨⟨by rw [hpe]; exact g1.1, by rw [hpe]; exact g1.2, fun _ => ?_, hse, hl, hsl⟩, hz, by rw [hpe]; exact g4, fun i => (ro i).1.trans (h.own i), ?_, ?_, e0, fun i hi => ?_⟩
    · show (retell N' c c).up = p
      rw [(ro c).2.2.1]; exact hu
    · refine (List.Perm.nodup_iff ?_).1 hd
      rw [List.perm_iff_count]
      intro x
      simp only [Tr.list, List.count_append, List.count_cons]
      omega
    · intro i hi
      refine hp i ?_
      simp only [Tr.list, List.mem_append, List.mem_cons] at hi ⊢
      rcases hi with ((hi | hi | hi) | hi | hi) | hi <;> simp [hi]
    · have : i ∉ l.list ++ c :: r.list := fun e => hi (by simp only [Tr.list, List.mem_append, List.mem_cons] at e ⊢; rcases e with e | e | e <;> simp [e])
      rw [retell_ne N' (fun e => this (by simp [e]))]
      exact h.far i this

end

end Go.Proofs.Ytlakcldgolpaiaa
