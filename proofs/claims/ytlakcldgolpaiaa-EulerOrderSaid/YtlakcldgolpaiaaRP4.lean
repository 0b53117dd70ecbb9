/-
  Plain words for layer 15: rows of nodes, and nodes that stand for them. No walk.
-/
import Derived.Test.YtlakcldgolpaiaaRP3
namespace Go.Proofs.Ytlakcldgolpaiaa
set_option linter.unusedVariables false

/-- The rows, and what each node bears: the n-th at place n - 1. -/
structure RM (V : Type) where
  rows : List (List Nat)
  own : List V

section

variable {V : Type} [Bear V]

def RM.n (M : RM V) : Nat := M.own.length

def RM.rowOf (M : RM V) (a : Nat) : List Nat := (M.rows.find? fun xs => decide (a ∈ xs)).getD []

def RM.val (M : RM V) (a : Nat) : V := (M.own[a - 1]?).getD Bear.void

def RM.new : RM V := ⟨[], []⟩

def RM.make (M : RM V) (v : V) : RM V := ⟨M.rows ++ [[M.own.length + 1]], M.own ++ [v]⟩

def RM.set (M : RM V) (a : Nat) (v : V) : RM V := ⟨M.rows, M.own.set (a - 1) v⟩

def RM.join (M : RM V) (a b : Nat) : RM V := ⟨M.rows.filter (fun xs => !decide (a ∈ xs) && !decide (b ∈ xs)) ++ [M.rowOf a ++ M.rowOf b], M.own⟩

def cutRow (a : Nat) (xs : List Nat) : List (List Nat) := if a ∈ xs then (if xs.idxOf a = 0 then [xs] else [xs.take (xs.idxOf a), xs.drop (xs.idxOf a)]) else [xs]

def RM.cut (M : RM V) (a : Nat) : RM V := ⟨M.rows.flatMap (cutRow a), M.own⟩

/-- Every node stands in one row, at one place. -/
structure RM.Ok (M : RM V) : Prop where
  nd : M.rows.flatten.Nodup
  mem : ∀ a, a ∈ M.rows.flatten ↔ 1 ≤ a ∧ a ≤ M.own.length
  ne : ∀ xs ∈ M.rows, xs ≠ []

omit [Bear V] in
theorem row_mem {M : RM V} (h : M.Ok) {a : Nat} (ha : 1 ≤ a ∧ a ≤ M.own.length) : M.rowOf a ∈ M.rows ∧ a ∈ M.rowOf a := by
  obtain ⟨xs, hx, hax⟩ := List.mem_flatten.1 ((h.mem a).2 ha)
  cases hf : M.rows.find? (fun xs => decide (a ∈ xs)) with
  | none =>
    have := List.find?_eq_none.1 hf xs hx
    simp [hax] at this
  | some ys =>
    have h1 := List.mem_of_find?_eq_some hf
    have h2 := List.find?_some hf
    unfold RM.rowOf
    rw [hf]
    exact ⟨h1, by simpa using h2⟩

omit [Bear V] in
theorem flat_unique : ∀ {L : List (List Nat)}, L.flatten.Nodup → ∀ {xs ys : List Nat} {a : Nat}, xs ∈ L → ys ∈ L → a ∈ xs → a ∈ ys → xs = ys
  | [], _, _, _, _, h, _, _, _ => by simp at h
  | z :: L, hd, xs, ys, a, hx, hy, h1, h2 => by
    rw [List.flatten_cons] at hd
    have hd2 := List.nodup_append.1 hd
    rcases List.mem_cons.1 hx with ex | hx'
    · rcases List.mem_cons.1 hy with ey | hy'
      · rw [ex, ey]
      · exact absurd rfl (hd2.2.2 a (ex ▸ h1) a (List.mem_flatten.2 ⟨ys, hy', h2⟩))
    · rcases List.mem_cons.1 hy with ey | hy'
      · exact absurd rfl (hd2.2.2 a (ey ▸ h2) a (List.mem_flatten.2 ⟨xs, hx', h1⟩))
      · exact flat_unique hd2.2.1 hx' hy' h1 h2

omit [Bear V] in
theorem row_unique {M : RM V} (h : M.Ok) {xs : List Nat} {a : Nat} (hx : xs ∈ M.rows) (ha : a ∈ xs) : xs = M.rowOf a := by
  have hk := (h.mem a).1 (List.mem_flatten.2 ⟨xs, hx, ha⟩)
  have := row_mem h hk
  exact flat_unique h.nd hx this.1 ha this.2

omit [Bear V] in
theorem row_nodup {M : RM V} (h : M.Ok) {xs : List Nat} (hx : xs ∈ M.rows) : xs.Nodup := (List.pairwise_flatten.1 h.nd).1 xs hx

omit [Bear V] in
theorem row_known {M : RM V} (h : M.Ok) {xs : List Nat} (hx : xs ∈ M.rows) {a : Nat} (ha : a ∈ xs) : 1 ≤ a ∧ a ≤ M.own.length := (h.mem a).1 (List.mem_flatten.2 ⟨xs, hx, ha⟩)

omit [Bear V] in
theorem row_apart {M : RM V} (h : M.Ok) {xs ys : List Nat} (hx : xs ∈ M.rows) (hy : ys ∈ M.rows) (hne : xs ≠ ys) : ∀ i ∈ xs, i ∉ ys := fun i hi hi2 => hne (flat_unique h.nd hx hy hi hi2)

omit [Bear V] in
theorem row_len {M : RM V} (h : M.Ok) {xs : List Nat} (hx : xs ∈ M.rows) : xs.length ≤ M.own.length := by
  have h1 := (row_nodup h hx).length_le_of_subset (fun a ha => by
    have := row_known h hx ha
    rw [List.mem_range'_1]; omega : xs ⊆ List.range' 1 M.own.length)
  simpa using h1

omit [Bear V] in
theorem same_row {M : RM V} (h : M.Ok) {a b : Nat} (ha : 1 ≤ a ∧ a ≤ M.own.length) (hb : 1 ≤ b ∧ b ≤ M.own.length) : M.rowOf a = M.rowOf b ↔ b ∈ M.rowOf a :=
  ⟨fun e => e ▸ (row_mem h hb).2, fun hm => row_unique h (row_mem h ha).1 hm⟩

/-! ### The nodes stand for the rows -/

def Stands (N : Nodes V) (xs : List Nat) : Prop := ∃ t, t.list = xs ∧ Laid N t ∧ (N t.root).up = 0

structure RopeOk (N : Nodes V) (M : RM V) : Prop where
  ok : M.Ok
  zero : (N 0).size = 0
  own : ∀ i (h : i < M.own.length), (N (i + 1)).own = M.own[i]
  tree : ∀ xs ∈ M.rows, Stands N xs

theorem RopeOk.val {N : Nodes V} {M : RM V} (h : RopeOk N M) {a : Nat} (ha : 1 ≤ a ∧ a ≤ M.own.length) : (N a).own = M.val a := by
  have h1 := h.own (a - 1) (by omega)
  rw [show a - 1 + 1 = a by omega] at h1
  rw [h1]
  unfold RM.val
  rw [List.getElem?_eq_getElem (by omega)]
  rfl

theorem RopeOk.bears {N : Nodes V} {M : RM V} (h : RopeOk N M) {xs : List Nat} (hx : ∀ a ∈ xs, 1 ≤ a ∧ a ≤ M.own.length) : bears (fun i => (N i).own) xs = bears M.val xs := bears_congr xs fun a ha => h.val (hx a ha)

theorem Stands.same {N N' : Nodes V} {xs : List Nat} (h : Stands N xs) (h1 : ∀ i ∈ xs, N' i = N i) (hd : xs.Nodup) (hne : xs ≠ []) : Stands N' xs := by
  obtain ⟨t, rfl, h2, h3⟩ := h
  refine ⟨t, rfl, h2.same h1 hd, ?_⟩
  rw [h1 _ (Tr.root_mem (fun e => hne (Tr.list_nil.2 e)))]
  exact h3

/-- The tree of a node, and what stands around it. -/
theorem RopeOk.at_ {N : Nodes V} {M : RM V} (h : RopeOk N M) {a : Nat} (ha : 1 ≤ a ∧ a ≤ M.own.length) :
    ∃ t l r fs, t.list = M.rowOf a ∧ Laid N t ∧ (N t.root).up = 0 ∧ t ≠ .nil ∧ Laid N (.node l a r) ∧ Zip N a fs ∧ (N a).up = nextP fs ∧ before l.list fs ++ a :: behind r.list fs = M.rowOf a ∧ topP a fs = t.root ∧ fs.length ≤ M.own.length ∧
      (l.list ++ a :: r.list ++ around fs).Nodup ∧ (∀ i ∈ l.list ++ a :: r.list ++ around fs, i ∈ M.rowOf a) := by
  obtain ⟨h1, h2⟩ := row_mem h.ok ha
  obtain ⟨t, ht, hl, hu⟩ := h.tree _ h1
  have hat : a ∈ t.list := by rw [ht]; exact h2
  obtain ⟨l, r, fs, k1, k2, k3, k4, k5, k6⟩ := zip_exists [] hl hat trivial hu
  have k4' : before l.list fs ++ a :: behind r.list fs = t.list := by simpa [before, behind] using k4
  have hlen := row_len h.ok h1
  rw [← ht] at hlen
  have hb : behind (a :: r.list) fs = a :: behind r.list fs := by rw [behind_app fs (a :: r.list), behind_app fs r.list]; rfl
  have hperm := around_perm fs l.list (a :: r.list)
  rw [hb, k4', ht] at hperm
  refine ⟨t, l, r, fs, ht, hl, hu, fun e => ?_, k1, k2, k3, by rw [k4', ht], k5, by simp at k6; omega, (List.Perm.nodup_iff hperm).1 (row_nodup h.ok h1), fun i hi => hperm.mem_iff.2 hi⟩
  subst e
  simp [Tr.list] at hat

/-! ### What becomes of them -/

omit [Bear V] in
theorem ok_make {M : RM V} (h : M.Ok) (v : V) : (M.make v).Ok := by
  refine ⟨?_, fun a => ?_, fun xs hx => ?_⟩
  · unfold RM.make
    rw [List.flatten_append]
    refine List.nodup_append.2 ⟨h.nd, by simp, fun a ha b hb => ?_⟩
    have := (h.mem a).1 ha
    simp at hb
    omega
  · unfold RM.make
    simp only [List.flatten_append, List.mem_append, h.mem, List.length_append, List.length_singleton]
    simp
    omega
  · rcases List.mem_append.1 hx with hx | hx
    · exact h.ne xs hx
    · rw [List.mem_singleton.1 hx]; simp

theorem rope_make {N : Nodes V} {M : RM V} (h : RopeOk N M) (v : V) (rk : Nat) : RopeOk (upd N (M.own.length + 1) ⟨v, v, 1, rk, 0, 0, 0⟩) (M.make v) := by
  have far : ∀ i, i ≤ M.own.length → upd N (M.own.length + 1) ⟨v, v, 1, rk, 0, 0, 0⟩ i = N i := fun i hi => upd_ne N _ (by omega)
  refine ⟨ok_make h.ok v, by rw [far 0 (by omega)]; exact h.zero, fun i hi => ?_, fun xs hx => ?_⟩
  · unfold RM.make at hi ⊢
    dsimp only at hi ⊢
    rw [List.length_append, List.length_singleton] at hi
    by_cases hlt : i < M.own.length
    · rw [far (i + 1) (by omega), h.own i hlt, List.getElem_append_left hlt]
    · obtain rfl : i = M.own.length := by omega
      rw [upd_self, List.getElem_append_right (Nat.le_refl _)]
      simp
  · rcases List.mem_append.1 hx with hx | hx
    · exact (h.tree xs hx).same (fun i hi => far i (row_known h.ok hx hi).2) (row_nodup h.ok hx) (h.ok.ne xs hx)
    · rw [List.mem_singleton.1 hx]
      refine ⟨.node .nil (M.own.length + 1) .nil, rfl, ?_, ?_⟩
      · refine ⟨by rw [upd_self]; rfl, by rw [upd_self]; rfl, fun e => absurd rfl e, fun e => absurd rfl e, trivial, trivial, by rw [upd_self]; rfl, ?_⟩
        show (upd N (M.own.length + 1) _ (M.own.length + 1)).sum = (upd N (M.own.length + 1) _ (M.own.length + 1)).own
        rw [upd_self]
      · show (upd N (M.own.length + 1) _ (M.own.length + 1)).up = 0
        rw [upd_self]

omit [Bear V] in
theorem ok_set {M : RM V} (h : M.Ok) (a : Nat) (v : V) : (M.set a v).Ok :=
  ⟨h.nd, fun b => by unfold RM.set; dsimp only; rw [List.length_set]; exact h.mem b, h.ne⟩

theorem rope_set {N N' : Nodes V} {M : RM V} (h : RopeOk N M) {a : Nat} (ha : 1 ≤ a ∧ a ≤ M.own.length) (v : V) (hs : Stands N' (M.rowOf a)) (ho : ∀ i, (N' i).own = if i = a then v else (N i).own) (hz : (N' 0).size = 0) (hf : ∀ i, i ∉ M.rowOf a → N' i = N i) : RopeOk N' (M.set a v) := by
  refine ⟨ok_set h.ok a v, hz, fun i hi => ?_, fun xs hx => ?_⟩
  · unfold RM.set at hi ⊢
    dsimp only at hi ⊢
    rw [List.length_set] at hi
    rw [ho (i + 1), List.getElem_set]
    by_cases e : i + 1 = a
    · rw [if_pos e, if_pos (by omega)]
    · rw [if_neg e, if_neg (by omega)]
      exact h.own i hi
  · have hx' : xs ∈ M.rows := hx
    by_cases e : xs = M.rowOf a
    · rw [e]; exact hs
    · exact (h.tree xs hx').same (fun i hi => hf i (row_apart h.ok hx' (row_mem h.ok ha).1 e i hi)) (row_nodup h.ok hx') (h.ok.ne xs hx')

omit [Bear V] in
theorem join_rest {M : RM V} (h : M.Ok) {a b : Nat} (ha : 1 ≤ a ∧ a ≤ M.own.length) (hb : 1 ≤ b ∧ b ≤ M.own.length) {xs : List Nat} : xs ∈ M.rows.filter (fun xs => !decide (a ∈ xs) && !decide (b ∈ xs)) ↔ xs ∈ M.rows ∧ xs ≠ M.rowOf a ∧ xs ≠ M.rowOf b := by
  rw [List.mem_filter]
  constructor
  · rintro ⟨h1, h2⟩
    simp at h2
    exact ⟨h1, fun e => h2.1 (e ▸ (row_mem h ha).2), fun e => h2.2 (e ▸ (row_mem h hb).2)⟩
  · rintro ⟨h1, h2, h3⟩
    refine ⟨h1, ?_⟩
    simp
    exact ⟨fun e => h2 (row_unique h h1 e), fun e => h3 (row_unique h h1 e)⟩

omit [Bear V] in
theorem filter_perm {α : Type} (p : α → Bool) : ∀ L : List α, (L.filter p ++ L.filter (fun x => !p x)).Perm L
  | [] => .refl _
  | x :: L => by
    by_cases h : p x = true
    · rw [List.filter_cons_of_pos h, List.filter_cons_of_neg (by simp [h])]
      exact (filter_perm p L).cons x
    · rw [List.filter_cons_of_neg h, List.filter_cons_of_pos (by simpa using h)]
      exact List.perm_middle.trans ((filter_perm p L).cons x)

omit [Bear V] in
theorem perm_flatten {L L' : List (List Nat)} (h : L.Perm L') : L.flatten.Perm L'.flatten := by
  induction h with
  | nil => exact .refl _
  | cons x _ ih => rw [List.flatten_cons, List.flatten_cons]; exact ih.append_left x
  | swap x y l =>
    simp only [List.flatten_cons, ← List.append_assoc]
    exact List.perm_append_comm.append_right _
  | trans _ _ h1 h2 => exact h1.trans h2

omit [Bear V] in
theorem nodup_rows {M : RM V} (h : M.Ok) : M.rows.Nodup := by
  have h1 := List.pairwise_flatten.1 h.nd
  refine List.Pairwise.imp_of_mem ?_ h1.2
  intro x y hx hy hd e
  subst e
  obtain ⟨c, hc⟩ := List.exists_mem_of_ne_nil x (h.ne x hx)
  exact hd c hc c hc rfl

omit [Bear V] in
theorem join_perm {M : RM V} (h : M.Ok) {a b : Nat} (ha : 1 ≤ a ∧ a ≤ M.own.length) (hb : 1 ≤ b ∧ b ≤ M.own.length) (hne : M.rowOf a ≠ M.rowOf b) : (M.join a b).rows.flatten.Perm M.rows.flatten := by
  have hrest : (M.rows.filter (fun xs => !(!decide (a ∈ xs) && !decide (b ∈ xs)))).Perm [M.rowOf a, M.rowOf b] := by
    refine List.Perm.symm ((List.perm_ext_iff_of_nodup (by simp [hne]) ((nodup_rows h).filter _)).2 fun xs => ?_)
    simp only [List.mem_cons, List.not_mem_nil, or_false, List.mem_filter]
    constructor
    · rintro (rfl | rfl)
      · exact ⟨(row_mem h ha).1, by simp [(row_mem h ha).2]⟩
      · exact ⟨(row_mem h hb).1, by simp [(row_mem h hb).2]⟩
    · rintro ⟨h1, h2⟩
      by_cases e : a ∈ xs
      · exact .inl (row_unique h h1 e)
      · simp [e] at h2
        exact .inr (row_unique h h1 h2)
  have h1 := filter_perm (fun xs : List Nat => !decide (a ∈ xs) && !decide (b ∈ xs)) M.rows
  have h2 := perm_flatten (((hrest.append_left _).symm.trans h1))
  refine List.Perm.trans ?_ h2
  unfold RM.join
  simp

omit [Bear V] in
theorem ok_join {M : RM V} (h : M.Ok) {a b : Nat} (ha : 1 ≤ a ∧ a ≤ M.own.length) (hb : 1 ≤ b ∧ b ≤ M.own.length) (hne : M.rowOf a ≠ M.rowOf b) : (M.join a b).Ok := by
  have hp := join_perm h ha hb hne
  refine ⟨(List.Perm.nodup_iff hp).2 h.nd, fun c => (hp.mem_iff).trans (h.mem c), fun xs hx => ?_⟩
  rcases List.mem_append.1 hx with hx | hx
  · exact h.ne xs (List.mem_filter.1 hx).1
  · rw [List.mem_singleton.1 hx]
    have := h.ne _ (row_mem h ha).1
    simp [this]

theorem rope_join {N N' : Nodes V} {M : RM V} (h : RopeOk N M) {a b : Nat} (ha : 1 ≤ a ∧ a ≤ M.own.length) (hb : 1 ≤ b ∧ b ≤ M.own.length) (hne : M.rowOf a ≠ M.rowOf b) (hs : Stands N' (M.rowOf a ++ M.rowOf b)) (ho : ∀ i, (N' i).own = (N i).own) (hf : ∀ i, i ∉ M.rowOf a ++ M.rowOf b → N' i = N i) : RopeOk N' (M.join a b) := by
  refine ⟨ok_join h.ok ha hb hne, ?_, fun i hi => (ho _).trans (h.own i hi), fun xs hx => ?_⟩
  · rw [hf 0]
    · exact h.zero
    · intro e
      rcases List.mem_append.1 e with e | e
      · have := row_known h.ok (row_mem h.ok ha).1 e; omega
      · have := row_known h.ok (row_mem h.ok hb).1 e; omega
  · rcases List.mem_append.1 hx with hx | hx
    · obtain ⟨h1, h2, h3⟩ := (join_rest h.ok ha hb).1 hx
      refine (h.tree xs h1).same (fun i hi => hf i fun e => ?_) (row_nodup h.ok h1) (h.ok.ne xs h1)
      rcases List.mem_append.1 e with e | e
      · exact row_apart h.ok h1 (row_mem h.ok ha).1 h2 i hi e
      · exact row_apart h.ok h1 (row_mem h.ok hb).1 h3 i hi e
    · rw [List.mem_singleton.1 hx]; exact hs

omit [Bear V] in
theorem cutRow_flat (a : Nat) (xs : List Nat) : (cutRow a xs).flatten = xs := by
  unfold cutRow
  split
  · split
    · simp
    · simp
  · simp

omit [Bear V] in
theorem cut_flat (M : RM V) (a : Nat) : (M.cut a).rows.flatten = M.rows.flatten := by
  unfold RM.cut
  dsimp only
  induction M.rows with
  | nil => rfl
  | cons x L ih => rw [List.flatMap_cons, List.flatten_append, List.flatten_cons, ih, cutRow_flat]

omit [Bear V] in
theorem ok_cut {M : RM V} (h : M.Ok) (a : Nat) : (M.cut a).Ok := by
  refine ⟨by rw [cut_flat]; exact h.nd, fun c => by rw [cut_flat]; exact h.mem c, fun xs hx => ?_⟩
  obtain ⟨ys, hy, hxy⟩ := List.mem_flatMap.1 hx
  have hne := h.ne ys hy
  unfold cutRow at hxy
  split at hxy
  · rename_i hm
    have hlt := List.idxOf_lt_length_iff.2 hm
    split at hxy
    · rw [List.mem_singleton.1 hxy]; exact hne
    · rename_i hk
      simp only [List.mem_cons, List.not_mem_nil, or_false] at hxy
      rcases hxy with rfl | rfl
      · intro e; have := congrArg List.length e; rw [List.length_take, List.length_nil] at this; omega
      · intro e; have := congrArg List.length e; rw [List.length_drop, List.length_nil] at this; omega
  · rw [List.mem_singleton.1 hxy]; exact hne

/-- A row, parted ahead of one of its nodes. -/
theorem cutRow_at {xs P Q : List Nat} {a : Nat} (h : xs = P ++ a :: Q) (hd : xs.Nodup) : cutRow a xs = if P = [] then [a :: Q] else [P, a :: Q] := by
  have hn : a ∉ P := fun hi => (List.nodup_append.1 (h ▸ hd)).2.2 a hi a (by simp) rfl
  have hk : xs.idxOf a = P.length := by
    rw [h, List.idxOf_append, if_neg hn]
    simp
  unfold cutRow
  rw [if_pos (by rw [h]; simp), hk]
  by_cases hP : P = []
  · subst hP; rw [if_pos (show ([] : List Nat).length = 0 from rfl), if_pos rfl, h]; rfl
  · rw [if_neg (by simpa using hP), if_neg hP, h]
    simp

theorem rope_cut {N N' : Nodes V} {M : RM V} (h : RopeOk N M) {a : Nat} (ha : 1 ≤ a ∧ a ≤ M.own.length) {P Q : List Nat} (hr : M.rowOf a = P ++ a :: Q) (hs1 : P ≠ [] → Stands N' P) (hs2 : Stands N' (a :: Q)) (ho : ∀ i, (N' i).own = (N i).own) (hz : (N' 0).size = 0) (hf : ∀ i, 0 < i → i ∉ M.rowOf a → N' i = N i) : RopeOk N' (M.cut a) := by
  refine ⟨ok_cut h.ok a, hz, fun i hi => (ho _).trans (h.own i hi), fun xs hx => ?_⟩
  obtain ⟨ys, hy, hxy⟩ := List.mem_flatMap.1 hx
  have hya := row_mem h.ok ha
  by_cases e : ys = M.rowOf a
  · rw [e, cutRow_at hr (row_nodup h.ok hya.1)] at hxy
    split at hxy
    · rw [List.mem_singleton.1 hxy]; exact hs2
    · rename_i hP
      simp only [List.mem_cons, List.not_mem_nil, or_false] at hxy
      rcases hxy with rfl | rfl
      · exact hs1 hP
      · exact hs2
  · have hna : a ∉ ys := fun hi => e (row_unique h.ok hy hi)
    unfold cutRow at hxy
    rw [if_neg hna, List.mem_singleton] at hxy
    subst hxy
    exact (h.tree _ hy).same (fun i hi => hf i (row_known h.ok hy hi).1 (row_apart h.ok hy hya.1 e i hi)) (row_nodup h.ok hy) (h.ok.ne _ hy)

theorem rope_new {N : Nodes V} (h0 : (N 0).size = 0) : RopeOk N (RM.new : RM V) := by
  refine ⟨⟨by simp [RM.new], fun a => by simp [RM.new]; omega, fun xs hx => by simp [RM.new] at hx⟩, h0, fun i hi => by simp [RM.new] at hi, fun xs hx => by simp [RM.new] at hx⟩

end

end Go.Proofs.Ytlakcldgolpaiaa
