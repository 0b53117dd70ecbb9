/-
  Plain words for layer 15's laws: rows behind a join and behind a cut; what rows bear. No walk.
-/
import Derived.Test.YtbbfnbnjaiimgaaRP32
namespace Go.Proofs.Ytbbfnbnjaiimgaa
open Go.RowKit
set_option linter.unusedVariables false

section

variable {V : Type} [Bear V] {M : RM V}

omit [Bear V] in
theorem rowOf_of (h : M.Ok) {xs : List Nat} {a : Nat} (hx : xs ∈ M.rows) (ha : a ∈ xs) : M.rowOf a = xs := (row_unique h hx ha).symm

omit [Bear V] in
theorem rowOf_none (h : M.Ok) {a : Nat} (ha : ¬ (1 ≤ a ∧ a ≤ M.own.length)) : M.rowOf a = [] := by
  unfold RM.rowOf
  rw [List.find?_eq_none.2 (fun xs hx => ?_)]
  · rfl
  · intro hd
    exact ha ((h.mem a).1 (List.mem_flatten.2 ⟨xs, hx, by simpa using hd⟩))

omit [Bear V] in
theorem rowOf_join (h : M.Ok) {a b c : Nat} (ha : 1 ≤ a ∧ a ≤ M.own.length) (hb : 1 ≤ b ∧ b ≤ M.own.length) (hne : M.rowOf a ≠ M.rowOf b) (hc : c ∈ M.rowOf a ++ M.rowOf b) : (M.join a b).rowOf c = M.rowOf a ++ M.rowOf b :=
  rowOf_of (ok_join h ha hb hne) (List.mem_append_right _ (List.mem_singleton_self _)) hc

omit [Bear V] in
theorem rowOf_join_far (h : M.Ok) {a b c : Nat} (ha : 1 ≤ a ∧ a ≤ M.own.length) (hb : 1 ≤ b ∧ b ≤ M.own.length) (hne : M.rowOf a ≠ M.rowOf b) (hc : 1 ≤ c ∧ c ≤ M.own.length) (h1 : M.rowOf c ≠ M.rowOf a) (h2 : M.rowOf c ≠ M.rowOf b) : (M.join a b).rowOf c = M.rowOf c :=
  rowOf_of (ok_join h ha hb hne) (List.mem_append_left _ ((join_rest h ha hb).2 ⟨(row_mem h hc).1, h1, h2⟩)) (row_mem h hc).2

omit [Bear V] in
/-- The row of a node, parted ahead of it. -/
theorem row_part (h : M.Ok) {a : Nat} (ha : 1 ≤ a ∧ a ≤ M.own.length) : M.rowOf a = (M.rowOf a).take ((M.rowOf a).idxOf a) ++ a :: (M.rowOf a).drop ((M.rowOf a).idxOf a + 1) := by
  have hlt := List.idxOf_lt_length_iff.2 (row_mem h ha).2
  have e : (M.rowOf a).drop ((M.rowOf a).idxOf a) = a :: (M.rowOf a).drop ((M.rowOf a).idxOf a + 1) := by
    rw [List.drop_eq_getElem_cons hlt, List.getElem_idxOf hlt]
  rw [← e, List.take_append_drop]

omit [Bear V] in
theorem cut_mem (h : M.Ok) {a : Nat} (ha : 1 ≤ a ∧ a ≤ M.own.length) {P Q : List Nat} (hr : M.rowOf a = P ++ a :: Q) {xs : List Nat} : xs ∈ (M.cut a).rows ↔ (xs ∈ M.rows ∧ xs ≠ M.rowOf a) ∨ (xs = a :: Q) ∨ (xs = P ∧ P ≠ []) := by
  have hya := row_mem h ha
  have hnd := row_nodup h hya.1
  unfold RM.cut
  simp only [List.mem_flatMap]
  constructor
  · rintro ⟨ys, hy, hxy⟩
    by_cases e : ys = M.rowOf a
    · rw [e, cutRow_at hr hnd] at hxy
      split at hxy
      · exact .inr (.inl (List.mem_singleton.1 hxy))
      · rename_i hP
        simp only [List.mem_cons, List.not_mem_nil, or_false] at hxy
        rcases hxy with rfl | rfl
        · exact .inr (.inr ⟨rfl, hP⟩)
        · exact .inr (.inl rfl)
    · have hna : a ∉ ys := fun hi => e (row_unique h hy hi)
      unfold cutRow at hxy
      rw [if_neg hna, List.mem_singleton] at hxy
      subst hxy
      exact .inl ⟨hy, e⟩
  · rintro (⟨hx, hne⟩ | rfl | ⟨rfl, hP⟩)
    · refine ⟨xs, hx, ?_⟩
      have hna : a ∉ xs := fun hi => hne (row_unique h hx hi)
      unfold cutRow
      rw [if_neg hna]
      exact List.mem_singleton_self _
    · refine ⟨_, hya.1, ?_⟩
      rw [cutRow_at hr hnd]
      split <;> simp
    · refine ⟨_, hya.1, ?_⟩
      rw [cutRow_at hr hnd, if_neg hP]
      simp

omit [Bear V] in
theorem rowOf_cut (h : M.Ok) {a : Nat} (ha : 1 ≤ a ∧ a ≤ M.own.length) {P Q : List Nat} (hr : M.rowOf a = P ++ a :: Q) {c : Nat} (hc : c ∈ a :: Q) : (M.cut a).rowOf c = a :: Q :=
  rowOf_of (ok_cut h a) ((cut_mem h ha hr).2 (.inr (.inl rfl))) hc

omit [Bear V] in
theorem rowOf_cut_ahead (h : M.Ok) {a : Nat} (ha : 1 ≤ a ∧ a ≤ M.own.length) {P Q : List Nat} (hr : M.rowOf a = P ++ a :: Q) {c : Nat} (hc : c ∈ P) : (M.cut a).rowOf c = P :=
  rowOf_of (ok_cut h a) ((cut_mem h ha hr).2 (.inr (.inr ⟨rfl, fun e => by rw [e] at hc; cases hc⟩))) hc

omit [Bear V] in
theorem rowOf_cut_far (h : M.Ok) {a : Nat} (ha : 1 ≤ a ∧ a ≤ M.own.length) {c : Nat} (hc : 1 ≤ c ∧ c ≤ M.own.length) (hne : M.rowOf c ≠ M.rowOf a) : (M.cut a).rowOf c = M.rowOf c :=
  rowOf_of (ok_cut h a) ((cut_mem h ha (row_part h ha)).2 (.inl ⟨(row_mem h hc).1, hne⟩)) (row_mem h hc).2

omit [Bear V] in
theorem cut_own (M : RM V) (a : Nat) : (M.cut a).own = M.own := rfl

omit [Bear V] in
theorem join_own (M : RM V) (a b : Nat) : (M.join a b).own = M.own := rfl

/-! ### Each node stands in one row -/

def RM.headLen (M : RM V) (a : Nat) : Nat := if (M.rowOf a).head? = some a then (M.rowOf a).length else 0

def RM.headSum (M : RM V) (k : Nat) : Nat := ((List.range' 1 k).map M.headLen).sum

omit [Bear V] in
theorem headSum_succ (M : RM V) (k : Nat) : M.headSum (k + 1) = M.headSum k + M.headLen (k + 1) := by
  unfold RM.headSum
  rw [List.range'_concat, List.map_append, List.sum_append]
  simp [Nat.add_comm]

omit [Bear V] in
theorem sum_zero : ∀ l : List Nat, (∀ x ∈ l, x = 0) → l.sum = 0
  | [], _ => rfl
  | x :: r, h => by rw [List.sum_cons, h x (by simp), sum_zero r (fun y hy => h y (by simp [hy]))]

omit [Bear V] in
theorem sum_heads (f : Nat → Nat) (xs : List Nat) (n : Nat) (hne : xs ≠ []) (hd : xs.Nodup) (hf : ∀ a ∈ xs, f a = if xs.head? = some a then n else 0) : (xs.map f).sum = n := by
  cases xs with
  | nil => exact absurd rfl hne
  | cons h t =>
    rw [List.map_cons, List.sum_cons, hf h (by simp)]
    have h0 : (t.map f).sum = 0 := by
      have : ∀ x ∈ t.map f, x = 0 := by
        intro x hx
        obtain ⟨c, hc, rfl⟩ := List.mem_map.1 hx
        rw [hf c (by simp [hc])]
        have hne : h ≠ c := fun e => (List.nodup_cons.1 hd).1 (e ▸ hc)
        simp [hne]
      exact sum_zero _ this
    rw [h0]
    simp

omit [Bear V] in
theorem sum_rows (f : Nat → Nat) : ∀ (L : List (List Nat)), (∀ xs ∈ L, (xs.map f).sum = xs.length) → (L.flatten.map f).sum = L.flatten.length
  | [], _ => rfl
  | x :: L, h => by
    rw [List.flatten_cons, List.map_append, List.sum_append, List.length_append, h x (by simp), sum_rows f L (fun xs hx => h xs (by simp [hx]))]

omit [Bear V] in
theorem perm_sum {l l' : List Nat} (h : l.Perm l') : l.sum = l'.sum := by
  induction h with
  | nil => rfl
  | cons x _ ih => rw [List.sum_cons, List.sum_cons, ih]
  | swap x y l => simp only [List.sum_cons]; omega
  | trans _ _ h1 h2 => exact h1.trans h2

omit [Bear V] in
theorem flat_perm (h : M.Ok) : M.rows.flatten.Perm (List.range' 1 M.own.length) :=
  (List.perm_ext_iff_of_nodup h.nd List.nodup_range').2 fun a => by rw [h.mem a, List.mem_range'_1]; omega

omit [Bear V] in
theorem headSum_all (h : M.Ok) : M.headSum M.own.length = M.own.length := by
  have hp := flat_perm h
  have h1 : (M.rows.flatten.map M.headLen).sum = M.rows.flatten.length := by
    refine sum_rows _ _ fun xs hx => ?_
    refine sum_heads _ xs _ (h.ne xs hx) (row_nodup h hx) fun a ha => ?_
    unfold RM.headLen
    rw [rowOf_of h hx ha]
  unfold RM.headSum
  rw [← perm_sum (hp.map M.headLen), h1, hp.length_eq, List.length_range']

omit [Bear V] in
theorem headLen_le (h : M.Ok) (a : Nat) : M.headLen a ≤ M.own.length := by
  unfold RM.headLen
  split
  · by_cases ha : 1 ≤ a ∧ a ≤ M.own.length
    · exact row_len h (row_mem h ha).1
    · rw [rowOf_none h ha]; simp
  · omega

omit [Bear V] in
theorem headSum_le (h : M.Ok) (k : Nat) : M.headSum k ≤ k * M.own.length := by
  induction k with
  | zero => simp [RM.headSum]
  | succ k ih =>
    rw [headSum_succ, Nat.succ_mul]
    have := headLen_le h (k + 1)
    omega

end

/-! ### What rows bear -/

def SV.zero : SV := ⟨0, 0⟩

theorem plus_zero {x : SV} (h1 : I64 x.n) (h2 : I64 x.m) : SV.plus ⟨0, 0⟩ x = x := by
  obtain ⟨n, m⟩ := x
  unfold SV.plus
  dsimp only at h1 h2 ⊢
  simp only [IntKind.wrap_i64]
  unfold I64 at h1 h2
  congr 1 <;> omega

theorem fold_bears (f : Nat → SV) : ∀ (xs : List Nat) (s : SV), xs ≠ [] → xs.foldl (fun s j => SV.plus s (f j)) s = SV.plus s (bears f xs)
  | [], _, h => absurd rfl h
  | [a], s, _ => rfl
  | a :: b :: r, s, _ => by
    rw [List.foldl_cons, fold_bears f (b :: r) _ (by simp), bears_cons f a (b :: r) (by simp)]
    exact Bear.assoc (V := SV) s (f a) (bears f (b :: r))

theorem fold_zero {f : Nat → SV} {xs : List Nat} (hne : xs ≠ []) (h : ∀ j ∈ xs, I64 (f j).n ∧ I64 (f j).m) : xs.foldl (fun s j => SV.plus s (f j)) ⟨0, 0⟩ = bears f xs := by
  cases xs with
  | nil => exact absurd rfl hne
  | cons a r =>
    rw [List.foldl_cons, plus_zero (h a (by simp)).1 (h a (by simp)).2]
    cases r with
    | nil => rfl
    | cons b r => rw [fold_bears f (b :: r) _ (by simp)]; rfl

theorem bears_wrap {f : Nat → SV} : ∀ {xs : List Nat}, xs ≠ [] → (∀ j ∈ xs, I64 (f j).n ∧ I64 (f j).m) → bears f xs = ⟨IntKind.i64.wrap ((xs.map fun j => (f j).n).sum), IntKind.i64.wrap ((xs.map fun j => (f j).m).sum)⟩
  | [], h, _ => absurd rfl h
  | [a], _, h => by
    have h1 := h a (by simp)
    show f a = _
    obtain ⟨n, m, hf⟩ : ∃ n m, f a = ⟨n, m⟩ := ⟨_, _, rfl⟩
    rw [hf] at h1 ⊢
    dsimp only at h1
    simp only [List.map_cons, List.map_nil, List.sum_cons, List.sum_nil, hf, IntKind.wrap_i64]
    unfold I64 at h1
    congr 1 <;> omega
  | a :: b :: r, _, h => by
    rw [bears_cons f a (b :: r) (by simp), bears_wrap (xs := b :: r) (by simp) (fun j hj => h j (by simp [hj]))]
    show SV.plus (f a) _ = _
    unfold SV.plus
    dsimp only
    rw [List.map_cons (l := b :: r), List.map_cons (l := b :: r), List.sum_cons (l := (b :: r).map _), List.sum_cons (l := (b :: r).map _)]
    simp only [IntKind.wrap_i64]
    congr 1 <;> omega

theorem sum_set {f f' : Nat → SV} {a : Nat} (p : SV → Int) : ∀ {xs : List Nat}, (∀ j ∈ xs, j ≠ a → f' j = f j) → xs.Nodup → a ∈ xs → (xs.map fun j => p (f' j)).sum = (xs.map fun j => p (f j)).sum - p (f a) + p (f' a)
  | [], _, _, h => nomatch h
  | x :: r, hf, hd, h => by
    have hd2 := List.nodup_cons.1 hd
    simp only [List.map_cons, List.sum_cons]
    by_cases e : x = a
    · subst e
      have hr : (r.map fun j => p (f' j)) = r.map fun j => p (f j) := List.map_congr_left fun j hj => by rw [hf j (by simp [hj]) (fun e => hd2.1 (e ▸ hj))]
      rw [hr]
      omega
    · have ha : a ∈ r := by
        rcases List.mem_cons.1 h with h | h
        · exact absurd h.symm e
        · exact h
      rw [sum_set p (fun j hj => hf j (by simp [hj])) hd2.2 ha, hf x (by simp) e]
      omega

end Go.Proofs.Ytbbfnbnjaiimgaa
