/-
  Sums, orders and equalities of floats as the program's operations have them.
-/
import Derived.Laws.FloatArith
import Derived.Test.YtlhkajlkapoabaaZLM1
namespace Go.Proofs.Ytlhkajlkapoabaa
open Go.RowKit Go.Maps
set_option linter.unusedVariables false

theorem run_addF {a b : Nat} (h : a + b < 2 ^ 53) (w : World) : (binOp .add 52 (.float .f64 (fl a)) (.float .f64 (fl b))).run Try.prog w = .ok (.float .f64 (fl (a + b))) w :=
  run_float_arith w .add _ _ _ _ _ (fl_add h)

theorem run_gtF {a b : Nat} (ha : a < 2 ^ 53) (hb : b < 2 ^ 53) (w : World) : (binOp .gtr 52 (.float .f64 (fl a)) (.float .f64 (fl b))).run Try.prog w = .ok (.bool (decide (b < a))) w := by
  rw [binOp_float_cmp_gtr, show FloatKind.f64.format.order (fl a) (fl b) = some (compare a b) from fl_order ha hb]
  have : (some (compare a b) == some Ordering.gt) = decide (b < a) := by
    rcases Nat.lt_trichotomy a b with h | h | h
    · rw [Nat.compare_eq_lt.2 h, decide_eq_false (by omega)]; rfl
    · rw [Nat.compare_eq_eq.2 h, decide_eq_false (by omega)]; rfl
    · rw [Nat.compare_eq_gt.2 h, decide_eq_true h]; rfl
  rw [this]
  rfl

theorem run_toI {n : Nat} (h : n < 2 ^ 53) (w : World) : (convert 52 2 (.float .f64 (fl n))).run Try.prog w = .ok (.int .i64 (n : Int)) w := by
  refine run_convert_float_int w _ _ _ _ _ _ (by rw [Try.underlying52]; rfl) Try.underlying2 ?_
  unfold floatToIntVal
  rw [show (FloatKind.f64.decode (fl n)).toInt .zero = some (n : Int) from fl_int h]
  show (if _ then _ else _) = _
  rw [if_pos]
  show (-9223372036854775808 : Int) ≤ n ∧ (n : Int) ≤ 9223372036854775807
  omega

theorem run_eqC (W : World) (d : Nat) {a b : Nat} (ha : a < 2 ^ 53) (hb : b < 2 ^ 53) : (Op.equalIn (d + 1) 46 (.complex .f64 (fl a) (fl b)) (.complex .f64 (fl a) (fl b))).run Try.prog W = .ok true W := by
  have e : ∀ {x : Nat}, x < 2 ^ 53 → Op.floatEq .f64 (fl x) (fl x) = true := by
    intro x hx
    unfold Op.floatEq
    rw [show FloatKind.f64.format.order (fl x) (fl x) = some (compare x x) from fl_order hx hx]
    simp
  rw [Op.equalIn]
  simp only [run_underlying Try.underlying46, Sem.run_bind, Result.andThen_ok]
  simp [e ha, e hb]

theorem run_neC {a b : Nat} (ha : a < 2 ^ 53) (hb : b < 2 ^ 53) (w : World) : (binOp .neq 46 (.complex .f64 (fl a) (fl b)) (.complex .f64 (fl a) (fl b))).run Try.prog w = .ok (.bool false) w := by
  have c : ∀ {x : Nat}, x < 2 ^ 53 → (Op.Complex.cmp .eql .f64 (fl x) (fl x)).run Try.prog w = .ok true w := by
    intro x hx
    unfold Op.Complex.cmp
    simp [Op.floatCmp, show FloatKind.f64.format.order (fl x) (fl x) = some (compare x x) from fl_order hx hx]
    rfl
  simp [binOp, Op.complexOp, c ha, c hb]

theorem run_neAg (i u v x : Int) {a b : Nat} (ha : a < 2 ^ 53) (hb : b < 2 ^ 53) (w : World) : (binOp .neq 48 (.agg #[.int .i64 i, .int .i64 u, .int .i64 v, .int .i64 x, .complex .f64 (fl a) (fl b)]) (.agg #[.int .i64 i, .int .i64 u, .int .i64 v, .int .i64 x, .complex .f64 (fl a) (fl b)])).run Try.prog w = .ok (.bool false) w := by
  have h1 := fun (W : World) (d : Nat) => run_eqEg W d i u v x i u v x
  have h2 := fun (W : World) (d : Nat) => run_eqC W d ha hb
  simp only [beq_self_eq_true, Bool.and_self] at h1
  have h3 : (Op.equal 48 (.agg #[.int .i64 i, .int .i64 u, .int .i64 v, .int .i64 x, .complex .f64 (fl a) (fl b)]) (.agg #[.int .i64 i, .int .i64 u, .int .i64 v, .int .i64 x, .complex .f64 (fl a) (fl b)])).run Try.prog w = .ok true w := by
    unfold Op.equal
    show (Op.equalIn (9997 + 3) _ _ _).run _ _ = _
    rw [Op.equalIn]
    simp only [run_underlying Try.underlying48, Sem.run_bind, Result.andThen_ok]
    simp [go_sem, h1, h2]
  simp [binOp, h3]

end Go.Proofs.Ytlhkajlkapoabaa

/-
  The edges between three vertices of a tree: no two ways are shorter together, and their number is even.
-/
namespace Go.Proofs.Ytlhkajlkapoabaa
open Go.RowKit Go.Maps
set_option linter.unusedVariables false

section

variable {F : LF} {u v w : Int}

/-- Sums over some of a list. -/
theorem filter_sums {α : Type} (f : α → Nat) (p q r : α → Bool) : ∀ (L : List α), (∀ e ∈ L, r e = (p e != q e)) →
    ((L.filter r).map f).sum ≤ ((L.filter p).map f).sum + ((L.filter q).map f).sum ∧ ((L.filter r).length + (L.filter p).length + (L.filter q).length) % 2 = 0
  | [], _ => ⟨Nat.le_refl _, rfl⟩
  | e :: L, h => by
    obtain ⟨h1, h2⟩ := filter_sums f p q r L fun x hx => h x (List.mem_cons_of_mem _ hx)
    have h3 := h e (List.mem_cons_self ..)
    cases hp : p e <;> cases hq : q e <;> rw [hp, hq] at h3 <;> simp only [List.filter_cons, hp, hq, h3] <;> simp <;> omega

theorem LF.Ok.three (h : F.Ok) (h1 : F.Jn u v) (h2 : F.Jn v w) : F.Jn u w ∧ sumE (F.path u w) ≤ sumE (F.path u v) + sumE (F.path v w) ∧ cntE (F.path u w) ≤ cntE (F.path u v) + cntE (F.path v w) ∧ (cntE (F.path u w) + cntE (F.path u v) + cntE (F.path v w)) % 2 = 0 := by
  classical
  have h3 := h1.trans h2
  refine ⟨h3, ?_⟩
  obtain ⟨a1, b1⟩ := cnt_len (h.path_nz (u := u) (v := w))
  obtain ⟨a2, b2⟩ := cnt_len (h.path_nz (u := u) (v := v))
  obtain ⟨a3, b3⟩ := cnt_len (h.path_nz (u := v) (v := w))
  have e : ∀ x y, F.Jn x y → F.path x y = F.es.filter fun e => decide (¬ (F.less e.id).Join x y) := fun x y hj => by
    unfold LF.path
    rw [if_pos (show x ∈ F.vs ∧ y ∈ F.vs ∧ F.Join x y from hj)]
  have hr : ∀ e ∈ F.es, decide (¬ (F.less e.id).Join u w) = (decide (¬ (F.less e.id).Join u v) != decide (¬ (F.less e.id).Join v w)) := fun e he => by
    by_cases n1 : (F.less e.id).Join u v <;> by_cases n2 : (F.less e.id).Join v w
    · simp [n1, n2, n1.trans n2]
    · have n3 : ¬ (F.less e.id).Join u w := fun n3 => n2 (n1.symm.trans n3)
      simp [n1, n2, n3]
    · have n3 : ¬ (F.less e.id).Join u w := fun n3 => n1 (n3.trans n2.symm)
      simp [n1, n2, n3]
    · have n3 := h.halves he h1.2.2 h2.2.2 n1 n2
      simp [n1, n2, n3]
  obtain ⟨k1, k2⟩ := filter_sums Eg.w _ _ _ F.es hr
  obtain ⟨k3, -⟩ := filter_sums (fun _ : Eg => 1) _ _ _ F.es hr
  rw [← e u w h3, ← e u v h1, ← e v w h2] at k1 k2 k3
  have one : ∀ L : List Eg, (L.map fun _ => 1).sum = L.length := fun L => by
    induction L with
    | nil => rfl
    | cons x L ih => simp only [List.map_cons, List.sum_cons, List.length_cons, ih]; omega
  rw [one, one, one] at k3
  rw [a1, a2, a3, b1, b2, b3]
  exact ⟨k1, k3, k2⟩

theorem LF.alongX_iff : F.alongX u v = 0 ↔ F.Jn u v := by
  unfold LF.alongX
  by_cases h : u ∈ F.vs ∧ v ∈ F.vs
  · rw [if_pos h]
    by_cases hj : F.Join u v
    · rw [if_pos hj]; exact ⟨fun _ => ⟨h.1, h.2, hj⟩, fun _ => rfl⟩
    · rw [if_neg hj]; exact ⟨(fun e => by cases e), (fun hh => absurd hh.2.2 hj)⟩
  · rw [if_neg h]; exact ⟨(fun e => by cases e), (fun hh => absurd ⟨hh.1, hh.2.1⟩ h)⟩

theorem LF.alongX_symm (F : LF) (u v : Int) : F.alongX u v = F.alongX v u := by
  unfold LF.alongX
  by_cases h : u ∈ F.vs ∧ v ∈ F.vs
  · rw [if_pos h, if_pos h.symm]
    by_cases hj : F.Join u v
    · rw [if_pos hj, if_pos hj.symm]
    · rw [if_neg hj, if_neg (fun hh => hj (LF.Join.symm hh))]
  · rw [if_neg h, if_neg (fun hh => h hh.symm)]

theorem LF.alongV_symm (F : LF) (u v : Int) : F.alongV u v = F.alongV v u := by
  unfold LF.alongV
  rw [F.path_symm]

/-- What Along tells, laid open. -/
theorem LF.Ok.along_open (h : F.Ok) (u v : Int) : ∃ (m : Eg) (s k : Nat), m = best (F.path u v) ∧ s = sumE (F.path u v) ∧ k = cntE (F.path u v) ∧ s ≤ 2048 * 1099511627776 ∧ k ≤ 2048 ∧ F.alongV u v = .agg #[.int .i64 m.id, .int .i64 m.u, .int .i64 m.v, .int .i64 (m.w : Int), .complex .f64 (fl s) (fl k)] :=
  ⟨_, _, _, rfl, rfl, rfl, h.bounds.2, h.bounds.1, rfl⟩

end

end Go.Proofs.Ytlhkajlkapoabaa
