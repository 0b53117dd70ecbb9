/-
  Nodes of chains in memory; the walks of above and step.
-/
import Derived.Test.YtlhkajlkapoabaaD1
import Derived.Test.YtlhkajlkapoabaaLK1
import Derived.Test.YtlhkajlkapoabaaFL
import Derived.RegionTactic
namespace Go.Proofs.Ytlhkajlkapoabaa
open Go.RowKit Go.Maps
set_option linter.unusedVariables false

/-- An edge. -/
structure Eg where
  id : Int
  u : Int
  v : Int
  w : Nat

def Eg.zero : Eg := ⟨0, 0, 0, 0⟩

theorem Eg.ext' {a b : Eg} (h1 : a.id = b.id) (h2 : a.u = b.u) (h3 : a.v = b.v) (h4 : a.w = b.w) : a = b := by
  cases a; cases b; simp at h1 h2 h3 h4; subst h1 h2 h3 h4; rfl

instance : DecidableEq Eg := fun a b =>
  if h : a.id = b.id ∧ a.u = b.u ∧ a.v = b.v ∧ a.w = b.w then .isTrue (Eg.ext' h.1 h.2.1 h.2.2.1 h.2.2.2)
  else .isFalse fun e => h (by rw [e]; exact ⟨rfl, rfl, rfl, rfl⟩)

def Eg.val (e : Eg) : Value := .agg #[.int .i64 e.id, .int .i64 e.u, .int .i64 e.v, .int .i64 (e.w : Int)]

/-- An edge is greater than another one. -/
def Eg.above (a b : Eg) : Bool := decide (b.w < a.w) || (decide (a.w = b.w) && decide (b.id < a.id))

/-- A node. -/
structure NdL where
  n : LN
  d : Int
  e : Eg
  m : Eg
  s : Nat
  k : Nat

def ptrV : Option Nat → Value
  | none => .pointer none
  | some a => .pointer (some ⟨a, 0, none⟩)

def encL (x : NdL) : Array Value := #[ptrV x.n.up, ptrV x.n.l, ptrV x.n.r, .bool x.n.t, .int .i64 x.d, .int .i64 x.e.id, .int .i64 x.e.u, .int .i64 x.e.v, .int .i64 (x.e.w : Int), .int .i64 x.m.id, .int .i64 x.m.u, .int .i64 x.m.v, .int .i64 (x.m.w : Int), .complex .f64 (fl x.s) (fl x.k)]

/-- The nodes of S lie in memory. -/
def NAt (w : World) (S : Nat → Prop) (N : Nat → NdL) : Prop := ∀ a, S a → Blk w a 71 (encL (N a))

def updL (N : Nat → NdL) (a : Nat) (x : NdL) : Nat → NdL := fun b => if b = a then x else N b

theorem updL_same (N : Nat → NdL) (a : Nat) (x : NdL) : updL N a x a = x := by unfold updL; rw [if_pos rfl]

theorem updL_ne (N : Nat → NdL) {a b : Nat} (x : NdL) (h : b ≠ a) : updL N a x b = N b := by unfold updL; rw [if_neg h]

section

variable {w w' : World} {S : Nat → Prop} {N : Nat → NdL}

theorem NAt.mod {T : Nat → Prop} (h : NAt w S N) (hm : Mod T w w') (hd : ∀ a, S a → ¬ T a) : NAt w' S N := fun a ha => (h a ha).mod hm (hd a ha)

theorem NAt.below (h : NAt w S N) (hb : Below w.heap.size w w') : NAt w' S N := fun a ha => (h a ha).below hb (h a ha).lt

/-- One node turns. -/
theorem NAt.upd (h : NAt w S N) {a : Nat} (hm : Mod (fun k => k = a) w w') {x : NdL} (hb : Blk w' a 71 (encL x)) : NAt w' S (updL N a x) := fun b hs => by
  by_cases e : b = a
  · subst e; rw [updL_same]; exact hb
  · rw [updL_ne N x e]; exact (h b hs).mod hm e

end

set_option maxRecDepth 100000 in
set_option maxHeartbeats 1000000 in
theorem above_any (a b : Eg) (w : World) : Calls Try.prog 49 #[a.val, b.val] w fun e w' => e = .returned (.bool (a.above b)) ∧ Below w.heap.size w w' := by
  obtain ⟨a1, a2, a3, a4⟩ := a
  obtain ⟨b1, b2, b3, b4⟩ := b
  have hbw : Below w.heap.size w ((w.alloc (.cells #[.int .i64 a1, .int .i64 a2, .int .i64 a3, .int .i64 (a4 : Int)] 33)).alloc (.cells #[.int .i64 b1, .int .i64 b2, .int .i64 b3, .int .i64 (b4 : Int)] 33)) := ((Below.refl _ _).alloc (Nat.le_refl _) _).alloc (by simp) _
  have HB := Lib.hid hbw
  clear hbw
  change Calls Try.prog _ #[.agg #[.int .i64 a1, .int .i64 a2, .int .i64 a3, .int .i64 (a4 : Int)], .agg #[.int .i64 b1, .int .i64 b2, .int .i64 b3, .int .i64 (b4 : Int)]] w _
  by_cases h1 : b4 < a4
  · have e : Eg.above ⟨a1, a2, a3, a4⟩ ⟨b1, b2, b3, b4⟩ = true := by unfold Eg.above; simp [h1]
    rw [e]
    have d1 : decide (b4 < a4) = true := by simpa using h1
    clear h1
    clear e
    go_enter Try.func49, Try.ntmps49
    go_wp2_with fail
    go_ret
    exact ⟨rfl, HB.out⟩
  · have d1 : decide (b4 < a4) = false := by simpa using h1
    by_cases h2 : a4 = b4
    · have e : Eg.above ⟨a1, a2, a3, a4⟩ ⟨b1, b2, b3, b4⟩ = decide (b1 < a1) := by unfold Eg.above; simp [h2]
      rw [e]
      have d2 : ((a4 : Int) == (b4 : Int)) = true := by simp [h2]
      clear e h1 h2
      cases hd : decide (b1 < a1)
      · go_enter Try.func49, Try.ntmps49
        go_wp2_with fail
        go_ret
        exact ⟨rfl, HB.out⟩
      · go_enter Try.func49, Try.ntmps49
        go_wp2_with fail
        go_ret
        exact ⟨rfl, HB.out⟩
    · have e : Eg.above ⟨a1, a2, a3, a4⟩ ⟨b1, b2, b3, b4⟩ = false := by unfold Eg.above; simp [h1, h2]
      rw [e]
      have d2 : ((a4 : Int) == (b4 : Int)) = false := by simp; omega
      clear e h1 h2
      go_enter Try.func49, Try.ntmps49
      go_wp2_with fail
      go_ret
      exact ⟨rfl, HB.out⟩

/-- What a node adds to a sum. -/
def Eg.stepS (e : Eg) : Nat := if e = Eg.zero then 0 else e.w

def Eg.stepK (e : Eg) : Nat := if e = Eg.zero then 0 else 1

theorem fl_zero' : fl 0 = 0 := by rw [fl_nearest]; rfl

theorem fl_one' : fl 1 = 4607182418800017408 := by decide

/-- The block of a node, read. -/
theorem node_cells {w : World} {a : Nat} {x : NdL} (h : Blk w a 71 (encL x)) :
    w.cell? ⟨a, 0, none⟩ = some (ptrV x.n.up) ∧ w.cell? ⟨a, 1, none⟩ = some (ptrV x.n.l) ∧ w.cell? ⟨a, 2, none⟩ = some (ptrV x.n.r) ∧ w.cell? ⟨a, 3, none⟩ = some (.bool x.n.t) ∧ w.cell? ⟨a, 4, none⟩ = some (.int .i64 x.d) ∧
    (w.cell? ⟨a, 5, none⟩ = some (.int .i64 x.e.id) ∧ w.cell? ⟨a, 6, none⟩ = some (.int .i64 x.e.u) ∧ w.cell? ⟨a, 7, none⟩ = some (.int .i64 x.e.v) ∧ w.cell? ⟨a, 8, none⟩ = some (.int .i64 (x.e.w : Int))) ∧
    (w.cell? ⟨a, 9, none⟩ = some (.int .i64 x.m.id) ∧ w.cell? ⟨a, 10, none⟩ = some (.int .i64 x.m.u) ∧ w.cell? ⟨a, 11, none⟩ = some (.int .i64 x.m.v) ∧ w.cell? ⟨a, 12, none⟩ = some (.int .i64 (x.m.w : Int))) ∧ w.cell? ⟨a, 13, none⟩ = some (.complex .f64 (fl x.s) (fl x.k)) :=
  ⟨h.cell 0, h.cell 1, h.cell 2, h.cell 3, h.cell 4, ⟨h.cell 5, h.cell 6, h.cell 7, h.cell 8⟩, ⟨h.cell 9, h.cell 10, h.cell 11, h.cell 12⟩, h.cell 13⟩

theorem run_eqEg (W : World) (d : Nat) (i u v x j a b y : Int) : (Op.equalIn (d + 2) 33 (.agg #[.int .i64 i, .int .i64 u, .int .i64 v, .int .i64 x]) (.agg #[.int .i64 j, .int .i64 a, .int .i64 b, .int .i64 y])).run Try.prog W = .ok (i == j && u == a && v == b && x == y) W := by
  have h0 := fun (x y : Int) (w : World) => run_equalIn_int (P := Try.prog) w d 3 .i64 .i64 x y Try.underlying3
  have h1 := fun (x y : Int) (w : World) => run_equalIn_int (P := Try.prog) w d 2 .i64 .i64 x y Try.underlying2
  rw [Op.equalIn]
  simp only [run_underlying Try.underlying33, Sem.run_bind, Result.andThen_ok]
  simp [go_sem, h0, h1]
  by_cases e0 : i = j <;> by_cases e1 : u = a <;> by_cases e2 : v = b <;> by_cases e3 : x = y <;> simp [e0, e1, e2, e3]

theorem zero_iff (e : Eg) : (e.id == 0 && e.u == 0 && e.v == 0 && (e.w : Int) == 0) = decide (e = Eg.zero) := by
  rw [Bool.eq_iff_iff, decide_eq_true_iff]
  simp only [Bool.and_eq_true, beq_iff_eq]
  constructor
  · rintro ⟨⟨⟨h1, h2⟩, h3⟩, h4⟩
    exact Eg.ext' h1 h2 h3 (show e.w = 0 by omega)
  · rintro rfl
    exact ⟨⟨⟨rfl, rfl⟩, rfl⟩, rfl⟩

set_option maxRecDepth 100000 in
set_option maxHeartbeats 1000000 in
theorem step_any (w : World) (a : Nat) (x : NdL) (h : Blk w a 71 (encL x)) :
    Calls Try.prog 48 #[.pointer (some ⟨a, 0, none⟩)] w fun e w' => e = .returned (.complex .f64 (fl x.e.stepS) (fl x.e.stepK)) ∧ w' = w := by
  obtain ⟨xn, xd, ⟨e1, e2, e3, e4⟩, xm, xs, xk⟩ := x
  obtain ⟨-, -, -, -, -, ⟨a5, a6, a7, a8⟩, -, -⟩ := node_cells h
  have hq := fun W => run_eqEg W 9998 e1 e2 e3 (e4 : Int) 0 0 0 0
  have hz := zero_iff ⟨e1, e2, e3, e4⟩
  dsimp only at a5 a6 a7 a8 hz ⊢
  by_cases he : Eg.mk e1 e2 e3 e4 = Eg.zero
  · have s1 : Eg.stepS ⟨e1, e2, e3, e4⟩ = 0 := by unfold Eg.stepS; rw [if_pos he]
    have s2 : Eg.stepK ⟨e1, e2, e3, e4⟩ = 0 := by unfold Eg.stepK; rw [if_pos he]
    rw [s1, s2, fl_zero']
    rw [hz, decide_eq_true he] at hq
    clear h hz he s1 s2
    go_enter Try.func48, Try.ntmps48
    go_wp2_with fail
    go_ret
    exact ⟨rfl, rfl⟩
  · have s1 : Eg.stepS ⟨e1, e2, e3, e4⟩ = e4 := by unfold Eg.stepS; rw [if_neg he]
    have s2 : Eg.stepK ⟨e1, e2, e3, e4⟩ = 1 := by unfold Eg.stepK; rw [if_neg he]
    rw [s1, s2, fl_one']
    rw [hz, decide_eq_false he] at hq
    clear h hz he s1 s2
    go_enter Try.func48, Try.ntmps48
    go_wp2_with fail
    go_ret
    exact ⟨rfl, rfl⟩

end Go.Proofs.Ytlhkajlkapoabaa
