/-
  What PlainForest's walk wants of memory: one edge more in a net of the law's own, in whatever order Go takes the steps. No walk.
-/
import Derived.Test.YtcdockoflkmkmaaGreatT13
namespace Go.Proofs.YtcdockoflkmkmaaGreat
open Go.RowKit Go.Sort
set_option linter.unusedVariables false

section
variable {a : Act} {ty : TypeId} {pos : String} {d : Option Tmp} {af : Array Edge} {g : Option (Nat × Bool)}
theorem rb_field {x : Tmp} {p : Nat} (w : World) (hx : a.tmps.getD x undef = .pointer (some ⟨p, 0, none⟩)) :
    (execOp a.eval { dst := d, op := .fieldAddr 25 (.tmp x) 1, type := ty, pos := pos, after := af, guard := g }).run Tryz.prog w = .ok (.value (.pointer (some ⟨p, 1, none⟩))) w := by
  simp only [execOp, Act.eval, hx]
  go_simp
theorem rb_load {x : Tmp} {p k : Nat} {v : Value} (w : World) (hx : a.tmps.getD x undef = .pointer (some ⟨p, k, none⟩)) (h0 : w.cell? ⟨p, k, none⟩ = some v) :
    (execOp a.eval { dst := d, op := .load 23 (.tmp x), type := ty, pos := pos, after := af, guard := g }).run Tryz.prog w = .ok (.value v) w := by
  simp only [execOp, Act.eval, hx]
  go_simp
theorem rb_slice {x : Tmp} {v0 v1 v2 v3 : Int} (w : World) (hx : a.tmps.getD x undef = .agg #[.int .i64 v0, .int .i64 v1, .int .i64 v2, .int .i64 v3]) :
    (execOp a.eval { dst := d, op := .buildSlice 23 1 #[(0, .tmp x)], type := ty, pos := pos, after := af, guard := g }).run Tryz.prog w = .ok (.value (.slice (some ⟨w.heap.size, 0, none⟩) 1 1)) (w.alloc (.cells #[.int .i64 v0, .int .i64 v1, .int .i64 v2, .int .i64 v3] 47)) := by
  simp only [execOp, Act.eval, hx, List.map_toArray, List.map]
  go_simp
theorem rb_store {x y : Tmp} {p k m c : Nat} {A : Option Addr} {u : Value} (w : World) (hx : a.tmps.getD x undef = .pointer (some ⟨p, k, none⟩)) (hy : a.tmps.getD y undef = .slice A m c) (h0 : w.cell? ⟨p, k, none⟩ = some u) (h1 : w.frozen? ⟨p, k, none⟩ = false) :
    (execOp a.eval { dst := d, op := .store 23 (.tmp x) (.tmp y), type := ty, pos := pos, after := af, guard := g }).run Tryz.prog w = .ok .skip (w.setCell ⟨p, k, none⟩ (.slice A m c)) := by
  simp only [execOp, Act.eval, hx, hy]
  go_simp
end
theorem cf_edgeOf : ∀ (args : Array Value) (w : World), (callFunc 29 args).run Tryz.prog w = .ok (.enter 29 args) w := enters_of Tryz.func29 (by kernel_rfl) rfl

/-- What the steps leave in their slots. -/
def SBare (B0 gb : Nat) (sv se ov : Value) (xs : List Ed) (y : Ed) (q : Nat) (x : Value) (w : World) : Prop := match q with
  | 0 => x = .pointer (some ⟨gb, 1, none⟩)
  | 1 => x = ov
  | 2 => x = netV sv se
  | 3 => x = .int .i64 y.id
  | 4 => x = .agg #[.int .i64 y.id, .int .i64 y.u, .int .i64 y.v, .int .i64 y.w]
  | 5 => ∃ h, x = .slice (some ⟨h, 0, none⟩) 1 1 ∧ Blk w h 47 (encE y).toArray ∧ ov.ownBlock ≠ some h
  | 6 => OK encE 4 47 w B0 x (xs ++ [y])
  | 7 => x = .pointer (some ⟨gb, 1, none⟩)
  | _ => True
theorem sbare_below {B0 gb : Nat} {sv se ov : Value} {xs : List Ed} {y : Ed} : ∀ (q : Nat) (x : Value) (w w' : World), SBare B0 gb sv se ov xs y q x w → Below w.heap.size w w' → SBare B0 gb sv se ov xs y q x w'
  | 0, _, _, _, h, _ => h
  | 1, _, _, _, h, _ => h
  | 2, _, _, _, h, _ => h
  | 3, _, _, _, h, _ => h
  | 4, _, _, _, h, _ => h
  | 5, _, _, _, ⟨h, h1, h2, h3⟩, hb => ⟨h, h1, h2.below hb h2.lt, h3⟩
  | 6, _, _, _, h, hb => OK.below h hb
  | 7, _, _, _, h, _ => h
  | _ + 8, _, _, _, h, _ => h

/-- What holds of the world. -/
structure IBare (B B0 g1 gb : Nat) (sv se ov : Value) (xs : List Ed) (y : Ed) (W : World) (L : Array Bool) (w : World) : Prop where
  low : Below B W w
  net : Blk w g1 25 #[sv, se]
  old : L.getD 8 false = false → Blk w gb 25 #[sv, ov]
  own : L.getD 6 false = false → OK encE 4 47 w B0 ov xs
  fin : L.getD 8 false = true → ∃ v', OK encE 4 47 w B0 v' (xs ++ [y]) ∧ Blk w gb 25 #[sv, v']
  u61 : L.getD 6 false = true → L.getD 1 false = true
  u81 : L.getD 8 false = true → L.getD 1 false = true
  u86 : L.getD 8 false = true → L.getD 6 false = true
  u65 : L.getD 6 false = true → L.getD 5 false = true
section
variable {B B0 g1 gb : Nat} {sv se ov : Value} {xs : List Ed} {y : Ed} {W w w' : World} {L : Array Bool}
theorem ran_set {L : Array Bool} {i k : Nat} (h : i ≠ k) : (L.setIfInBounds i true).getD k false = L.getD k false := by
  simp [Array.getElem?_setIfInBounds_ne h]
theorem ran_up {L : Array Bool} {i k : Nat} (h : L.getD k false = true) : (L.setIfInBounds i true).getD k false = true := by
  by_cases hik : i = k
  · subst hik
    have : i < L.size := by
      rcases Nat.lt_or_ge i L.size with h1 | h1
      · exact h1
      · simp [Array.getElem?_eq_none h1] at h
    simp [this]
  · rw [ran_set hik]; exact h
/-- A step that isn't the append or the store, and leaves what is there. -/
theorem IBare.step (h : IBare B B0 g1 gb sv se ov xs y W L w) (hb : Below w.heap.size w w') (hB : B ≤ w.heap.size) {i : Nat} (h6 : i ≠ 6) (h8 : i ≠ 8) : IBare B B0 g1 gb sv se ov xs y W (L.setIfInBounds i true) w' := by
  refine ⟨h.low.trans (hb.mono hB), h.net.below hb h.net.lt, fun e => ?_, fun e => ?_, fun e => ?_, fun e => ?_, fun e => ?_, fun e => ?_, fun e => ?_⟩
  · rw [ran_set h8] at e; exact (h.old e).below hb (h.old e).lt
  · rw [ran_set h6] at e; exact (h.own e).below hb
  · rw [ran_set h8] at e
    obtain ⟨v', h1, h2⟩ := h.fin e
    exact ⟨v', h1.below hb, h2.below hb h2.lt⟩
  · rw [ran_set h6] at e; exact ran_up (h.u61 e)
  · rw [ran_set h8] at e; exact ran_up (h.u81 e)
  · rw [ran_set h8] at e; rw [ran_set h6]; exact h.u86 e
  · rw [ran_set h6] at e; exact ran_up (h.u65 e)
theorem IBare.append (h : IBare B B0 g1 gb sv se ov xs y W L w) (h0 : L.getD 6 false = false) (h1 : L.getD 1 false = true) (h5 : L.getD 5 false = true) (hz : 6 < L.size) (hB : B ≤ w.heap.size) (hB0 : B ≤ B0) (hg : w.grownBy w' ov.ownBlock) : IBare B B0 g1 gb sv se ov xs y W (L.setIfInBounds 6 true) w' := by
  have ho := h.own h0
  have h8 : L.getD 8 false = false := by
    cases h8 : L.getD 8 false with
    | false => rfl
    | true => have := h.u86 h8; rw [h0] at this; cases this
  refine ⟨h.low.grown hg hB (fun q hq => Nat.le_trans hB0 (ho.lt q hq).1), h.net.grown hg (Ne.symm (ho.ne_blk h.net (by decide))), fun e => ?_, fun e => ?_, fun e => ?_, fun e => ran_up h1, fun e => ran_up h1, fun e => by simp [hz], fun e => ran_up h5⟩
  · exact (h.old h8).grown hg (Ne.symm (ho.ne_blk (h.old h8) (by decide)))
  · simp [hz] at e
  · rw [ran_set (by decide)] at e; rw [h8] at e; cases e
theorem IBare.store (h : IBare B B0 g1 gb sv se ov xs y W L w) (h0 : L.getD 8 false = false) (h6 : L.getD 6 false = true) (hz : 8 < L.size) (hgb : B ≤ gb) (hne : g1 ≠ gb) {v' : Value} (ho : OK encE 4 47 w B0 v' (xs ++ [y])) : IBare B B0 g1 gb sv se ov xs y W (L.setIfInBounds 8 true) (w.setCell ⟨gb, 1, none⟩ v') := by
  have hb := h.old h0
  refine ⟨h.low.setCell hgb _, h.net.far (p := ⟨gb, 1, none⟩) hne _, fun e => ?_, fun e => ?_, fun e => ⟨v', ho.kept (grownBy_set gb 1 v') (.inr (ho.ne_blk hb (by decide))), ?_⟩, fun e => ?_, fun e => ran_up (h.u61 h6), fun e => ran_up h6, fun e => ran_up (h.u65 h6)⟩
  · simp [hz] at e
  · rw [ran_set (by decide)] at e; rw [h6] at e; cases e
  · exact hb.set_ 1 v'
  · rw [ran_set (by decide)] at e; exact ran_up (h.u61 e)
end
end Go.Proofs.YtcdockoflkmkmaaGreat
