/-
  What single operations give, for the steps of a region whose order is drawn; what is kept over growth.
-/
import Derived.Test.YtghacfhpafbdmaaGreatG9
import Derived.Test.YtghacfhpafbdmaaGreatG10
import Derived.Test.YtghacfhpafbdmaaGreatG11
import Derived.WalkLawsBesides
namespace Go.Proofs.YtghacfhpafbdmaaGreat
open Go.RowKit
set_option linter.unusedVariables false

theorem RK.grown {α : Type} {enc : α → List Value} {k : Nat} {w w' : World} {B : Nat} {v : Value} {xs : List α} {row : Option Nat} (h : RK enc k w B v xs) (hg : w.grownBy w' row) (hB : B ≤ w.heap.size) (hr : ∀ g, row = some g → B ≤ g) : RK enc k w' B v xs :=
  h.below (below_grownBy hg hB hr)
theorem cell_grownBy {w w' : World} {row : Option Nat} (hg : w.grownBy w' row) (b o : Nat) (hb : b < w.heap.size) (hr : some b ≠ row) : w'.cell? ⟨b, o, none⟩ = w.cell? ⟨b, o, none⟩ :=
  World.cell?_of_block (w := w) (hg.block b hb hr)

section
variable {a : Act} {ty : TypeId} {pos : String} {d : Option Tmp} {af : Array Edge} {g : Option (Nat × Bool)}
theorem ro_move {x : Tmp} {v : Value} (w : World) (hx : a.tmps.getD x undef = v) :
    (execOp a.eval { dst := d, op := .move (.tmp x), type := ty, pos := pos, after := af, guard := g }).run Tryz.prog w = .ok (.value v) w := by
  simp only [execOp, Act.eval, hx]; rfl
theorem ro_assign {x : Tmp} {v : Value} (w : World) (hx : a.tmps.getD x undef = v) :
    (execOp a.eval { dst := d, op := .assign (.tmp x), type := ty, pos := pos, after := af, guard := g }).run Tryz.prog w = .ok (.value v) w := by
  simp only [execOp, Act.eval, hx]; rfl
theorem ro_assignC {v : Value} (w : World) :
    (execOp a.eval { dst := d, op := .assign (.const v), type := ty, pos := pos, after := af, guard := g }).run Tryz.prog w = .ok (.value v) w := by
  simp only [execOp, Act.eval]; rfl
theorem ro_call1 {x : Tmp} {u : Value} {ts : Array TypeId} {F : Nat} (hF : ∀ (args : Array Value) (w : World), (callFunc F args).run Tryz.prog w = .ok (.enter F args) w) (w : World) (hx : a.tmps.getD x undef = u) :
    (execOp a.eval { dst := d, op := .call { callee := .value (.func F), args := #[.tmp x], argTypes := ts }, type := ty, pos := pos, after := af, guard := g }).run Tryz.prog w = .ok (.enter F #[u]) w := by
  have := hF #[u] w
  simp only [execOp, resolve, Act.eval, hx, List.map_toArray, List.map]
  go_simp
theorem ro_call2 {x y : Tmp} {u v : Value} {ts : Array TypeId} {F : Nat} (hF : ∀ (args : Array Value) (w : World), (callFunc F args).run Tryz.prog w = .ok (.enter F args) w) (w : World) (hx : a.tmps.getD x undef = u) (hy : a.tmps.getD y undef = v) :
    (execOp a.eval { dst := d, op := .call { callee := .value (.func F), args := #[.tmp x, .tmp y], argTypes := ts }, type := ty, pos := pos, after := af, guard := g }).run Tryz.prog w = .ok (.enter F #[u, v]) w := by
  have := hF #[u, v] w
  simp only [execOp, resolve, Act.eval, hx, hy, List.map_toArray, List.map]
  go_simp
theorem ro_call3 {x y z : Tmp} {u v q : Value} {ts : Array TypeId} {F : Nat} (hF : ∀ (args : Array Value) (w : World), (callFunc F args).run Tryz.prog w = .ok (.enter F args) w) (w : World) (hx : a.tmps.getD x undef = u) (hy : a.tmps.getD y undef = v) (hz : a.tmps.getD z undef = q) :
    (execOp a.eval { dst := d, op := .call { callee := .value (.func F), args := #[.tmp x, .tmp y, .tmp z], argTypes := ts }, type := ty, pos := pos, after := af, guard := g }).run Tryz.prog w = .ok (.enter F #[u, v, q]) w := by
  have := hF #[u, v, q] w
  simp only [execOp, resolve, Act.eval, hx, hy, hz, List.map_toArray, List.map]
  go_simp
theorem ro_loadNet {x : Tmp} {p : Nat} {sv se : Value} (w : World) (hx : a.tmps.getD x undef = .pointer (some ⟨p, 0, none⟩)) (h0 : w.cell? ⟨p, 0, none⟩ = some sv) (h1 : w.cell? ⟨p, 1, none⟩ = some se) :
    (execOp a.eval { dst := d, op := .load 25 (.tmp x), type := ty, pos := pos, after := af, guard := g }).run Tryz.prog w = .ok (.value (netV sv se)) w := by
  simp only [execOp, Act.eval, hx]
  go_simp
theorem ro_fieldE {x : Tmp} {p k : Nat} (w : World) (hk : k < 4) (hx : a.tmps.getD x undef = .pointer (some ⟨p, 0, none⟩)) :
    (execOp a.eval { dst := d, op := .fieldAddr 47 (.tmp x) k, type := ty, pos := pos, after := af, guard := g }).run Tryz.prog w = .ok (.value (.pointer (some ⟨p, k, none⟩))) w := by
  simp only [execOp, Act.eval, hx]
  match k, hk with
  | 0, _ => go_simp
  | 1, _ => go_simp
  | 2, _ => go_simp
  | 3, _ => go_simp
theorem ro_loadI {x : Tmp} {p k : Nat} {v : Value} (w : World) (hx : a.tmps.getD x undef = .pointer (some ⟨p, k, none⟩)) (h0 : w.cell? ⟨p, k, none⟩ = some v) :
    (execOp a.eval { dst := d, op := .load 3 (.tmp x), type := ty, pos := pos, after := af, guard := g }).run Tryz.prog w = .ok (.value v) w := by
  simp only [execOp, Act.eval, hx]
  go_simp
end
theorem cf_at : ∀ (args : Array Value) (w : World), (callFunc 43 args).run Tryz.prog w = .ok (.enter 43 args) w := enters_of Tryz.func43 (by kernel_rfl) rfl
theorem cf_join : ∀ (args : Array Value) (w : World), (callFunc 81 args).run Tryz.prog w = .ok (.enter 81 args) w := enters_of Tryz.func81 (by kernel_rfl) rfl
theorem cf_first : ∀ (args : Array Value) (w : World), (callFunc 42 args).run Tryz.prog w = .ok (.enter 42 args) w := enters_of Tryz.func42 (by kernel_rfl) rfl
end Go.Proofs.YtghacfhpafbdmaaGreat
