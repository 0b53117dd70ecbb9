/-
  An argument that is a Ref, or a string: opened.
-/
import Derived.Test.YtbmjiheclagfiaaK1
import Derived.Test.YtbmjiheclagfiaaK3
import Derived.Test.YtbmjiheclagfiaaUpto
import Derived.Lib.SmallJoins
namespace Go.Proofs.Ytbmjiheclagfiaa
open Go.ChangeShapes Go.WideShapes Go.ChangeAt Go.RowKit
set_option linter.unusedVariables false

set_option maxRecDepth 100000 in
theorem ref_in {H : Type} {enc : TypeId × Value → H} {W : World} {r : Reach} {b0 : Nat} {v : Value} {d0 : DataW H} {p0 : List MemPlace} (hok : Value.okWide Try.prog W r b0 29 v)
    (h0 : DataW.Trod enc Try.prog W 0 (fun _ => true) true 29 v d0 p0) : ∃ (e : Bool) (n : Int), v = refV e n := by
  obtain ⟨v0, v1, y0, y1, k, rfl, _, _, h1, h2⟩ := Go.Joins.open_agg2 Try.underlying29 (by kernel_rfl) (by kernel_rfl) hok h0
  obtain ⟨e, he, _⟩ := DataW.trod_bool Try.underlying4 h1
  obtain ⟨n, hn, _⟩ := DataW.trod_int Try.underlying3 h2
  simp only [List.cons.injEq, and_true] at he hn
  subst he hn
  exact ⟨e, n, rfl⟩
end Go.Proofs.Ytbmjiheclagfiaa
