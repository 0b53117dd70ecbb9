/-
  An argument that is eight bytes: opened.
-/
import Derived.Test.YtaboknjokdgjeaaN7
import Derived.Test.YtaboknjokdgjeaaOpen
namespace Go.Proofs.Ytaboknjokdgjeaa
open Go.ChangeShapes Go.WideShapes Go.ChangeAt Go.RowKit
set_option linter.unusedVariables false

theorem array_in {H : Type} {enc : TypeId × Value → H} {W : World} {r : Reach} {b0 : Nat} {v : Value} {d0 : DataW H} {p0 : List MemPlace} (hok : Value.okWide Try.prog W r b0 50 v)
    (h0 : DataW.Trod enc Try.prog W 0 (fun _ => true) true 50 v d0 p0) :
    ∃ c0 c1 c2 c3 c4 c5 c6 c7 : Nat, v = aggB c0 c1 c2 c3 c4 c5 c6 c7 ∧ ∀ x ∈ [c0, c1, c2, c3, c4, c5, c6, c7], x < 256 := by
  have ho : ∃ cs : Array Value, v = .agg cs ∧ cs.size = Try.prog.cellsOf 50 := by
    simp only [Value.okWide, Try.underlying50] at hok
    obtain ⟨cs, h1, h2, _⟩ := hok
    exact ⟨cs, h1, h2⟩
  have c8 : Try.prog.cellsOf 50 = 8 := by kernel_rfl
  have c1 : Try.prog.cellsOf 5 = 1 := by kernel_rfl
  rw [c8] at ho
  obtain ⟨⟨l⟩, rfl, hs⟩ := ho
  obtain ⟨fuel, hf⟩ := h0
  obtain ⟨xs, m, rfl, _, _, hl, hi⟩ := DataW.trod_array Try.underlying50 hf
  rw [c1] at hi
  have key : ∀ i, i < 8 → ∃ c : Nat, c < 256 ∧ l[i]? = some (.int .u8 (c : Int)) := by
    intro i h
    have hi' := hi i h
    rw [List.getElem?_eq_getElem (by omega)] at hi'
    obtain ⟨n, hn, _, hw⟩ := DataW.trod_int Try.underlying5 hi'
    simp [Lit.wf, IntKind.min, IntKind.max, IntKind.signed, IntKind.bits] at hw
    refine ⟨n.toNat, by omega, ?_⟩
    have h1 := congrArg (fun z => z[0]?) hn
    simp [Value.cells] at h1
    rw [h1]
    congr 2
    omega
  match l, hs, key with
  | [a0, a1, a2, a3, a4, a5, a6, a7], _, key =>
    obtain ⟨c0, h0, e0⟩ := key 0 (by omega)
    obtain ⟨c1, h1, e1⟩ := key 1 (by omega)
    obtain ⟨c2, h2, e2⟩ := key 2 (by omega)
    obtain ⟨c3, h3, e3⟩ := key 3 (by omega)
    obtain ⟨c4, h4, e4⟩ := key 4 (by omega)
    obtain ⟨c5, h5, e5⟩ := key 5 (by omega)
    obtain ⟨c6, h6, e6⟩ := key 6 (by omega)
    obtain ⟨c7, h7, e7⟩ := key 7 (by omega)
    simp at e0 e1 e2 e3 e4 e5 e6 e7
    subst e0 e1 e2 e3 e4 e5 e6 e7
    refine ⟨c0, c1, c2, c3, c4, c5, c6, c7, rfl, ?_⟩
    simp
    omega
end Go.Proofs.Ytaboknjokdgjeaa
