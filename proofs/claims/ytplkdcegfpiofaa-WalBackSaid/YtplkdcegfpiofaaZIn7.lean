/-
  Arguments of layer 7's laws, as the form hands them in.
-/
import Derived.Test.YtplkdcegfpiofaaZE4
import Derived.Test.YtplkdcegfpiofaaZV26
import Derived.Test.YtplkdcegfpiofaaZE3
namespace Go.Proofs.Ytplkdcegfpiofaa
open Go.ChangeShapes Go.WideShapes Go.ChangeAt Go.RowKit Go.Deep
set_option linter.unusedVariables false
section
variable {H : Type} {enc : TypeId × Value → H} {W : World} {sp : Nat → Bool} {held : Bool}
theorem sized_arg {ts : List TypeId} {ds : List (DataW H)} (hsz : (DataW.weightsEach Try.prog ts ds).all (· ≤ reachBytes) = true) {j : Nat} {t : TypeId} {d : DataW H} (ht : ts[j]? = some t) (hd : ds[j]? = some d) : ∀ n ∈ d.weights Try.prog t, n ≤ reachBytes := fun n hn => by
  have := List.all_eq_true.1 hsz n (DataW.weights_mem_each ht hd n hn)
  simpa using this
theorem ints_arg {v : Value} {d : DataW H} {p : List MemPlace} (h : DataW.Trod enc Try.prog W 0 sp held 35 v d p) (hs : ∀ n ∈ d.weights Try.prog 35, n ≤ reachBytes) (hone : v.cells.toList = [v]) :
    ∃ V, RI W W.heap.size v V ∧ ∀ x ∈ V, I64 x := by
  obtain ⟨fuel, hf⟩ := h
  rw [hone] at hf
  exact ints_in hf hs
theorem bytes_arg {v : Value} {d : DataW H} {p : List MemPlace} (h : DataW.Trod enc Try.prog W 0 sp held 22 v d p) (hs : ∀ n ∈ d.weights Try.prog 22, n ≤ reachBytes) (hone : v.cells.toList = [v]) :
    ∃ l, RB W W.heap.size v l ∧ l.length ≤ 140737488351232 := by
  obtain ⟨fuel, hf⟩ := h
  rw [hone] at hf
  exact bytes_in hf hs
end
end Go.Proofs.Ytplkdcegfpiofaa

/-
  Arguments of layer 9's laws, as the form hands them in: slices of slices of bytes.
-/
namespace Go.Proofs.Ytplkdcegfpiofaa
open Go.ChangeShapes Go.WideShapes Go.ChangeAt Go.RowKit Go.Deep
set_option linter.unusedVariables false
section
variable {H : Type} {enc : TypeId × Value → H} {W : World} {sp : Nat → Bool} {held : Bool}
theorem body_elem {n : Nat} {cs : List Value} {x : DataW H × List MemPlace} (hl : cs.length = 1) (h : DataW.trod enc Try.prog W 0 sp held n 22 cs = some x) (hs : ∀ m ∈ x.1.weights Try.prog 22, m ≤ reachBytes) :
    ∃ a : BV, cs = encBV a ∧ (RB W W.heap.size a.v a.body ∧ a.body.length ≤ 140737488351232) := by
  match cs, hl with
  | [c0], _ =>
    obtain ⟨l, h1, h2⟩ := bytes_in h hs
    obtain ⟨A, c, rfl, _⟩ := h1.open_
    exact ⟨⟨A, l.length, c, l⟩, rfl, h1, h2⟩
theorem bodies_in {v : Value} {d : DataW H} {p : List MemPlace} (h : DataW.Trod enc Try.prog W 0 sp held 47 v d p) (hs : ∀ n ∈ d.weights Try.prog 47, n ≤ reachBytes) (hone : v.cells.toList = [v]) :
    ∃ bs, Bodies W v bs := by
  obtain ⟨fuel, hf⟩ := h
  rw [hone] at hf
  obtain ⟨bs, h1, h2, h3⟩ := structs_in (e := 22) encBV 1 24 encBV_len (by omega) (by omega) (fun a => RB W W.heap.size a.v a.body ∧ a.body.length ≤ 140737488351232) Try.underlying47 (by kernel_rfl) (by kernel_rfl) (fun n cs x hl h hw => body_elem hl h hw) hf hs
  exact ⟨bs, h1, by omega, h3⟩
end
end Go.Proofs.Ytplkdcegfpiofaa
