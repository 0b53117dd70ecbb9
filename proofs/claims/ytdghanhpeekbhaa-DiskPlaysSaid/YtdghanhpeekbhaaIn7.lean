/-
  Arguments of layer 7's laws, as the form hands them in.
-/
import Derived.Test.YtdghanhpeekbhaaE4
namespace Go.Proofs.Ytdghanhpeekbhaa
open Go.ChangeShapes Go.WideShapes Go.ChangeAt Go.RowKit Go.Deep
set_option linter.unusedVariables false
section
variable {H : Type} {enc : TypeId × Value → H} {W : World} {sp : Nat → Bool} {held : Bool}
theorem sized_arg {ts : List TypeId} {ds : List (DataW H)} (hsz : (DataW.weightsEach Try.prog ts ds).all (· ≤ reachBytes) = true) {j : Nat} {t : TypeId} {d : DataW H} (ht : ts[j]? = some t) (hd : ds[j]? = some d) : ∀ n ∈ d.weights Try.prog t, n ≤ reachBytes := fun n hn => by
  have := List.all_eq_true.1 hsz n (DataW.weights_mem_each ht hd n hn)
  simpa using this
theorem ints_arg {v : Value} {d : DataW H} {p : List MemPlace} (h : DataW.Trod enc Try.prog W 0 sp held 48 v d p) (hs : ∀ n ∈ d.weights Try.prog 48, n ≤ reachBytes) (hone : v.cells.toList = [v]) :
    ∃ V, RI W W.heap.size v V ∧ ∀ x ∈ V, I64 x := by
  obtain ⟨fuel, hf⟩ := h
  rw [hone] at hf
  exact ints_in hf hs
theorem bytes_arg {v : Value} {d : DataW H} {p : List MemPlace} (h : DataW.Trod enc Try.prog W 0 sp held 22 v d p) (hs : ∀ n ∈ d.weights Try.prog 22, n ≤ reachBytes) (hone : v.cells.toList = [v]) :
    ∃ l, RB W W.heap.size v l ∧ l.length ≤ 140737488351232 := by
  obtain ⟨fuel, hf⟩ := h
  rw [hone] at hf
  exact bytes_in hf hs
end
end Go.Proofs.Ytdghanhpeekbhaa
