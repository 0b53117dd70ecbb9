/-
  What the bound of the '..UptoSaid' statements gives: a slice of bytes that came in is no longer than it.
-/
import Derived.Test.YtbmjiheclagfiaaOpen
import Derived.JoinedCond
namespace Go.Proofs.Ytbmjiheclagfiaa
open Go.ChangeShapes Go.WideShapes Go.ChangeAt Go.RowKit
set_option linter.unusedVariables false

theorem bulk_one {H : Type} (d : DataW H) : 1 ≤ Rows.uptoBulk d := by
  cases d with
  | lit l => cases l <;> simp [Rows.uptoBulk]
  | nil => simp [Rows.uptoBulk]
  | ptr d => simp [Rows.uptoBulk]
  | slice elems spare => simp [Rows.uptoBulk]
  | agg parts => simp [Rows.uptoBulk]
  | iface t d => simp [Rows.uptoBulk]
  | map entries => simp [Rows.uptoBulk]
  | held h => simp [Rows.uptoBulk]
theorem bulk_length {H : Type} : ∀ l : List (DataW H), l.length ≤ Rows.uptoBulkAll l
  | [] => by simp [Rows.uptoBulkAll]
  | x :: r => by
    have h1 := bulk_one x
    have h2 := bulk_length r
    simp only [Rows.uptoBulkAll, List.length_cons]
    omega

theorem slice_upto {H : Type} {enc : TypeId × Value → H} {W : World} {a0 : Option Addr} {len0 cap0 : Nat} {d0 : DataW H} {p0 : List MemPlace}
    (h0 : DataW.Trod enc Try.prog W 0 (fun _ => true) true 22 (.slice a0 len0 cap0) d0 p0) (hb : Rows.uptoBulk d0 ≤ 1048576) :
    ∃ l, RB W W.heap.size (.slice a0 len0 cap0) l ∧ l.length ≤ 1048576 := by
  have hs : ∀ elems spare, d0 = .slice elems spare → elems.length + spare.length ≤ 1048576 := by
    intro elems spare e
    rw [e] at hb
    simp only [Rows.uptoBulk] at hb
    have h1 := bulk_length elems
    have h2 := bulk_length spare
    omega
  obtain ⟨l, h1, h2⟩ := slice_in h0 (fun elems spare e => by rw [bytes5]; have := hs elems spare e; simp only [reachBytes]; omega)
  refine ⟨l, h1, ?_⟩
  have hl := h1.2.2
  obtain ⟨fuel, hf⟩ := h0
  rcases open_ints Try.underlying22 Try.underlying5 (by kernel_rfl) hf with ⟨hcs, _⟩ | ⟨x, l', c', zs, hcs, _, hl', hm, hz, hx, hcell, hwz⟩
  · simp [Value.cells] at hcs
    obtain ⟨rfl, rfl, rfl⟩ := hcs
    obtain ⟨A, c, e, _⟩ := hl
    injection e with _ e _
    omega
  · simp [Value.cells] at hcs
    obtain ⟨rfl, rfl, rfl⟩ := hcs
    simp only [Prod.mk.injEq] at hx
    simp only [if_true] at hz
    have := hs _ _ hx.1
    simp only [lits, List.length_map, List.length_take, List.length_drop] at this
    obtain ⟨A, c, e, _⟩ := hl
    injection e with _ e _
    omega
end Go.Proofs.Ytbmjiheclagfiaa
