/-
  The walks of crc.lowestFirst and crc.Seal.
-/
import Derived.Test.YtdghanhpeekbhaaC1
import Derived.Deep.RegionLaw
import Derived.Deep.RegionHeld3
import Derived.BigQuiet
import Derived.Deep.QuietTactic
namespace Go.Proofs.Ytdghanhpeekbhaa
open Go.RowKit
set_option linter.unusedVariables false

def sumBytes (n : Nat) : List Nat := [n % 256, n / 256 % 256, n / 65536 % 256, n / 16777216]
theorem sumBytes_lt (n : Nat) (hn : n < 4294967296) : ∀ x ∈ sumBytes n, x < 256 := by
  intro x hx
  simp [sumBytes] at hx
  rcases hx with rfl | rfl | rfl | rfl <;> omega

theorem run_mk (n : Nat) (hn : n ≤ 140737488355328) (W : World) : (Instr.makeSlice 22 (.int .i64 0) (.int .i64 (n : Int))).run Try.prog W =
    .ok (.slice (some ⟨W.heap.size, 0, none⟩) 0 n) (W.alloc (.cells (madeCells #[.int .u8 0] n) 5)) := by
  obtain ⟨i0, hi, hz0, hz1, hz2⟩ := info_parts info5
  have := run_make (P := Try.prog) W 22 5 i0 _ Try.underlying22 hi hz0 .i64 .i64 0 n (by omega) (by omega) (by rw [hz2]; omega) (by omega)
  simpa [hz1, Value.cells] using this
end Go.Proofs.Ytdghanhpeekbhaa
