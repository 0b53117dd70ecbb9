/-
  The walks of skeinref02: Sum, Seal, Open.
-/
import Derived.Test.YtbmjiheclagfiaaH3
import Derived.Test.YtbmjiheclagfiaaC3
namespace Go.Proofs.Ytbmjiheclagfiaa
open Go.RowKit
set_option linter.unusedVariables false

theorem crcReg_step (r x : Nat) : crcReg r [x] = crcSteps 8 (r ^^^ x) := rfl

theorem below_drewN {B : Nat} {w w' : World} (h : Below B w w') (n : Nat) : Below B w (w'.drewN n) := ⟨h.os, h.tape, h.output, h.size, h.block⟩

def digits (s k : Nat) : List Nat := (List.range k).map (fun i => s / 256 ^ i % 256)
theorem digits_succ (s k : Nat) : digits s (k + 1) = digits s k ++ [s / 256 ^ k % 256] := by simp [digits, List.range_succ]
theorem digits_four (s : Nat) (h : s < 4294967296) : digits s 4 = sumBytes s := by
  simp [digits, sumBytes, List.range_succ]
  omega

theorem openOk_same (l : List Nat) (h : 4 ≤ l.length) : sameB (sumBytes (crcSum (l.drop 4)) ++ l.drop 4) l = openOk l := by
  unfold sameB openOk
  rw [decide_eq_decide]
  constructor
  · intro e
    refine ⟨h, ?_⟩
    have := congrArg (List.take 4) e
    rw [List.take_append_of_le_length (by simp [sumBytes])] at this
    rw [← this, List.take_of_length_le (by simp [sumBytes])]
  · rintro ⟨_, e⟩
    rw [← e, List.take_append_drop]

theorem openL_eq (l : List Nat) : openL l = if openOk l then l.drop 4 else [] := rfl
end Go.Proofs.Ytbmjiheclagfiaa
