/-
  The document's example.
-/
import Derived.Test.YtbbfnbnjaiimgaaRP25
import Derived.Test.YtbbfnbnjaiimgaaAQ
namespace Go.Proofs.Ytbbfnbnjaiimgaa
open Go.RowKit
set_option linter.unusedVariables false

def ex3 : RM SV := (((RM.new : RM SV).makeA ⟨5, 0⟩).makeA ⟨6, 0⟩).makeA ⟨7, 1⟩

def ex5 : RM SV := (ex3.joinA 2 1).joinA 1 3

theorem ex_facts : (RM.new : RM SV).makeN = 1 ∧ (RM.new : RM SV).makeE = 0 ∧ ((RM.new : RM SV).makeA ⟨5, 0⟩).makeN = 2 ∧ ((RM.new : RM SV).makeA ⟨5, 0⟩).makeE = 0 ∧ (((RM.new : RM SV).makeA ⟨5, 0⟩).makeA ⟨6, 0⟩).makeN = 3 ∧ (((RM.new : RM SV).makeA ⟨5, 0⟩).makeA ⟨6, 0⟩).makeE = 0 ∧ ex3.joinE 2 1 = 0 ∧ (ex3.joinA 2 1).joinE 1 3 = 0 ∧ ex5.rowA 3 = [2, 1, 3] ∧ ex5.errA 3 = 0 ∧ ex5.errA 1 = 0 ∧ ex5.errA 2 = 0 ∧ ex5.indexA 1 = 1 ∧ ex5.seekA 2 = 3 ∧ (ex5.cutA 1).rowA 2 = [2] ∧ (ex5.cutA 1).errA 2 = 0 := by decide

theorem ex_all : ex5.allA 1 = ⟨18, 1⟩ := by rfl

theorem ex_fit : ex5.Fit := by
  intro v hv
  have : ex5.own = [⟨5, 0⟩, ⟨6, 0⟩, ⟨7, 1⟩] := by rfl
  rw [this] at hv
  simp at hv
  rcases hv with rfl | rfl | rfl <;> simp

end Go.Proofs.Ytbbfnbnjaiimgaa
