/-
  The walk of Index.
-/
import Derived.Test.YtpimbgijimbmhaaEP17
namespace Go.Proofs.Ytpimbgijimbmhaa
open Go.RowKit
set_option linter.unusedVariables false

/-- How many stand ahead, on the way up. -/
def cnt : Nat → List Up → Nat
  | A, [] => A
  | A, f :: fs => cnt (if f.right = true then A + (f.s.list.length + 1) else A) fs

theorem cnt_before : ∀ (fs : List Up) (xs : List Nat), (before xs fs).length = cnt xs.length fs
  | [], xs => rfl
  | f :: fs, xs => by
    unfold before cnt
    rw [cnt_before fs]
    cases f.right
    · simp
    · simp; congr 1; omega

theorem cnt_le : ∀ (fs : List Up) (A : Nat), A ≤ cnt A fs
  | [], A => Nat.le_refl _
  | f :: fs, A => by
    unfold cnt
    refine Nat.le_trans ?_ (cnt_le fs _)
    split <;> omega

structure IxI (N : Nodes SV) (n R c : Nat) (gs : List Up) (A : Nat) : Prop where
  zip : Zip N c gs
  lt : ∀ i ∈ around gs, 0 < i ∧ i < n
  nd : (around gs).Nodup
  out : c ∉ around gs
  cp : 0 < c
  res : cnt A gs = R
end Go.Proofs.Ytpimbgijimbmhaa
