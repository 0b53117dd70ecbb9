/-
  Plain: the sum of bitwise sums is the bitwise sum of sums; what stands behind both of two texts doesn't tell.
-/
import Derived.Test.YtbmjiheclagfiaaBase
namespace Go.Proofs.Ytbmjiheclagfiaa
open Go.RowKit
set_option linter.unusedVariables false

theorem xor4 (a b c d : Nat) : (a ^^^ b) ^^^ (c ^^^ d) = (a ^^^ c) ^^^ (b ^^^ d) := by
  rw [Nat.xor_assoc, Nat.xor_assoc, ← Nat.xor_assoc b, ← Nat.xor_assoc c, Nat.xor_comm b c]
theorem crcStep_xor (a b : Nat) : crcStep (a ^^^ b) = crcStep a ^^^ crcStep b := by
  unfold crcStep
  have h1 : (a ^^^ b) / 2 = a / 2 ^^^ b / 2 := Nat.xor_div_two
  have h2 : (a ^^^ b) % 2 = 1 ↔ ¬ (a % 2 = 1 ↔ b % 2 = 1) := Nat.xor_mod_two_eq_one
  rw [h1, xor4]
  congr 1
  by_cases ha : a % 2 = 1 <;> by_cases hb : b % 2 = 1
  · rw [if_neg (by rw [h2]; simp [ha, hb]), if_pos ha, if_pos hb, Nat.xor_self]
  · rw [if_pos (by rw [h2]; simp [ha]; omega), if_pos ha, if_neg hb, Nat.xor_zero]
  · rw [if_pos (by rw [h2]; simp [hb]; omega), if_neg ha, if_pos hb, Nat.zero_xor]
  · rw [if_neg (by rw [h2]; simp [ha, hb]), if_neg ha, if_neg hb, Nat.xor_self]
theorem crcSteps_xor (k a b : Nat) : crcSteps k (a ^^^ b) = crcSteps k a ^^^ crcSteps k b := by
  induction k with
  | zero => rfl
  | succ k ih => rw [crcSteps, crcSteps, crcSteps, ih, crcStep_xor]
def xorL (l m : List Nat) : List Nat := List.zipWith (fun x y => x ^^^ y) l m
theorem crcReg_xor : ∀ (l m : List Nat) (r s : Nat), l.length = m.length → crcReg (r ^^^ s) (xorL l m) = crcReg r l ^^^ crcReg s m
  | [], [], r, s, _ => rfl
  | x :: l, y :: m, r, s, h => by
    show crcReg (crcByte (r ^^^ s) (x ^^^ y)) (xorL l m) = crcReg (crcByte r x) l ^^^ crcReg (crcByte s y) m
    rw [← crcReg_xor l m _ _ (by simpa using h)]
    congr 1
    unfold crcByte
    rw [xor4, crcSteps_xor]
theorem xorL_self (l : List Nat) : xorL l l = List.replicate l.length 0 := by
  induction l with
  | nil => rfl
  | cons a l ih => 
    show (a ^^^ a) :: xorL l l = _
    rw [ih, Nat.xor_self]
    rfl
theorem sumsBehind (A B C D : List Nat) (h : C.length = D.length) : crcSum (A ++ C) ^^^ crcSum (B ++ C) = crcSum (A ++ D) ^^^ crcSum (B ++ D) := by
  unfold crcSum
  rw [xor4, Nat.xor_self, Nat.xor_zero, xor4, Nat.xor_self, Nat.xor_zero, crcReg_append, crcReg_append, crcReg_append, crcReg_append, ← crcReg_xor _ _ _ _ rfl, ← crcReg_xor _ _ _ _ rfl, xorL_self, xorL_self, h]
theorem sumsAdd (A B C : List Nat) (h1 : A.length = B.length) (h2 : A.length = C.length) : crcSum (xorL (xorL A B) C) = crcSum A ^^^ crcSum B ^^^ crcSum C := by
  unfold crcSum
  have e : crcReg 4294967295 (xorL (xorL A B) C) = crcReg 4294967295 A ^^^ crcReg 4294967295 B ^^^ crcReg 4294967295 C := by
    have h3 : (xorL A B).length = C.length := by unfold xorL; rw [List.length_zipWith]; omega
    have := crcReg_xor (xorL A B) C (4294967295 ^^^ 4294967295) 4294967295 h3
    rw [crcReg_xor A B _ _ h1, Nat.xor_self, Nat.zero_xor] at this
    exact this
  rw [e, xor4 (crcReg 4294967295 A), Nat.xor_self, Nat.xor_zero, Nat.xor_assoc _ (crcReg 4294967295 C)]
theorem u32xor (a b : Nat) (ha : a < 4294967296) (hb : b < 4294967296) : bits BinOp.xor IntKind.u32 (a : Int) (b : Int) = ((a ^^^ b : Nat) : Int) := u32_xor_nat a b ha hb
end Go.Proofs.Ytbmjiheclagfiaa
