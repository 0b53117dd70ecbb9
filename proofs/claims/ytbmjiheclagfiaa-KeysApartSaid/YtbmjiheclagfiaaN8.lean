/-
  The walk of num.UnBig.
-/
import Derived.Test.YtbmjiheclagfiaaN7
namespace Go.Proofs.Ytbmjiheclagfiaa
open Go.RowKit
set_option linter.unusedVariables false

theorem arr8 (x0 x1 x2 x3 x4 x5 x6 x7 k : Nat) (hk : k < 8) (W : World) : (Instr.index 78 (aggB x0 x1 x2 x3 x4 x5 x6 x7) (.int .i64 (k : Int))).run Try.prog W = .ok (.int .u8 (([x0, x1, x2, x3, x4, x5, x6, x7][k]'hk : Nat) : Int)) W := by
  have h : k = 0 ∨ k = 1 ∨ k = 2 ∨ k = 3 ∨ k = 4 ∨ k = 5 ∨ k = 6 ∨ k = 7 := by omega
  rcases h with rfl | rfl | rfl | rfl | rfl | rfl | rfl | rfl
  all_goals (unfold aggB; show _ = _; kernel_rfl)

theorem unbigEnd (a : Nat) (h : a < 18446744073709551616) : wrap64 (IntKind.u64.wrap ((a : Int) - 9223372036854775808)) = (a : Int) - 9223372036854775808 := by
  rw [IntKind.wrap_u64]
  unfold wrap64
  omega

set_option maxRecDepth 100000 in
set_option maxHeartbeats 1000000 in
theorem unbig_any (x0 x1 x2 x3 x4 x5 x6 x7 : Nat) (w : World) (hx : ∀ x ∈ [x0, x1, x2, x3, x4, x5, x6, x7], x < 256) :
    Calls Try.prog 51 #[aggB x0 x1 x2 x3 x4 x5 x6 x7] w fun e w' => e = .returned (.int .i64 ((val [x0, x1, x2, x3, x4, x5, x6, x7] : Nat) - 9223372036854775808)) ∧ ∃ o, w' = w.alloc o := by
  obtain ⟨L, hL⟩ : ∃ L, L = [x0, x1, x2, x3, x4, x5, x6, x7] := ⟨_, rfl⟩
  have hidx : Hid (∀ k (hk : k < 8), ∃ x : Nat, x < 256 ∧ acc (L.take (k + 1)) = acc (L.take k) * 256 + x ∧ ∀ W, (Instr.index 78 (aggB x0 x1 x2 x3 x4 x5 x6 x7) (.int .i64 (k : Int))).run Try.prog W = .ok (.int .u8 (x : Int)) W) := by
    intro k hk
    have hkL : k < L.length := by rw [hL]; simpa using hk
    refine ⟨L[k], ?_, ?_, ?_⟩
    · apply hx
      rw [← hL]
      exact List.getElem_mem hkL
    · rw [List.take_succ_eq_append_getElem hkL, acc_snoc]
    · intro W
      subst hL
      exact arr8 x0 x1 x2 x3 x4 x5 x6 x7 k hk W
  have hlt : Hid (∀ k ≤ 7, acc (L.take k) < 72057594037927936) := fun k hk => acc_lt _ (fun x hx' => hx x (by rw [← hL]; exact List.mem_of_mem_take hx')) (by rw [List.length_take]; omega)
  have hfin : Hid (acc (L.take 8) = val L ∧ val L < 18446744073709551616) := by
    constructor
    · rw [← acc_val, List.take_of_length_le (by rw [hL]; simp)]
    · have h8 := val_lt L (fun x hx' => hx x (by rw [← hL]; exact hx'))
      have e8 : L.length = 8 := by rw [hL]; rfl
      have p8 : (256 : Nat) ^ 8 = 18446744073709551616 := by decide +kernel
      rw [e8, p8] at h8
      exact h8
  rw [← hL]
  have HL := Lib.hid hL
  clear hL hx
  unfold aggB at hidx ⊢
  go_enter Try.func51, Try.ntmps51
  go_wp2
  go_loop [3, 7] (fun t i => ∃ k : Nat, k ≤ 8 ∧ i = .int .i64 k ∧ t = .int .u64 (acc (L.take k) : Nat)) (fun t i => 8 - (intOf i).toNat)
  case atStart => exact ⟨0, Nat.zero_le _, rfl, by rw [List.take_zero]; rfl⟩
  case round =>
    obtain ⟨k, hk, rfl, rfl⟩ := hrel
    by_cases hlt' : k < 8
    · obtain ⟨x, hx, hs, hi⟩ := hidx.out k hlt'
      have ha := hlt.out k (by omega)
      have HS := Lib.hid hs
      obtain ⟨a, ha0⟩ : ∃ a, a = acc (L.take k) := ⟨_, rfl⟩
      rw [← ha0] at ha HS ⊢
      have eo : bits BinOp.or IntKind.u64 (IntKind.u64.wrap ((a : Int) * 256)) (x : Int) = (a : Int) * 256 + (x : Int) := by rw [orByte a x ha hx]; simp
      clear ha ha0 hs
      go_wp2
      go_round
      case rel => exact ⟨k + 1, by omega, by go_num, by rw [HS.out]; simp⟩
      case measure => simp [intOf]; omega
    · obtain rfl : k = 8 := by omega
      obtain ⟨hf1, hf2⟩ := hfin.out
      rw [hf1]
      have HE := Lib.hid (unbigEnd _ hf2)
      clear hf1 hf2
      go_wp2
      go_ret
      exact ⟨ret_int HE.out, _, rfl⟩
end Go.Proofs.Ytbmjiheclagfiaa
