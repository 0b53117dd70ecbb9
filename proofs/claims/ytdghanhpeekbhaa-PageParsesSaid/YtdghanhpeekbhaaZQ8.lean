/-
  The walk of skeinref08's low.
-/
import Derived.Test.YtdghanhpeekbhaaZQ6
namespace Go.Proofs.Ytdghanhpeekbhaa
open Go.RowKit Go.Maps
set_option linter.unusedVariables false

set_option maxHeartbeats 1000000 in
theorem refLow_any (w : World) (s n : Nat) (hs : s < 18446744073709551616) (hn : n ≤ 8) :
    Calls Try.prog 67 #[.int .u64 (s : Int), .int .i64 (n : Int)] w fun e w' => ∃ v, e = .returned v ∧ OB w' w.heap.size v (digits s n) ∧ Below w.heap.size w w' := by
  have HB0 : Hid (Below w.heap.size w (w.alloc (.cells #[] 5))) := Lib.hid ((Below.refl _ _).alloc (Nat.le_refl _) _)
  go_enter Try.func67, Try.ntmps67
  go_wp2_with fail
  go_loopw [0, 5, 6] (fun t v i wr => ∃ k m : Nat, k ≤ n ∧ i = .int .i64 k ∧ t = .int .u64 (m : Int) ∧ m < 18446744073709551616 ∧ Hid (m = s / 256 ^ k) ∧ Hid (OB wr w.heap.size v (digits s k)) ∧ Hid (Below w.heap.size w wr)) (fun t v i wr => n - (intOf i).toNat)
  case atStart => exact ⟨0, s, Nat.zero_le _, rfl, rfl, hs, by show _ = _; simp, OB.made w w.heap.size _ 0 (Nat.le_refl _) (by omega) rfl, HB0⟩
  case round =>
    obtain ⟨k, m, hk, rfl, rfl, hm, HM, HO, HB⟩ := hrel
    by_cases hlt : k < n
    · go_wp2_with (at_builtin; go_must (refine wpList_app1 (w0 := w) rfl (.tmp 13) (.tmp 17) rfl w.heap.size _ _ rfl HO.out HB.out (Nat.le_refl _) _ (m % 256) (by omega) (by omega) rfl (by simp [digits]; omega) ?_); intro v' w1 ho1 hb1 _; have HO1 := Lib.hid ho1; have HB1 := Lib.hid hb1; clear ho1 hb1)
      go_roundw
      case rel => exact ⟨k + 1, m / 256, by omega, by go_num, by go_num, by omega, by show _ = _; rw [HM.out, Nat.div_div_eq_div_mul, Nat.pow_succ], by rw [digits_succ, ← HM.out]; exact HO1, HB1⟩
      case measure => simp [intOf]; omega
    · obtain rfl : k = n := by omega
      go_wp2_with fail
      go_ret
      exact ⟨_, rfl, HO.out, HB.out⟩
end Go.Proofs.Ytdghanhpeekbhaa
