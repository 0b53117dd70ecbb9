/-
  The walks of num.Put and skeinref01.Put, of the texts and of the signed numbers that are written.
-/
import Derived.Test.YtbmjiheclagfiaaH3
import Derived.WalkMore
import Derived.ScopeJumps
namespace Go.Proofs.Ytbmjiheclagfiaa
open Go.RowKit
set_option linter.unusedVariables false

/-- A number's bytes. -/
def putL (n : Nat) : List Nat := if n < 128 then [n] else (n % 128 + 128) :: putL (n / 128)
termination_by n
theorem putL_last (n : Nat) (h : n < 128) : putL n = [n] := by rw [putL, if_pos h]
theorem putL_more (n : Nat) (h : ¬ n < 128) : putL n = (n % 128 + 128) :: putL (n / 128) := by rw [putL, if_neg h]
theorem putL_pos (n : Nat) : 0 < (putL n).length := by
  by_cases h : n < 128
  · rw [putL_last n h]; simp
  · rw [putL_more n h]; simp
theorem putL_lt (k : Nat) : ∀ n, n < 128 ^ (k + 1) → (putL n).length ≤ k + 1 := by
  induction k with
  | zero => intro n h; rw [putL_last n (by simpa using h)]; simp
  | succ k ih =>
    intro n h
    by_cases h1 : n < 128
    · rw [putL_last n h1]; simp
    · rw [putL_more n h1, List.length_cons]
      have := ih (n / 128) (by rw [Nat.div_lt_iff_lt_mul (by omega)]; rw [Nat.pow_succ] at h; exact h)
      omega
theorem putL_ten (n : Nat) (h : n < 18446744073709551616) : (putL n).length ≤ 10 := putL_lt 9 n (by omega)

theorem or128 : ∀ x < 256, x ||| 128 = x % 128 + 128 := by decide +kernel
theorem or128_bits (n : Nat) : bits BinOp.or IntKind.u8 ((n : Int) % 256) 128 = ((n % 128 + 128 : Nat) : Int) := by
  have h := u8_or_nat (n % 256) 128 (by omega) (by omega)
  have e : ((n : Int) % 256) = ((n % 256 : Nat) : Int) := by omega
  rw [e]
  refine h.trans ?_
  rw [or128 _ (by omega)]
  congr 2
  omega

set_option maxRecDepth 100000 in
set_option maxHeartbeats 400000 in
theorem put_any (n : Nat) (w : World) (hn : Hid ((putL n).length ≤ 10)) :
    Calls Try.prog 60 #[.int .u64 (n : Int)] w fun e w' => ∃ v, e = .returned v ∧ OB w' w.heap.size v (putL n) ∧ Below w.heap.size w w' := by
  go_enter Try.func60, Try.ntmps60
  go_wp2
  refine wp_scope_jumps 0 (fun a' w' => ∃ (m : Nat) (v : Value) (pre : List Nat) (u4 u5 u6 u7 u8 u9 u10 u11 u12 u13 u14 u15 u16 u17 u18 : Value), a' = { tmps := #[.int .u64 (m : Int), undef, .slice none 0 0, v, u4, u5, u6, u7, u8, u9, u10, u11, u12, u13, u14, u15, u16, u17, u18], defers := [] } ∧ Hid (pre ++ putL m = putL n) ∧ Hid (OB w' w.heap.size v pre) ∧ Hid (Below w.heap.size w w')) (fun a' _ => (intOf (a'.tmps.getD 0 undef)).toNat) rfl ?_ ?_
  · by_cases h : n < 128
    · have hp := putL_last n h
      have HP := Lib.hid hp
      clear hp
      go_wp2
      go_step3
      go_wp2_with (at_builtin; go_must (refine wpList_app1 (w0 := w) rfl (.tmp 14) (.tmp 17) rfl w.heap.size _ [] rfl (OB.nil _ _) (Below.refl _ _) (Nat.le_refl _) _ n (by omega) (by omega) rfl (by simp) ?_); intro v' w1 ho1 hb1 _; have HO1 := Lib.hid ho1; have HB1 := Lib.hid hb1; clear ho1 hb1)
      simp only [Exit.jump]
      go_ret
      exact ⟨v', rfl, by rw [HP.out]; exact HO1.out, HB1.out⟩
    · have hp := putL_more n h
      have HP := Lib.hid hp
      clear hp
      go_wp2
      go_step3
      go_wp2_with (at_builtin; go_must (refine wpList_app1 (w0 := w) rfl (.tmp 6) (.tmp 10) rfl w.heap.size _ [] rfl (OB.nil _ _) (Below.refl _ _) (Nat.le_refl _) _ (n % 128 + 128) (or128_bits n) (by omega) rfl (by simp) ?_); intro v' w1 ho1 hb1 _; have HO1 := Lib.hid ho1; have HB1 := Lib.hid hb1; clear ho1 hb1)
      go_step3
      have e : ((n : Int) / 128) = ((n / 128 : Nat) : Int) := by omega
      rw [e]
      exact ⟨rfl, n / 128, v', [n % 128 + 128], _, _, _, _, _, _, _, _, _, _, _, _, _, _, _, rfl, by show _ = _; rw [HP.out]; rfl, HO1, HB1⟩
  · rintro a' w' ⟨m, v, pre, u4, u5, u6, u7, u8, u9, u10, u11, u12, u13, u14, u15, u16, u17, u18, rfl, HP, HO, HB⟩
    have hlen : pre.length + (putL m).length ≤ 10 := by
      have := HP.out
      have h2 := hn.out
      rw [← this, List.length_append] at h2
      exact h2
    have hpos := putL_pos m
    by_cases h : m < 128
    · have hp := putL_last m h
      have HL := Lib.hid hp
      clear hp
      go_wp2_with (at_builtin; go_must (refine wpList_app1 (w0 := w) rfl (.tmp 14) (.tmp 17) rfl w.heap.size _ _ rfl HO.out HB.out (Nat.le_refl _) _ m (by omega) (by omega) rfl (by omega) ?_); intro v' w1 ho1 hb1 _; have HO1 := Lib.hid ho1; have HB1 := Lib.hid hb1; clear ho1 hb1)
      simp only [Exit.jump]
      go_ret
      exact ⟨v', rfl, by rw [← HP.out, HL.out]; exact HO1.out, HB1.out⟩
    · have hp := putL_more m h
      have HL := Lib.hid hp
      clear hp
      go_wp2_with (at_builtin; go_must (refine wpList_app1 (w0 := w) rfl (.tmp 6) (.tmp 10) rfl w.heap.size _ _ rfl HO.out HB.out (Nat.le_refl _) _ (m % 128 + 128) (or128_bits m) (by omega) rfl (by omega) ?_); intro v' w1 ho1 hb1 _; have HO1 := Lib.hid ho1; have HB1 := Lib.hid hb1; clear ho1 hb1)
      go_step3
      have e : ((m : Int) / 128) = ((m / 128 : Nat) : Int) := by omega
      rw [e]
      refine ⟨rfl, ⟨m / 128, v', pre ++ [m % 128 + 128], _, _, _, _, _, _, _, _, _, _, _, _, _, _, _, rfl, ?_, HO1, HB1⟩, ?_⟩
      · show _ = _
        rw [← HP.out, HL.out, List.append_assoc]
        rfl
      · simp [intOf]
        omega
end Go.Proofs.Ytbmjiheclagfiaa
