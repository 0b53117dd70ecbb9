/-
  The walks of the rest of what writes: skeinref01.Put, PutS, Fold, PutText (both).
-/
import Derived.Test.YtaboknjokdgjeaaN1
namespace Go.Proofs.Ytaboknjokdgjeaa
open Go.RowKit
set_option linter.unusedVariables false

set_option maxHeartbeats 400000 in
theorem rput_any (n : Nat) (w : World) (hb : n ≤ 18446744073709551615) (hn : Hid ((putL n).length ≤ 10)) :
    Calls Try.prog 19 #[.int .u64 (n : Int)] w fun e w' => ∃ v, e = .returned v ∧ OB w' w.heap.size v (putL n) ∧ Below w.heap.size w w' := by
  go_enter Try.func19, Try.ntmps19
  go_wp2
  go_loopw [0, 3] (fun t v wr => ∃ (m : Nat) (pre : List Nat), t = .int .u64 (m : Int) ∧ m ≤ 18446744073709551615 ∧ Hid (pre ++ putL m = putL n) ∧ Hid (OB wr w.heap.size v pre) ∧ Hid (Below w.heap.size w wr)) (fun t v wr => (intOf t).toNat)
  case atStart => exact ⟨n, [], rfl, hb, rfl, OB.made w w.heap.size _ 0 (Nat.le_refl _) (by omega) rfl, (Below.refl _ _).alloc (Nat.le_refl _) _⟩
  case round =>
    obtain ⟨m, pre, rfl, hm, HP, HO, HB⟩ := hrel
    have hlen : pre.length + (putL m).length ≤ 10 := by
      have := HP.out
      have h2 := hn.out
      rw [← this, List.length_append] at h2
      exact h2
    have hpos := putL_pos m
    by_cases h : m < 128
    · have hp := putL_last m h
      have HL := Lib.hid hp
      clear hp
      go_wp2_with (at_builtin; go_must (refine wpList_app1 (w0 := w) rfl (.tmp 16) (.tmp 19) rfl w.heap.size _ _ rfl HO.out HB.out (Nat.le_refl _) _ m (by omega) (by omega) rfl (by omega) ?_); intro v' w1 ho1 hb1 _; have HO1 := Lib.hid ho1; have HB1 := Lib.hid hb1; clear ho1 hb1)
      go_ret
      exact ⟨_, rfl, by rw [← HP.out, HL.out]; exact HO1.out, HB1.out⟩
    · have hp := putL_more m h
      have HL := Lib.hid hp
      clear hp
      go_wp2_with (at_builtin; go_must (refine wpList_app1 (w0 := w) rfl (.tmp 7) (.tmp 12) rfl w.heap.size _ _ rfl HO.out HB.out (Nat.le_refl _) _ (m % 128 + 128) (by omega) (by omega) rfl (by omega) ?_); intro v' w1 ho1 hb1 _; have HO1 := Lib.hid ho1; have HB1 := Lib.hid hb1; clear ho1 hb1)
      go_roundw
      case rel => exact ⟨m / 128, pre ++ [m % 128 + 128], by go_num, by omega, by show _ = _; rw [← HP.out, HL.out, List.append_assoc]; rfl, HO1, HB1⟩
      case measure => simp [intOf]; omega

def foldN (v : Int) : Nat := if 0 ≤ v then (2 * v).toNat else (-2 * v - 1).toNat

theorem ret_int {k : IntKind} {a b : Int} (h : a = b) : Ending.returned (.int k a) = .returned (.int k b) := by rw [h]

set_option maxHeartbeats 400000 in
theorem fold_any (v : Int) (w : World) (h1 : -9223372036854775808 ≤ v) (h2 : v ≤ 9223372036854775807) :
    Calls Try.prog 21 #[.int .i64 v] w fun e w' => e = .returned (.int .u64 (foldN v : Int)) ∧ w = w' := by
  by_cases h : 0 ≤ v
  · have e : ((foldN v : Nat) : Int) = v * 2 := by unfold foldN; rw [if_pos h]; omega
    rw [e]
    clear e
    go_enter Try.func21, Try.ntmps21
    go_wp2
    go_ret
    exact ⟨rfl, rfl⟩
  · have e : ((foldN v : Nat) : Int) = -(v + 1) * 2 + 1 := by unfold foldN; rw [if_neg h]; omega
    rw [e]
    clear e
    go_enter Try.func21, Try.ntmps21
    go_wp2
    go_ret
    exact ⟨rfl, rfl⟩

theorem i64_notv (v : Int) (h1 : -9223372036854775808 ≤ v) (h2 : v ≤ 9223372036854775807) : bits .xor .i64 (-1) v = -1 - v := by
  show IntKind.i64.wrap ((BitVec.ofInt 64 (-1) ^^^ BitVec.ofInt 64 v).toNat : Int) = _
  have h3 : BitVec.ofInt 64 (-1) = BitVec.allOnes 64 := by decide
  rw [h3, BitVec.allOnes_xor, BitVec.toNat_not, BitVec.toNat_ofInt]
  simp [IntKind.wrap, IntKind.bits, IntKind.signed]
  omega

theorem putsNeg (v : Int) (h1 : -9223372036854775808 ≤ v) (h : ¬ 0 ≤ v) : bits BinOp.or IntKind.u64 (IntKind.u64.wrap (IntKind.u64.wrap (bits BinOp.xor IntKind.i64 (-1) v) * 2)) 1 = ((foldN v : Nat) : Int) := by
  rw [i64_notv v h1 (by omega)]
  obtain ⟨m, hm⟩ : ∃ m : Nat, -1 - v = (m : Int) := ⟨(-1 - v).toNat, by omega⟩
  rw [hm]
  have e1 : IntKind.u64.wrap (IntKind.u64.wrap (m : Int) * 2) = ((2 * m : Nat) : Int) := by
    rw [IntKind.wrap_u64, IntKind.wrap_u64]
    omega
  rw [e1]
  refine (u64_or_nat (2 * m) 1 (by omega) (by omega)).trans ?_
  rw [nat_join 1 (2 * m) 1 (by omega) (by omega)]
  unfold foldN
  rw [if_neg h]
  omega

set_option maxHeartbeats 400000 in
theorem puts_any (v : Int) (w : World) (h1 : -9223372036854775808 ≤ v) (h2 : v ≤ 9223372036854775807) (hn : Hid ((putL (foldN v)).length ≤ 10)) :
    Calls Try.prog 20 #[.int .i64 v] w fun e w' => ∃ v', e = .returned v' ∧ OB w' w.heap.size v' (putL (foldN v)) ∧ Below w.heap.size w w' := by
  by_cases h : 0 ≤ v
  · have e : v * 2 = ((foldN v : Nat) : Int) := by unfold foldN; rw [if_pos h]; omega
    have HE := Lib.hid e
    clear e
    go_enter Try.func20, Try.ntmps20
    go_wp2_with fail
    rw [HE.out]
    refine (put_any (foldN v) w hn).mono ?_
    rintro e w1 ⟨v1, rfl, ho1, hb1⟩
    go_wp2
    go_ret
    exact ⟨_, rfl, ho1, hb1⟩
  · have HE := Lib.hid (putsNeg v h1 h)
    go_enter Try.func20, Try.ntmps20
    go_wp2_with fail
    rw [HE.out]
    refine (put_any (foldN v) w hn).mono ?_
    rintro e w1 ⟨v1, rfl, ho1, hb1⟩
    go_wp2
    go_ret
    exact ⟨_, rfl, ho1, hb1⟩

set_option maxHeartbeats 400000 in
theorem rputText_any (v : Value) (l : List Nat) (w : World) (hv : RB w w.heap.size v l) (hl : l.length ≤ 140737488355200) :
    Calls Try.prog 16 #[v] w fun e w' => ∃ v', e = .returned v' ∧ OB w' w.heap.size v' (putL l.length ++ l) ∧ Below w.heap.size w w' := by
  have hn : (putL l.length).length ≤ 10 := putL_ten _ (by omega)
  have HN := Lib.hid hn
  have HV := Lib.hid hv
  obtain ⟨A, c, rfl, ha1, ha2, ha3, _⟩ := hv.open_
  clear hv hn
  go_enter Try.func16, Try.ntmps16
  go_wp2_with fail
  refine (rput_any l.length w (by omega) HN).mono ?_
  rintro e w1 ⟨v1, rfl, ho1, hb1⟩
  go_wp2_with fail
  refine (cat_any _ _ _ l w1 (ho1.rb (Nat.le_refl _)) ((HV.out.below hb1).more hb1.size) (by have := HN.out; omega)).mono ?_
  rintro e w2 ⟨v2, rfl, ho2, hb2⟩
  go_wp2
  go_ret
  exact ⟨_, rfl, ho2.base hb1.size, hb1.trans (hb2.mono hb1.size)⟩

set_option maxHeartbeats 400000 in
theorem putText_any (v : Value) (l : List Nat) (w : World) (hv : RB w w.heap.size v l) (hl : l.length ≤ 140737488355200) :
    Calls Try.prog 15 #[v] w fun e w' => ∃ v', e = .returned v' ∧ OB w' w.heap.size v' (putL l.length ++ l) ∧ Below w.heap.size w w' := by
  have hn : (putL l.length).length ≤ 10 := putL_ten _ (by omega)
  have HN := Lib.hid hn
  have HV := Lib.hid hv
  obtain ⟨A, c, rfl, ha1, ha2, ha3, _⟩ := hv.open_
  clear hv hn
  go_enter Try.func15, Try.ntmps15
  go_wp2_with fail
  refine (put_any l.length w HN).mono ?_
  rintro e w1 ⟨v1, rfl, ho1, hb1⟩
  have HO1 := Lib.hid ho1
  have HB1 := Lib.hid hb1
  clear ho1 hb1
  go_wp2_with (at_builtin; go_must (refine wpList_app rfl (.tmp 6) (.tmp 7) rfl w.heap.size _ _ rfl HO1.out w.heap.size _ l rfl (HV.out.below HB1.out) HB1.out.size (by have := HN.out; omega) ?_); intro v' w2 ho2 hg2 _; have HO2 := Lib.hid ho2; have HG2 := Lib.hid hg2; clear ho2 hg2)
  go_ret
  exact ⟨_, rfl, HO2.out, HB1.out.grown HG2.out HB1.out.size (fun k hk => (HO1.out.lt k hk).1)⟩
end Go.Proofs.Ytaboknjokdgjeaa
