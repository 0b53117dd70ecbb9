/-
  The walks of the rest of what writes: skeinref01.Put, PutS, Fold, PutText (both).
-/
import Derived.Test.YtbmjiheclagfiaaN1
namespace Go.Proofs.Ytbmjiheclagfiaa
open Go.RowKit
set_option linter.unusedVariables false

def foldN (v : Int) : Nat := if 0 ≤ v then (2 * v).toNat else (-2 * v - 1).toNat

theorem ret_int {k : IntKind} {a b : Int} (h : a = b) : Ending.returned (.int k a) = .returned (.int k b) := by rw [h]

theorem i64_notv (v : Int) (h1 : -9223372036854775808 ≤ v) (h2 : v ≤ 9223372036854775807) : bits .xor .i64 (-1) v = -1 - v := by
  show IntKind.i64.wrap ((BitVec.ofInt 64 (-1) ^^^ BitVec.ofInt 64 v).toNat : Int) = _
  have h3 : BitVec.ofInt 64 (-1) = BitVec.allOnes 64 := by decide
  rw [h3, BitVec.allOnes_xor, BitVec.toNat_not, BitVec.toNat_ofInt]
  simp [IntKind.wrap, IntKind.bits, IntKind.signed]
  omega

theorem putsNeg (v : Int) (h1 : -9223372036854775808 ≤ v) (h : ¬ 0 ≤ v) : bits BinOp.or IntKind.u64 (IntKind.u64.wrap (IntKind.u64.wrap (bits BinOp.xor IntKind.i64 (-1) v) * 2)) 1 = ((foldN v : Nat) : Int) := by
  rw [i64_notv v h1 (by omega)]
  obtain ⟨m, hm⟩ : ∃ m : Nat, -1 - v = (m : Int) := ⟨(-1 - v).toNat, by omega⟩
  rw [hm]
  have e1 : IntKind.u64.wrap (IntKind.u64.wrap (m : Int) * 2) = ((2 * m : Nat) : Int) := by
    rw [IntKind.wrap_u64, IntKind.wrap_u64]
    omega
  rw [e1]
  refine (u64_or_nat (2 * m) 1 (by omega) (by omega)).trans ?_
  rw [nat_join 1 (2 * m) 1 (by omega) (by omega)]
  unfold foldN
  rw [if_neg h]
  omega

set_option maxHeartbeats 400000 in
theorem puts_any (v : Int) (w : World) (h1 : -9223372036854775808 ≤ v) (h2 : v ≤ 9223372036854775807) (hn : Hid ((putL (foldN v)).length ≤ 10)) :
    Calls Try.prog 53 #[.int .i64 v] w fun e w' => ∃ v', e = .returned v' ∧ OB w' w.heap.size v' (putL (foldN v)) ∧ Below w.heap.size w w' := by
  by_cases h : 0 ≤ v
  · have e : v * 2 = ((foldN v : Nat) : Int) := by unfold foldN; rw [if_pos h]; omega
    have HE := Lib.hid e
    clear e
    go_enter Try.func53, Try.ntmps53
    go_wp2_with fail
    rw [HE.out]
    refine (put_any (foldN v) w hn).mono ?_
    rintro e w1 ⟨v1, rfl, ho1, hb1⟩
    go_wp2
    go_ret
    exact ⟨_, rfl, ho1, hb1⟩
  · have HE := Lib.hid (putsNeg v h1 h)
    go_enter Try.func53, Try.ntmps53
    go_wp2_with fail
    rw [HE.out]
    refine (put_any (foldN v) w hn).mono ?_
    rintro e w1 ⟨v1, rfl, ho1, hb1⟩
    go_wp2
    go_ret
    exact ⟨_, rfl, ho1, hb1⟩

set_option maxHeartbeats 400000 in
theorem putText_any (v : Value) (l : List Nat) (w : World) (hv : RB w w.heap.size v l) (hl : l.length ≤ 140737488355200) :
    Calls Try.prog 55 #[v] w fun e w' => ∃ v', e = .returned v' ∧ OB w' w.heap.size v' (putL l.length ++ l) ∧ Below w.heap.size w w' := by
  have hn : (putL l.length).length ≤ 10 := putL_ten _ (by omega)
  have HN := Lib.hid hn
  have HV := Lib.hid hv
  obtain ⟨A, c, rfl, ha1, ha2, ha3, _⟩ := hv.open_
  clear hv hn
  go_enter Try.func55, Try.ntmps55
  go_wp2_with fail
  refine (put_any l.length w HN).mono ?_
  rintro e w1 ⟨v1, rfl, ho1, hb1⟩
  have HO1 := Lib.hid ho1
  have HB1 := Lib.hid hb1
  clear ho1 hb1
  go_wp2_with (at_builtin; go_must (refine wpList_app rfl (.tmp 6) (.tmp 7) rfl w.heap.size _ _ rfl HO1.out w.heap.size _ l rfl (HV.out.below HB1.out) HB1.out.size (by have := HN.out; omega) ?_); intro v' w2 ho2 hg2 _; have HO2 := Lib.hid ho2; have HG2 := Lib.hid hg2; clear ho2 hg2)
  go_ret
  exact ⟨_, rfl, HO2.out, HB1.out.grown HG2.out HB1.out.size (fun k hk => (HO1.out.lt k hk).1)⟩
end Go.Proofs.Ytbmjiheclagfiaa
