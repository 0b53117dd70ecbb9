/-
  The walks of skeinref02: Sum, Seal, Open.
-/
import Derived.Test.YtdghanhpeekbhaaH3
import Derived.Test.YtdghanhpeekbhaaC3
namespace Go.Proofs.Ytdghanhpeekbhaa
open Go.RowKit
set_option linter.unusedVariables false

theorem crcReg_step (r x : Nat) : crcReg r [x] = crcSteps 8 (r ^^^ x) := rfl

set_option maxHeartbeats 1000000 in
theorem sum2_any (v : Value) (l : List Nat) (w : World) (B : Nat) (hv : RB w B v l) :
    Calls Try.prog 85 #[v] w fun e w' => e = .returned (.int .u32 (crcSum l : Nat)) ∧ w = w' := by
  have hreg : ∀ k, crcReg 4294967295 (l.take k) < 4294967296 := fun k => crcReg_lt _ _ (by omega) (fun x hx => hv.1 x (List.mem_of_mem_take hx))
  have HR := Lib.hid hreg
  obtain ⟨A, c, rfl, ha1, ha2, ha3, HA⟩ := hv.open_
  clear hv hreg
  go_enter Try.func85, Try.ntmps85
  go_wp2
  go_loop [3, 4] (fun r i => ∃ k : Nat, k ≤ l.length ∧ i = .int .i64 k ∧ r = .int .u32 (crcReg 4294967295 (l.take k) : Nat)) (fun r i => l.length - (intOf i).toNat)
  case atStart => exact ⟨0, Nat.zero_le _, rfl, rfl⟩
  case round =>
    obtain ⟨k, hk, rfl, rfl⟩ := hrel
    have hr := HR.out k
    by_cases hlt : k < l.length
    · obtain ⟨b1, o1, rfl, hb, hx, hx2⟩ := HA.out k hlt
      have hs : crcReg 4294967295 (l.take (k + 1)) = crcSteps 8 (crcReg 4294967295 (l.take k) ^^^ l[k]) := by
        rw [List.take_succ_eq_append_getElem hlt, crcReg_append, crcReg_step]
      have HS := Lib.hid hs
      obtain ⟨x, hx0⟩ : ∃ x, x = l[k] := ⟨_, rfl⟩
      rw [← hx0] at hx hx2 HS
      clear hs hx0
      obtain ⟨r, hr0⟩ : ∃ r, r = crcReg 4294967295 (l.take k) := ⟨_, rfl⟩
      rw [← hr0] at hr HS ⊢
      clear hr0
      have hxor : bits BinOp.xor IntKind.u32 (r : Int) (x : Int) = ((r ^^^ x : Nat) : Int) := u32_xor_nat r x hr (by omega)
      obtain ⟨q, hq0⟩ : ∃ q, q = r ^^^ x := ⟨_, rfl⟩
      rw [← hq0] at hxor HS
      have hq : q < 4294967296 := by rw [hq0]; exact xor32_lt _ _ hr (by omega)
      clear hq0
      go_wp2
      clear hxor
      go_loop [3, 5] (fun t i => ∃ j : Nat, j ≤ 8 ∧ i = .int .i64 j ∧ t = .int .u32 (crcSteps j q : Nat)) (fun _ i => 8 - (intOf i).toNat)
      case atStart => exact ⟨0, Nat.zero_le _, rfl, rfl⟩
      case round =>
        obtain ⟨j, hj, rfl, rfl⟩ := hrel
        by_cases hlt' : j < 8
        · have hl := crcSteps_lt j q hq
          have hst : crcSteps (j + 1) q = crcStep (crcSteps j q) := rfl
          have HST := Lib.hid hst
          clear hst
          obtain ⟨m, hm⟩ : ∃ m, m = crcSteps j q := ⟨_, rfl⟩
          rw [← hm] at hl HST ⊢
          clear hm
          rcases Nat.mod_two_eq_zero_or_one m with h2 | h2
          · have ht : ((m : Int) % 2 == 1) = false := by simp; omega
            have e : crcStep m = m / 2 := by simp [crcStep, h2]
            rw [e] at HST
            clear h2 e
            go_wp2
            go_round
            case rel => exact ⟨j + 1, by omega, by go_num, by rw [HST.out]; simp⟩
            case measure => simp [intOf]; omega
          · have ht : ((m : Int) % 2 == 1) = true := by simp; omega
            have e : crcStep m = (m / 2) ^^^ 3988292384 := by simp [crcStep, h2]
            rw [e] at HST
            clear h2 e
            go_wp2
            go_round
            case rel =>
              refine ⟨j + 1, by omega, by go_num, ?_⟩
              rw [HST.out]
              have := u32_xor_nat (m / 2) 3988292384 (by omega) (by omega)
              rw [← this]
              simp
            case measure => simp [intOf]; omega
        · obtain rfl : j = 8 := by omega
          go_wp2
          go_round
          case rel => exact ⟨k + 1, by omega, by go_num, by rw [HS.out]⟩
          case measure => simp [intOf]; omega
    · obtain rfl : k = l.length := by omega
      rw [List.take_length] at hr ⊢
      go_wp2
      go_ret
      refine ⟨?_, rfl⟩
      unfold crcSum
      have := u32_xor_nat _ 4294967295 hr (by omega)
      rw [← this]; rfl

theorem below_drewN {B : Nat} {w w' : World} (h : Below B w w') (n : Nat) : Below B w (w'.drewN n) := ⟨h.os, h.tape, h.output, h.size, h.block⟩

def digits (s k : Nat) : List Nat := (List.range k).map (fun i => s / 256 ^ i % 256)
theorem digits_succ (s k : Nat) : digits s (k + 1) = digits s k ++ [s / 256 ^ k % 256] := by simp [digits, List.range_succ]
theorem digits_four (s : Nat) (h : s < 4294967296) : digits s 4 = sumBytes s := by
  simp [digits, sumBytes, List.range_succ]
  omega

set_option maxHeartbeats 1000000 in
theorem seal2_any (v : Value) (l : List Nat) (w : World) (hv : RB w w.heap.size v l) (hl : l.length ≤ 140737488355000) :
    Calls Try.prog 64 #[v] w fun e w' => ∃ v', e = .returned v' ∧ OB w' w.heap.size v' (sumBytes (crcSum l) ++ l) ∧ Below w.heap.size w w' := by
  have hs := crcSum_lt l hv.1
  have HV := Lib.hid hv
  have hf := digits_four _ hs
  have HF := Lib.hid hf
  clear hv hf
  go_enter Try.func64, Try.ntmps64
  go_wp2_with fail
  refine (sum2_any v l _ w.heap.size (HV.out.alloc (Nat.le_refl _) _)).mono ?_
  rintro e w1 ⟨rfl, rfl⟩
  obtain ⟨s, hs0⟩ : ∃ s, s = crcSum l := ⟨_, rfl⟩
  rw [← hs0] at hs HF ⊢
  have HS0 := Lib.hid hs0
  clear hs0
  go_wp2
  go_loopw [3, 4, 5] (fun v t i wr => ∃ k m : Nat, k ≤ 4 ∧ i = .int .i64 k ∧ t = .int .u32 (m : Int) ∧ m < 4294967296 ∧ Hid (m = s / 256 ^ k) ∧ Hid (OB wr w.heap.size v (digits s k)) ∧ Hid (Below w.heap.size w wr)) (fun v t i wr => 4 - (intOf i).toNat)
  case atStart => exact ⟨0, s, Nat.zero_le _, rfl, rfl, hs, by show _ = _; simp, OB.made w w.heap.size _ 0 (Nat.le_refl _) (by omega) rfl, (Below.refl _ _).alloc (Nat.le_refl _) _⟩
  case round =>
    obtain ⟨k, m, hk, rfl, rfl, hm, HM, HO, HB⟩ := hrel
    by_cases hlt : k < 4
    · go_wp2_with (at_builtin; go_must (refine wpList_app1 (w0 := w) rfl (.tmp 13) (.tmp 17) rfl w.heap.size _ _ rfl HO.out HB.out (Nat.le_refl _) _ (m % 256) (by omega) (by omega) rfl (by simp [digits]; omega) ?_); intro v' w1 ho1 hb1 _; have HO1 := Lib.hid ho1; have HB1 := Lib.hid hb1; clear ho1 hb1)
      go_roundw
      case rel => exact ⟨k + 1, m / 256, by omega, by go_num, by go_num, by omega, by show _ = _; rw [HM.out, Nat.div_div_eq_div_mul, Nat.pow_succ], by rw [digits_succ, ← HM.out]; exact HO1, HB1⟩
      case measure => simp [intOf]; omega
    · obtain rfl : k = 4 := by omega
      rw [HF.out] at HO
      go_wp2_with fail
      refine (cat_any _ v (sumBytes s) l wr (HO.out.rb (Nat.le_refl _)) ((HV.out.below HB.out).more HB.out.size) (by simp [sumBytes]; omega)).mono ?_
      rintro e w2 ⟨v2, rfl, ho2, hb2⟩
      go_wp2
      go_ret
      exact ⟨_, rfl, by rw [← HS0.out]; exact ho2.base HB.out.size, HB.out.trans (hb2.mono HB.out.size)⟩

theorem openOk_same (l : List Nat) (h : 4 ≤ l.length) : sameB (sumBytes (crcSum (l.drop 4)) ++ l.drop 4) l = openOk l := by
  unfold sameB openOk
  rw [decide_eq_decide]
  constructor
  · intro e
    refine ⟨h, ?_⟩
    have := congrArg (List.take 4) e
    rw [List.take_append_of_le_length (by simp [sumBytes])] at this
    rw [← this, List.take_of_length_le (by simp [sumBytes])]
  · rintro ⟨_, e⟩
    rw [← e, List.take_append_drop]

theorem openL_eq (l : List Nat) : openL l = if openOk l then l.drop 4 else [] := rfl

set_option maxHeartbeats 1000000 in
theorem open2_any (v : Value) (l : List Nat) (w : World) (hv : RB w w.heap.size v l) (hl : l.length ≤ 140737488355000) :
    Calls Try.prog 31 #[v] w fun e w' => ∃ v', e = .returned (.tuple #[v', .bool (openOk l)]) ∧ OB w' w.heap.size v' (openL l) ∧ Below w.heap.size w w' := by
  have HV := Lib.hid hv
  obtain ⟨A, c, rfl, ha1, ha2, ha3, _⟩ := hv.open_
  clear hv
  by_cases h4 : 4 ≤ l.length
  · have hsame := openOk_same l h4
    have hp : piece l 4 l.length = l.drop 4 := by unfold piece; rw [List.take_length]
    rw [openL_eq]
    obtain ⟨ok, hok⟩ : ∃ ok, ok = openOk l := ⟨_, rfl⟩
    rw [← hok] at hsame ⊢
    have HSA := Lib.hid hsame
    have HP := Lib.hid hp
    clear hok hsame hp
    cases ok
    all_goals
      go_enter Try.func31, Try.ntmps31
      go_wp2_with fail
      refine (piece_any _ l 4 l.length w HV.out (by omega) (by omega)).mono ?_
      rintro e w1 ⟨v1, rfl, ho1, hb1⟩
      rw [HP.out] at ho1
      have HO1 := Lib.hid ho1
      have HB1 := Lib.hid hb1
      clear ho1 hb1
      go_wp2_with fail
      refine (seal2_any _ _ w1 (HO1.out.rb (Nat.le_refl _)) (by rw [List.length_drop]; omega)).mono ?_
      rintro e w2 ⟨v2, rfl, ho2, hb2⟩
      have HO2 := Lib.hid ho2
      have HB2 := Lib.hid hb2
      clear ho2 hb2
      go_wp2_with fail
      refine (same_any _ _ _ l w2 w2.heap.size (HO2.out.rb (Nat.le_refl _)) (((HV.out.below HB1.out).below (HB2.out.mono HB1.out.size)).more (Nat.le_trans HB1.out.size HB2.out.size))).mono ?_
      rw [HSA.out]
      rintro e w3 ⟨rfl, n, rfl⟩
      go_wp2
      go_ret2
      have hbb : Below w.heap.size w w2 := HB1.out.trans (HB2.out.mono HB1.out.size)
      have hdd : Below w.heap.size w (w2.drewN n) := below_drewN hbb n
      first
        | exact ⟨_, rfl, OB.nil _ _, hdd⟩
        | exact ⟨_, rfl, HO1.out.below (below_drewN HB2.out n), hdd⟩
  · have hok : openOk l = false := by unfold openOk; exact decide_eq_false (fun h => h4 h.1)
    rw [openL_eq, hok]
    clear hok
    go_enter Try.func31, Try.ntmps31
    go_wp2
    go_ret2
    exact ⟨_, rfl, OB.nil _ _, Below.refl _ _⟩
end Go.Proofs.Ytdghanhpeekbhaa
