/-
  The walks of num.Put and skeinref01.Put, of the texts and of the signed numbers that are written.
-/
import Derived.WalkMore
import Derived.ScopeJumps
import Derived.Laws.CopyOwn
import Derived.Handy
import Derived.Test.YtplkdcegfpiofaaZH1
namespace Go.Proofs.Ytplkdcegfpiofaa
open Go.RowKit
set_option linter.unusedVariables false

/-- A number's bytes. -/
def putL (n : Nat) : List Nat := if n < 128 then [n] else (n % 128 + 128) :: putL (n / 128)
termination_by n
theorem putL_last (n : Nat) (h : n < 128) : putL n = [n] := by rw [putL, if_pos h]
theorem putL_more (n : Nat) (h : ¬ n < 128) : putL n = (n % 128 + 128) :: putL (n / 128) := by rw [putL, if_neg h]
theorem putL_pos (n : Nat) : 0 < (putL n).length := by
  by_cases h : n < 128
  · rw [putL_last n h]; simp
  · rw [putL_more n h]; simp
theorem putL_lt (k : Nat) : ∀ n, n < 128 ^ (k + 1) → (putL n).length ≤ k + 1 := by
  induction k with
  | zero => intro n h; rw [putL_last n (by simpa using h)]; simp
  | succ k ih =>
    intro n h
    by_cases h1 : n < 128
    · rw [putL_last n h1]; simp
    · rw [putL_more n h1, List.length_cons]
      have := ih (n / 128) (by rw [Nat.div_lt_iff_lt_mul (by omega)]; rw [Nat.pow_succ] at h; exact h)
      omega
theorem putL_ten (n : Nat) (h : n < 18446744073709551616) : (putL n).length ≤ 10 := putL_lt 9 n (by omega)

theorem or128 : ∀ x < 256, x ||| 128 = x % 128 + 128 := by decide +kernel
theorem or128_bits (n : Nat) : bits BinOp.or IntKind.u8 ((n : Int) % 256) 128 = ((n % 128 + 128 : Nat) : Int) := by
  have h := u8_or_nat (n % 256) 128 (by omega) (by omega)
  have e : ((n : Int) % 256) = ((n % 256 : Nat) : Int) := by omega
  rw [e]
  refine h.trans ?_
  rw [or128 _ (by omega)]
  congr 2
  omega

set_option maxRecDepth 100000 in
set_option maxHeartbeats 400000 in
theorem put_any (n : Nat) (w : World) (hn : Hid ((putL n).length ≤ 10)) :
    Calls Try.prog 116 #[.int .u64 (n : Int)] w fun e w' => ∃ v, e = .returned v ∧ OB w' w.heap.size v (putL n) ∧ Below w.heap.size w w' := by
  go_enter Try.func116, Try.ntmps116
  go_wp2
  refine wp_scope_jumps 0 (fun a' w' => ∃ (m : Nat) (v : Value) (pre : List Nat) (u4 u5 u6 u7 u8 u9 u10 u11 u12 u13 u14 u15 u16 u17 u18 : Value), a' = { tmps := #[.int .u64 (m : Int), undef, .slice none 0 0, v, u4, u5, u6, u7, u8, u9, u10, u11, u12, u13, u14, u15, u16, u17, u18], defers := [] } ∧ Hid (pre ++ putL m = putL n) ∧ Hid (OB w' w.heap.size v pre) ∧ Hid (Below w.heap.size w w')) (fun a' _ => (intOf (a'.tmps.getD 0 undef)).toNat) rfl ?_ ?_
  · by_cases h : n < 128
    · have hp := putL_last n h
      have HP := Lib.hid hp
      clear hp
      go_wp2
      go_step3
      go_wp2_with (at_builtin; go_must (refine wpList_app1 (w0 := w) rfl (.tmp 14) (.tmp 17) rfl w.heap.size _ [] rfl (OB.nil _ _) (Below.refl _ _) (Nat.le_refl _) _ n (by omega) (by omega) rfl (by simp) ?_); intro v' w1 ho1 hb1 _; have HO1 := Lib.hid ho1; have HB1 := Lib.hid hb1; clear ho1 hb1)
      simp only [Exit.jump]
      go_ret
      exact ⟨v', rfl, by rw [HP.out]; exact HO1.out, HB1.out⟩
    · have hp := putL_more n h
      have HP := Lib.hid hp
      clear hp
      go_wp2
      go_step3
      go_wp2_with (at_builtin; go_must (refine wpList_app1 (w0 := w) rfl (.tmp 6) (.tmp 10) rfl w.heap.size _ [] rfl (OB.nil _ _) (Below.refl _ _) (Nat.le_refl _) _ (n % 128 + 128) (or128_bits n) (by omega) rfl (by simp) ?_); intro v' w1 ho1 hb1 _; have HO1 := Lib.hid ho1; have HB1 := Lib.hid hb1; clear ho1 hb1)
      go_step3
      have e : ((n : Int) / 128) = ((n / 128 : Nat) : Int) := by omega
      rw [e]
      exact ⟨rfl, n / 128, v', [n % 128 + 128], _, _, _, _, _, _, _, _, _, _, _, _, _, _, _, rfl, by show _ = _; rw [HP.out]; rfl, HO1, HB1⟩
  · rintro a' w' ⟨m, v, pre, u4, u5, u6, u7, u8, u9, u10, u11, u12, u13, u14, u15, u16, u17, u18, rfl, HP, HO, HB⟩
    have hlen : pre.length + (putL m).length ≤ 10 := by
      have := HP.out
      have h2 := hn.out
      rw [← this, List.length_append] at h2
      exact h2
    have hpos := putL_pos m
    by_cases h : m < 128
    · have hp := putL_last m h
      have HL := Lib.hid hp
      clear hp
      go_wp2_with (at_builtin; go_must (refine wpList_app1 (w0 := w) rfl (.tmp 14) (.tmp 17) rfl w.heap.size _ _ rfl HO.out HB.out (Nat.le_refl _) _ m (by omega) (by omega) rfl (by omega) ?_); intro v' w1 ho1 hb1 _; have HO1 := Lib.hid ho1; have HB1 := Lib.hid hb1; clear ho1 hb1)
      simp only [Exit.jump]
      go_ret
      exact ⟨v', rfl, by rw [← HP.out, HL.out]; exact HO1.out, HB1.out⟩
    · have hp := putL_more m h
      have HL := Lib.hid hp
      clear hp
      go_wp2_with (at_builtin; go_must (refine wpList_app1 (w0 := w) rfl (.tmp 6) (.tmp 10) rfl w.heap.size _ _ rfl HO.out HB.out (Nat.le_refl _) _ (m % 128 + 128) (or128_bits m) (by omega) rfl (by omega) ?_); intro v' w1 ho1 hb1 _; have HO1 := Lib.hid ho1; have HB1 := Lib.hid hb1; clear ho1 hb1)
      go_step3
      have e : ((m : Int) / 128) = ((m / 128 : Nat) : Int) := by omega
      rw [e]
      refine ⟨rfl, ⟨m / 128, v', pre ++ [m % 128 + 128], _, _, _, _, _, _, _, _, _, _, _, _, _, _, _, rfl, ?_, HO1, HB1⟩, ?_⟩
      · show _ = _
        rw [← HP.out, HL.out, List.append_assoc]
        rfl
      · simp [intOf]
        omega
end Go.Proofs.Ytplkdcegfpiofaa

/-
  The walks of the rest of what writes: skeinref01.Put, PutS, Fold, PutText (both).
-/
namespace Go.Proofs.Ytplkdcegfpiofaa
open Go.RowKit
set_option linter.unusedVariables false

set_option maxHeartbeats 400000 in
theorem rput_any (n : Nat) (w : World) (hb : n ≤ 18446744073709551615) (hn : Hid ((putL n).length ≤ 10)) :
    Calls Try.prog 136 #[.int .u64 (n : Int)] w fun e w' => ∃ v, e = .returned v ∧ OB w' w.heap.size v (putL n) ∧ Below w.heap.size w w' := by
  go_enter Try.func136, Try.ntmps136
  go_wp2
  go_loopw [0, 3] (fun t v wr => ∃ (m : Nat) (pre : List Nat), t = .int .u64 (m : Int) ∧ m ≤ 18446744073709551615 ∧ Hid (pre ++ putL m = putL n) ∧ Hid (OB wr w.heap.size v pre) ∧ Hid (Below w.heap.size w wr)) (fun t v wr => (intOf t).toNat)
  case atStart => exact ⟨n, [], rfl, hb, rfl, OB.made w w.heap.size _ 0 (Nat.le_refl _) (by omega) rfl, (Below.refl _ _).alloc (Nat.le_refl _) _⟩
  case round =>
    obtain ⟨m, pre, rfl, hm, HP, HO, HB⟩ := hrel
    have hlen : pre.length + (putL m).length ≤ 10 := by
      have := HP.out
      have h2 := hn.out
      rw [← this, List.length_append] at h2
      exact h2
    have hpos := putL_pos m
    by_cases h : m < 128
    · have hp := putL_last m h
      have HL := Lib.hid hp
      clear hp
      go_wp2_with (at_builtin; go_must (refine wpList_app1 (w0 := w) rfl (.tmp 16) (.tmp 19) rfl w.heap.size _ _ rfl HO.out HB.out (Nat.le_refl _) _ m (by omega) (by omega) rfl (by omega) ?_); intro v' w1 ho1 hb1 _; have HO1 := Lib.hid ho1; have HB1 := Lib.hid hb1; clear ho1 hb1)
      go_ret
      exact ⟨_, rfl, by rw [← HP.out, HL.out]; exact HO1.out, HB1.out⟩
    · have hp := putL_more m h
      have HL := Lib.hid hp
      clear hp
      go_wp2_with (at_builtin; go_must (refine wpList_app1 (w0 := w) rfl (.tmp 7) (.tmp 12) rfl w.heap.size _ _ rfl HO.out HB.out (Nat.le_refl _) _ (m % 128 + 128) (by omega) (by omega) rfl (by omega) ?_); intro v' w1 ho1 hb1 _; have HO1 := Lib.hid ho1; have HB1 := Lib.hid hb1; clear ho1 hb1)
      go_roundw
      case rel => exact ⟨m / 128, pre ++ [m % 128 + 128], by go_num, by omega, by show _ = _; rw [← HP.out, HL.out, List.append_assoc]; rfl, HO1, HB1⟩
      case measure => simp [intOf]; omega

def foldN (v : Int) : Nat := if 0 ≤ v then (2 * v).toNat else (-2 * v - 1).toNat

theorem ret_int {k : IntKind} {a b : Int} (h : a = b) : Ending.returned (.int k a) = .returned (.int k b) := by rw [h]

theorem i64_notv (v : Int) (h1 : -9223372036854775808 ≤ v) (h2 : v ≤ 9223372036854775807) : bits .xor .i64 (-1) v = -1 - v := by
  show IntKind.i64.wrap ((BitVec.ofInt 64 (-1) ^^^ BitVec.ofInt 64 v).toNat : Int) = _
  have h3 : BitVec.ofInt 64 (-1) = BitVec.allOnes 64 := by decide
  rw [h3, BitVec.allOnes_xor, BitVec.toNat_not, BitVec.toNat_ofInt]
  simp [IntKind.wrap, IntKind.bits, IntKind.signed]
  omega

theorem putsNeg (v : Int) (h1 : -9223372036854775808 ≤ v) (h : ¬ 0 ≤ v) : bits BinOp.or IntKind.u64 (IntKind.u64.wrap (IntKind.u64.wrap (bits BinOp.xor IntKind.i64 (-1) v) * 2)) 1 = ((foldN v : Nat) : Int) := by
  rw [i64_notv v h1 (by omega)]
  obtain ⟨m, hm⟩ : ∃ m : Nat, -1 - v = (m : Int) := ⟨(-1 - v).toNat, by omega⟩
  rw [hm]
  have e1 : IntKind.u64.wrap (IntKind.u64.wrap (m : Int) * 2) = ((2 * m : Nat) : Int) := by
    rw [IntKind.wrap_u64, IntKind.wrap_u64]
    omega
  rw [e1]
  refine (u64_or_nat (2 * m) 1 (by omega) (by omega)).trans ?_
  rw [nat_join 1 (2 * m) 1 (by omega) (by omega)]
  unfold foldN
  rw [if_neg h]
  omega

set_option maxHeartbeats 400000 in
theorem rputText_any (v : Value) (l : List Nat) (w : World) (hv : RB w w.heap.size v l) (hl : l.length ≤ 140737488355200) :
    Calls Try.prog 124 #[v] w fun e w' => ∃ v', e = .returned v' ∧ OB w' w.heap.size v' (putL l.length ++ l) ∧ Below w.heap.size w w' := by
  have hn : (putL l.length).length ≤ 10 := putL_ten _ (by omega)
  have HN := Lib.hid hn
  have HV := Lib.hid hv
  obtain ⟨A, c, rfl, ha1, ha2, ha3, _⟩ := hv.open_
  clear hv hn
  go_enter Try.func124, Try.ntmps124
  go_wp2_with fail
  refine (rput_any l.length w (by omega) HN).mono ?_
  rintro e w1 ⟨v1, rfl, ho1, hb1⟩
  go_wp2_with fail
  refine (cat_any _ _ _ l w1 (ho1.rb (Nat.le_refl _)) ((HV.out.below hb1).more hb1.size) (by have := HN.out; omega)).mono ?_
  rintro e w2 ⟨v2, rfl, ho2, hb2⟩
  go_wp2
  go_ret
  exact ⟨_, rfl, ho2.base hb1.size, hb1.trans (hb2.mono hb1.size)⟩

set_option maxHeartbeats 400000 in
theorem putText_any (v : Value) (l : List Nat) (w : World) (hv : RB w w.heap.size v l) (hl : l.length ≤ 140737488355200) :
    Calls Try.prog 80 #[v] w fun e w' => ∃ v', e = .returned v' ∧ OB w' w.heap.size v' (putL l.length ++ l) ∧ Below w.heap.size w w' := by
  have hn : (putL l.length).length ≤ 10 := putL_ten _ (by omega)
  have HN := Lib.hid hn
  have HV := Lib.hid hv
  obtain ⟨A, c, rfl, ha1, ha2, ha3, _⟩ := hv.open_
  clear hv hn
  go_enter Try.func80, Try.ntmps80
  go_wp2_with fail
  refine (put_any l.length w HN).mono ?_
  rintro e w1 ⟨v1, rfl, ho1, hb1⟩
  have HO1 := Lib.hid ho1
  have HB1 := Lib.hid hb1
  clear ho1 hb1
  go_wp2_with (at_builtin; go_must (refine wpList_app rfl (.tmp 6) (.tmp 7) rfl w.heap.size _ _ rfl HO1.out w.heap.size _ l rfl (HV.out.below HB1.out) HB1.out.size (by have := HN.out; omega) ?_); intro v' w2 ho2 hg2 _; have HO2 := Lib.hid ho2; have HG2 := Lib.hid hg2; clear ho2 hg2)
  go_ret
  exact ⟨_, rfl, HO2.out, HB1.out.grown HG2.out HB1.out.size (fun k hk => (HO1.out.lt k hk).1)⟩
end Go.Proofs.Ytplkdcegfpiofaa

/-
  The walks of what reads numbers: skeinref01.Get, num.Get.
-/
namespace Go.Proofs.Ytplkdcegfpiofaa
open Go.RowKit
set_option linter.unusedVariables false

/-- A number read from place p on: the number, the place behind it, the error. l: what is left from byte i of it on; u: what has been read. -/
def getGo (p : Nat) : List Nat → Nat → Nat → Nat × Nat × Nat
  | [], _, _ => (0, 0, 2)
  | c :: r, i, u => if i = 9 ∧ 1 < c then (0, 0, 10) else if 128 ≤ c then getGo p r (i + 1) (u + c % 128 * 128 ^ i) else if c = 0 ∧ 0 < i then (0, 0, 5) else (u + c % 128 * 128 ^ i, p + i + 1, 0)
def getR (l : List Nat) (p : Nat) : Nat × Nat × Nat := getGo p (l.drop p) 0 0

theorem getGo_end (p : Nat) (l : List Nat) (i u : Nat) (h : l.length ≤ p + i) : getGo p (l.drop (p + i)) i u = (0, 0, 2) := by
  rw [List.drop_of_length_le h]; rfl
theorem getGo_wide (p : Nat) (l : List Nat) (i u : Nat) (h : p + i < l.length) (h9 : i = 9) (hc : 1 < l[p + i]) : getGo p (l.drop (p + i)) i u = (0, 0, 10) := by
  rw [List.drop_eq_getElem_cons h, getGo, if_pos ⟨h9, hc⟩]
theorem getGo_more (p : Nat) (l : List Nat) (i u : Nat) (h : p + i < l.length) (h9 : ¬ (i = 9 ∧ 1 < l[p + i])) (hc : 128 ≤ l[p + i]) :
    getGo p (l.drop (p + i)) i u = getGo p (l.drop (p + (i + 1))) (i + 1) (u + l[p + i] % 128 * 128 ^ i) := by
  rw [List.drop_eq_getElem_cons h, getGo, if_neg h9, if_pos hc]; rfl
theorem getGo_form (p : Nat) (l : List Nat) (i u : Nat) (h : p + i < l.length) (hc : l[p + i] = 0) (hi : 0 < i) : getGo p (l.drop (p + i)) i u = (0, 0, 5) := by
  rw [List.drop_eq_getElem_cons h, getGo, if_neg (by omega), if_neg (by omega), if_pos ⟨hc, hi⟩]
theorem getGo_done (p : Nat) (l : List Nat) (i u : Nat) (h : p + i < l.length) (h9 : ¬ (i = 9 ∧ 1 < l[p + i])) (hc : l[p + i] < 128) (hz : ¬ (l[p + i] = 0 ∧ 0 < i)) :
    getGo p (l.drop (p + i)) i u = (u + l[p + i] % 128 * 128 ^ i, p + i + 1, 0) := by
  rw [List.drop_eq_getElem_cons h, getGo, if_neg h9, if_neg (by omega), if_neg hz]

theorem pow128_le (i : Nat) (h : i ≤ 9) : 128 ^ i ≤ 9223372036854775808 := Nat.le_trans (Nat.pow_le_pow_right (by omega) h) (by decide)
theorem pow128_le8 (i : Nat) (h : i ≤ 8) : 128 ^ i ≤ 72057594037927936 := Nat.le_trans (Nat.pow_le_pow_right (by omega) h) (by decide)

/-- What a byte adds fits. -/
theorem getFits (i x u m : Nat) (hi : i ≤ 9) (h9 : ¬ (i = 9 ∧ 1 < x)) (hm : m = 128 ^ i) (hu : u < 128 ^ i) : x % 128 * m + u < 18446744073709551616 ∧ (u + x % 128 * m < 128 ^ (i + 1)) := by
  subst hm
  have h1 : u + x % 128 * 128 ^ i < 128 ^ (i + 1) := by
    have : x % 128 * 128 ^ i ≤ 127 * 128 ^ i := Nat.mul_le_mul_right _ (by omega)
    rw [Nat.pow_succ]
    omega
  refine ⟨?_, h1⟩
  by_cases h : i = 9
  · subst h
    have hx : x ≤ 1 := by omega
    have : x % 128 * 128 ^ 9 ≤ 1 * 128 ^ 9 := Nat.mul_le_mul_right _ (by omega)
    omega
  · have := pow128_le (i + 1) (by omega)
    omega

theorem res3 {a b c a' b' c' : Nat} (h : ((a, b, c) : Nat × Nat × Nat) = (a', b', c')) : a = a' ∧ b = b' ∧ c = c' := by simpa using h
end Go.Proofs.Ytplkdcegfpiofaa

/-
  The walk of num.Get.
-/
namespace Go.Proofs.Ytplkdcegfpiofaa
open Go.RowKit
set_option linter.unusedVariables false

theorem orStep (u x i : Nat) (hi : i ≤ 9) (h9 : ¬ (i = 9 ∧ 1 < x)) (hu : u < 128 ^ i) : bits BinOp.or IntKind.u64 (u : Int) (IntKind.u64.wrap ((x : Int) % 128 * 2 ^ (7 * i))) = ((u + x % 128 * 128 ^ i : Nat) : Int) := by
  have hp : (2 : Nat) ^ (7 * i) = 128 ^ i := by rw [Nat.pow_mul]
  obtain ⟨h1, h2⟩ := getFits i x u _ hi h9 rfl hu
  have e : ((x : Int) % 128 * 2 ^ (7 * i)) = ((x % 128 * 128 ^ i : Nat) : Int) := by rw [← hp]; simp
  rw [e]
  have hm : (x % 128 * 128 ^ i) % 2 ^ (7 * i) = 0 := by rw [hp]; exact Nat.mul_mod_left _ _
  generalize x % 128 * 128 ^ i = y at *
  rw [IntKind.wrap_u64, show ((y : Nat) : Int) % 18446744073709551616 = (y : Int) by omega]
  refine (u64_or_nat u y (by omega) (by omega)).trans ?_
  rw [Nat.or_comm, nat_join (7 * i) y u hm (by rw [hp]; exact hu), Nat.add_comm]

/-- What holds at the label. -/
def GetJ (A : Option Addr) (c p ru rn re : Nat) (l : List Nat) (w : World) (a' : Act) (w' : World) : Prop :=
  w = w' ∧ ∃ (i u : Nat) (u9 u10 u11 u12 u13 u14 u15 u16 u17 u18 u19 u20 u21 u22 u23 u24 u25 u26 u27 u28 u29 u30 u31 u32 u33 u34 u35 u36 u37 u38 u39 u40 u41 u42 u43 u44 u45 u46 u47 u48 u49 u50 u51 u52 u53 u54 u55 u56 u57 : Value), a' = { tmps := #[.slice A l.length c, .int .i64 (p : Int), undef, undef, .int .u64 0, .int .i64 0, .int .i64 0, .int .u64 (u : Int), .int .i64 (i : Int), u9, u10, u11, u12, u13, u14, u15, u16, u17, u18, u19, u20, u21, u22, u23, u24, u25, u26, u27, u28, u29, u30, u31, u32, u33, u34, u35, u36, u37, u38, u39, u40, u41, u42, u43, u44, u45, u46, u47, u48, u49, u50, u51, u52, u53, u54, u55, u56, u57], defers := [] } ∧ i ≤ 9 ∧ p + i ≤ l.length ∧ Hid (u < 128 ^ i) ∧ Hid (getGo p (l.drop (p + i)) i u = (ru, rn, re))

set_option maxRecDepth 100000 in
set_option maxHeartbeats 2000000 in
theorem get_ok (v : Value) (l : List Nat) (p : Nat) (w : World) (B : Nat) (hv : RB w B v l) (hp : p ≤ l.length) (ru rn re : Nat) (hr : getR l p = (ru, rn, re)) :
    Calls Try.prog 135 #[v, .int .i64 (p : Int)] w fun e w' => e = .returned (.tuple #[.int .u64 (ru : Int), .int .i64 (rn : Int), .int .i64 (re : Int)]) ∧ w = w' := by
  obtain ⟨A, c, rfl, ha1, ha2, ha3, HA⟩ := hv.open_
  clear hv
  have HR := Lib.hid hr
  clear hr
  have d1 : decide ((p : Int) < 0) = false := by simp
  have d2 : decide (l.length < p) = false := by simp; omega
  go_enter Try.func135, Try.ntmps135
  go_wp2
  refine wp_scope_jumps 0 (GetJ A c p ru rn re l w) (fun a' _ => 10 - (intOf (a'.tmps.getD 8 undef)).toNat) rfl ?_ ?_
  · go_wp2
    go_step3
    obtain ⟨i, hi0⟩ : ∃ i : Nat, i = 0 := ⟨0, rfl⟩
    obtain ⟨u, hu0⟩ : ∃ u : Nat, u = 0 := ⟨0, rfl⟩
    have hi : i ≤ 9 := by omega
    have hpi : p + i ≤ l.length := by omega
    have HU : Hid (u < 128 ^ i) := by show _ < _; rw [hi0, hu0]; simp
    have HG : Hid (getGo p (l.drop (p + i)) i u = (ru, rn, re)) := by show _ = _; rw [hi0, hu0]; exact HR.out
    have e : ({ tmps := #[.slice A l.length c, .int .i64 (p : Int), undef, undef, .int .u64 0, .int .i64 0, .int .i64 0, .int .u64 (u : Int), .int .i64 (i : Int), undef, .int .i64 (p : Int), .bool false, .bool false, .int .i64 (p : Int), .slice A l.length c, .int .i64 (l.length : Int), .bool false, .bool false, undef, undef, undef, undef, undef, undef, undef, undef, undef, undef, undef, undef, undef, undef, undef, undef, undef, undef, undef, undef, undef, undef, undef, undef, undef, undef, undef, undef, undef, undef, undef, undef, undef, undef, undef, undef, undef, undef, undef, undef], defers := [] } : Act) = { tmps := #[.slice A l.length c, .int .i64 (p : Int), undef, undef, .int .u64 0, .int .i64 0, .int .i64 0, .int .u64 0, .int .i64 0, undef, .int .i64 (p : Int), .bool false, .bool false, .int .i64 (p : Int), .slice A l.length c, .int .i64 (l.length : Int), .bool false, .bool false, undef, undef, undef, undef, undef, undef, undef, undef, undef, undef, undef, undef, undef, undef, undef, undef, undef, undef, undef, undef, undef, undef, undef, undef, undef, undef, undef, undef, undef, undef, undef, undef, undef, undef, undef, undef, undef, undef, undef, undef], defers := [] } := by rw [hi0, hu0]; rfl
    rw [← e]
    clear e hi0 hu0
    have HRES : Hid (∀ a b c : Nat, getGo p (l.drop (p + i)) i u = (a, b, c) → ru = a ∧ rn = b ∧ re = c) := fun a b c h => res3 (HG.out.symm.trans h)
    by_cases hlt : p + i < l.length
    · obtain ⟨b1, o1, rfl, hb, hx, hx2⟩ := HA.out (p + i) hlt
      obtain ⟨x, hx0⟩ : ∃ x, x = l[p + i] := ⟨_, rfl⟩
      rw [← hx0] at hx hx2
      have HX := Lib.hid hx0
      clear hx0
      have hend : ((i : Int) == (l.length : Int) - (p : Int)) = false := by simp; omega
      by_cases hw : 9 ≤ i ∧ 1 < x
      · obtain ⟨hw1, hw2⟩ := hw
        obtain ⟨rfl, rfl, rfl⟩ := HRES.out _ _ _ (getGo_wide p l i u hlt (by omega) (by rw [← HX.out]; exact hw2))
        have h9b : ((i : Int) == 9) = true := by simp; omega
        clear HRES HG HX HU
        go_wp2
        simp only [Exit.jump]
        go_ret3
        exact ⟨rfl, rfl⟩
      · obtain ⟨y, hy0⟩ : ∃ y, y = u + x % 128 * 128 ^ i := ⟨_, rfl⟩
        have eo : bits BinOp.or IntKind.u64 (u : Int) (IntKind.u64.wrap ((x : Int) % 128 * 2 ^ (7 * i))) = (y : Int) := by rw [hy0]; exact orStep u x i hi (by omega) HU.out
        have HF2 : Hid (y < 128 ^ (i + 1)) := by show _ < _; rw [hy0]; exact (getFits i x u _ hi (by omega) rfl HU.out).2
        have HY := Lib.hid hy0
        clear hy0
        by_cases hc : 128 ≤ x
        · have h8 : i ≤ 8 := by omega
          have h9b : ((i : Int) == 9) = false := by simp; omega
          have HN : Hid (getGo p (l.drop (p + (i + 1))) (i + 1) y = (ru, rn, re)) := by
            show _ = _
            rw [← HG.out, getGo_more p l i u hlt (by rw [← HX.out]; omega) (by rw [← HX.out]; exact hc), ← HX.out, ← HY.out]
          clear hw HRES HG HU HX HY
          go_wp2
          go_step3
          have e1 : ((i : Int) + 1) = ((i + 1 : Nat) : Int) := by omega
          rw [e1]
          exact ⟨rfl, rfl, i + 1, _, _, _, _, _, _, _, _, _, _, _, _, _, _, _, _, _, _, _, _, _, _, _, _, _, _, _, _, _, _, _, _, _, _, _, _, _, _, _, _, _, _, _, _, _, _, _, _, _, _, rfl, by omega, by omega, HF2, HN⟩
        · have hc' : x < 128 := by omega
          by_cases h8 : i ≤ 8
          · have h9b : ((i : Int) == 9) = false := by simp; omega
            rcases Nat.eq_zero_or_pos x with hz | hz
            · rcases Nat.eq_zero_or_pos i with hi0 | hi0
              · obtain ⟨hru, rfl, rfl⟩ := HRES.out _ _ _ (getGo_done p l i u hlt (by rw [← HX.out]; omega) (by rw [← HX.out]; omega) (by omega))
                have hzb : ((x : Int) == 0) = true := by simp; omega
                have hib : ((i : Int) + 1) ≤ 1 := by omega
                have HYX : Hid (ru = y) := by show _ = _; rw [hru, HY.out, HX.out]
                clear HRES HG HU HX HY hz hi0 hru hw HF2
                go_wp2
                simp only [Exit.jump]
                go_ret3
                exact ⟨by rw [HYX.out]; simp [Int.add_assoc], rfl⟩
              · obtain ⟨rfl, rfl, rfl⟩ := HRES.out _ _ _ (getGo_form p l i u hlt (by rw [← HX.out]; exact hz) hi0)
                have hzb : ((x : Int) == 0) = true := by simp; omega
                clear HRES HG HU HX HY hz hw HF2
                go_wp2
                simp only [Exit.jump]
                go_ret3
                exact ⟨rfl, rfl⟩
            · obtain ⟨hru, rfl, rfl⟩ := HRES.out _ _ _ (getGo_done p l i u hlt (by rw [← HX.out]; omega) (by rw [← HX.out]; omega) (by rw [← HX.out]; omega))
              have hzb : ((x : Int) == 0) = false := by simp; omega
              have HYX : Hid (ru = y) := by show _ = _; rw [hru, HY.out, HX.out]
              clear HRES HG HU HX HY hru hw HF2
              go_wp2
              simp only [Exit.jump]
              go_ret3
              exact ⟨by rw [HYX.out]; simp [Int.add_assoc], rfl⟩
          · have h9b : ((i : Int) == 9) = true := by simp; omega
            have hx1 : x ≤ 1 := by omega
            have hi9 : 9 ≤ i := by omega
            rcases Nat.eq_zero_or_pos x with hz | hz
            · obtain ⟨rfl, rfl, rfl⟩ := HRES.out _ _ _ (getGo_form p l i u hlt (by rw [← HX.out]; exact hz) (by omega))
              have hzb : ((x : Int) == 0) = true := by simp; omega
              clear HRES HG HU HX HY hz hw HF2
              go_wp2
              simp only [Exit.jump]
              go_ret3
              exact ⟨rfl, rfl⟩
            · obtain ⟨hru, rfl, rfl⟩ := HRES.out _ _ _ (getGo_done p l i u hlt (by rw [← HX.out]; omega) (by rw [← HX.out]; omega) (by rw [← HX.out]; omega))
              have hzb : ((x : Int) == 0) = false := by simp; omega
              have HYX : Hid (ru = y) := by show _ = _; rw [hru, HY.out, HX.out]
              clear HRES HG HU HX HY hru hw HF2
              go_wp2
              simp only [Exit.jump]
              go_ret3
              exact ⟨by rw [HYX.out]; simp [Int.add_assoc], rfl⟩
    · obtain ⟨rfl, rfl, rfl⟩ := res3 (HG.out.symm.trans (getGo_end p l i u (by omega)))
      have hend : ((i : Int) == (l.length : Int) - (p : Int)) = true := by simp; omega
      clear HG HU HRES
      go_wp2
      simp only [Exit.jump]
      go_ret3
      exact ⟨rfl, rfl⟩
  · rintro a' w' ⟨rfl, i, u, u9, u10, u11, u12, u13, u14, u15, u16, u17, u18, u19, u20, u21, u22, u23, u24, u25, u26, u27, u28, u29, u30, u31, u32, u33, u34, u35, u36, u37, u38, u39, u40, u41, u42, u43, u44, u45, u46, u47, u48, u49, u50, u51, u52, u53, u54, u55, u56, u57, rfl, hi, hpi, HU, HG⟩
    have HRES : Hid (∀ a b c : Nat, getGo p (l.drop (p + i)) i u = (a, b, c) → ru = a ∧ rn = b ∧ re = c) := fun a b c h => res3 (HG.out.symm.trans h)
    by_cases hlt : p + i < l.length
    · obtain ⟨b1, o1, rfl, hb, hx, hx2⟩ := HA.out (p + i) hlt
      obtain ⟨x, hx0⟩ : ∃ x, x = l[p + i] := ⟨_, rfl⟩
      rw [← hx0] at hx hx2
      have HX := Lib.hid hx0
      clear hx0
      have hend : ((i : Int) == (l.length : Int) - (p : Int)) = false := by simp; omega
      by_cases hw : 9 ≤ i ∧ 1 < x
      · obtain ⟨hw1, hw2⟩ := hw
        obtain ⟨rfl, rfl, rfl⟩ := HRES.out _ _ _ (getGo_wide p l i u hlt (by omega) (by rw [← HX.out]; exact hw2))
        have h9b : ((i : Int) == 9) = true := by simp; omega
        clear HRES HG HX HU
        go_wp2
        simp only [Exit.jump]
        go_ret3
        exact ⟨rfl, rfl⟩
      · obtain ⟨y, hy0⟩ : ∃ y, y = u + x % 128 * 128 ^ i := ⟨_, rfl⟩
        have eo : bits BinOp.or IntKind.u64 (u : Int) (IntKind.u64.wrap ((x : Int) % 128 * 2 ^ (7 * i))) = (y : Int) := by rw [hy0]; exact orStep u x i hi (by omega) HU.out
        have HF2 : Hid (y < 128 ^ (i + 1)) := by show _ < _; rw [hy0]; exact (getFits i x u _ hi (by omega) rfl HU.out).2
        have HY := Lib.hid hy0
        clear hy0
        by_cases hc : 128 ≤ x
        · have h8 : i ≤ 8 := by omega
          have h9b : ((i : Int) == 9) = false := by simp; omega
          have HN : Hid (getGo p (l.drop (p + (i + 1))) (i + 1) y = (ru, rn, re)) := by
            show _ = _
            rw [← HG.out, getGo_more p l i u hlt (by rw [← HX.out]; omega) (by rw [← HX.out]; exact hc), ← HX.out, ← HY.out]
          clear hw HRES HG HU HX HY
          go_wp2
          go_step3
          have e1 : ((i : Int) + 1) = ((i + 1 : Nat) : Int) := by omega
          rw [e1]
          refine ⟨rfl, ⟨rfl, i + 1, _, _, _, _, _, _, _, _, _, _, _, _, _, _, _, _, _, _, _, _, _, _, _, _, _, _, _, _, _, _, _, _, _, _, _, _, _, _, _, _, _, _, _, _, _, _, _, _, _, _, rfl, by omega, by omega, HF2, HN⟩, ?_⟩
          simp [intOf]
          omega
        · have hc' : x < 128 := by omega
          by_cases h8 : i ≤ 8
          · have h9b : ((i : Int) == 9) = false := by simp; omega
            rcases Nat.eq_zero_or_pos x with hz | hz
            · rcases Nat.eq_zero_or_pos i with hi0 | hi0
              · obtain ⟨hru, rfl, rfl⟩ := HRES.out _ _ _ (getGo_done p l i u hlt (by rw [← HX.out]; omega) (by rw [← HX.out]; omega) (by omega))
                have hzb : ((x : Int) == 0) = true := by simp; omega
                have hib : ((i : Int) + 1) ≤ 1 := by omega
                have HYX : Hid (ru = y) := by show _ = _; rw [hru, HY.out, HX.out]
                clear HRES HG HU HX HY hz hi0 hru hw HF2
                go_wp2
                simp only [Exit.jump]
                go_ret3
                exact ⟨by rw [HYX.out]; simp [Int.add_assoc], rfl⟩
              · obtain ⟨rfl, rfl, rfl⟩ := HRES.out _ _ _ (getGo_form p l i u hlt (by rw [← HX.out]; exact hz) hi0)
                have hzb : ((x : Int) == 0) = true := by simp; omega
                clear HRES HG HU HX HY hz hw HF2
                go_wp2
                simp only [Exit.jump]
                go_ret3
                exact ⟨rfl, rfl⟩
            · obtain ⟨hru, rfl, rfl⟩ := HRES.out _ _ _ (getGo_done p l i u hlt (by rw [← HX.out]; omega) (by rw [← HX.out]; omega) (by rw [← HX.out]; omega))
              have hzb : ((x : Int) == 0) = false := by simp; omega
              have HYX : Hid (ru = y) := by show _ = _; rw [hru, HY.out, HX.out]
              clear HRES HG HU HX HY hru hw HF2
              go_wp2
              simp only [Exit.jump]
              go_ret3
              exact ⟨by rw [HYX.out]; simp [Int.add_assoc], rfl⟩
          · have h9b : ((i : Int) == 9) = true := by simp; omega
            have hx1 : x ≤ 1 := by omega
            have hi9 : 9 ≤ i := by omega
            rcases Nat.eq_zero_or_pos x with hz | hz
            · obtain ⟨rfl, rfl, rfl⟩ := HRES.out _ _ _ (getGo_form p l i u hlt (by rw [← HX.out]; exact hz) (by omega))
              have hzb : ((x : Int) == 0) = true := by simp; omega
              clear HRES HG HU HX HY hz hw HF2
              go_wp2
              simp only [Exit.jump]
              go_ret3
              exact ⟨rfl, rfl⟩
            · obtain ⟨hru, rfl, rfl⟩ := HRES.out _ _ _ (getGo_done p l i u hlt (by rw [← HX.out]; omega) (by rw [← HX.out]; omega) (by rw [← HX.out]; omega))
              have hzb : ((x : Int) == 0) = false := by simp; omega
              have HYX : Hid (ru = y) := by show _ = _; rw [hru, HY.out, HX.out]
              clear HRES HG HU HX HY hru hw HF2
              go_wp2
              simp only [Exit.jump]
              go_ret3
              exact ⟨by rw [HYX.out]; simp [Int.add_assoc], rfl⟩
    · obtain ⟨rfl, rfl, rfl⟩ := res3 (HG.out.symm.trans (getGo_end p l i u (by omega)))
      have hend : ((i : Int) == (l.length : Int) - (p : Int)) = true := by simp; omega
      clear HG HU HRES
      go_wp2
      simp only [Exit.jump]
      go_ret3
      exact ⟨rfl, rfl⟩
end Go.Proofs.Ytplkdcegfpiofaa

/-
  The walks of Get at whatever place, of GetS and Unfold.
-/
namespace Go.Proofs.Ytplkdcegfpiofaa
open Go.RowKit
set_option linter.unusedVariables false

def getA (l : List Nat) (at_ : Int) : Nat × Nat × Nat := if at_ < 0 ∨ (l.length : Int) < at_ then (0, 0, 1) else getR l at_.toNat

set_option maxHeartbeats 400000 in
theorem get_any (v : Value) (l : List Nat) (at_ : Int) (w : World) (B : Nat) (hv : RB w B v l) (ru rn re : Nat) (hr : getA l at_ = (ru, rn, re)) :
    Calls Try.prog 135 #[v, .int .i64 at_] w fun e w' => e = .returned (.tuple #[.int .u64 (ru : Int), .int .i64 (rn : Int), .int .i64 (re : Int)]) ∧ w = w' := by
  by_cases h1 : at_ < 0
  · unfold getA at hr
    rw [if_pos (.inl h1)] at hr
    obtain ⟨rfl, rfl, rfl⟩ := res3 hr
    obtain ⟨A, c, rfl, ha1, ha2, ha3, HA⟩ := hv.open_
    clear hv hr
    go_enter Try.func135, Try.ntmps135
    go_wp2
    go_step3
    go_wp2
    rw [Exit.noGoto_ret]
    go_ret3
    exact ⟨rfl, rfl⟩
  · by_cases h2 : (l.length : Int) < at_
    · unfold getA at hr
      rw [if_pos (.inr h2)] at hr
      obtain ⟨rfl, rfl, rfl⟩ := res3 hr
      obtain ⟨A, c, rfl, ha1, ha2, ha3, HA⟩ := hv.open_
      clear hv hr
      go_enter Try.func135, Try.ntmps135
      go_wp2
      go_step3
      go_wp2
      rw [Exit.noGoto_ret]
      go_ret3
      exact ⟨rfl, rfl⟩
    · unfold getA at hr
      rw [if_neg (by omega)] at hr
      obtain ⟨p, rfl⟩ : ∃ p : Nat, at_ = (p : Int) := ⟨at_.toNat, by omega⟩
      exact get_ok v l p w B hv (by omega) ru rn re (by simpa using hr)

theorem getGo_lt (p : Nat) : ∀ (l : List Nat) (i u : Nat), i ≤ 9 → u < 128 ^ i → (getGo p l i u).1 < 18446744073709551616 := by
  intro l
  induction l with
  | nil => intro i u _ _; simp [getGo]
  | cons c r ih =>
    intro i u hi hu
    rw [getGo]
    split
    · simp
    · rename_i h9
      obtain ⟨h1, h2⟩ := getFits i c u _ hi h9 rfl hu
      split
      · exact ih (i + 1) _ (by omega) h2
      · split
        · simp
        · show u + c % 128 * 128 ^ i < _
          omega
theorem getA_lt (l : List Nat) (at_ : Int) (ru rn re : Nat) (hr : getA l at_ = (ru, rn, re)) : ru < 18446744073709551616 := by
  have : (getA l at_).1 < 18446744073709551616 := by
    unfold getA
    split
    · simp
    · exact getGo_lt _ _ 0 0 (by omega) (by simp)
  rw [hr] at this
  exact this

def unf (u : Nat) : Int := if u % 2 = 0 then ((u / 2 : Nat) : Int) else -((u / 2 : Nat) : Int) - 1

/-- A signed number read. -/
def getSA (l : List Nat) (at_ : Int) : Int × Nat × Nat := if (getA l at_).2.2 = 0 then (unf (getA l at_).1, (getA l at_).2.1, 0) else (0, 0, (getA l at_).2.2)
end Go.Proofs.Ytplkdcegfpiofaa

/-
  The walks of GetText, both.
-/
namespace Go.Proofs.Ytplkdcegfpiofaa
open Go.RowKit
set_option linter.unusedVariables false

theorem getGo_next (p : Nat) (len : Nat) : ∀ (l : List Nat) (i u : Nat), p + i + l.length ≤ len → (getGo p l i u).2.2 = 0 → p + i < (getGo p l i u).2.1 ∧ (getGo p l i u).2.1 ≤ len := by
  intro l
  induction l with
  | nil => intro i u _ h; simp [getGo] at h
  | cons c r ih =>
    intro i u hlen h
    rw [List.length_cons] at hlen
    rw [getGo] at h ⊢
    split
    · rename_i h9; rw [if_pos h9] at h; simp at h
    · rename_i h9
      rw [if_neg h9] at h
      split
      · rename_i h1
        rw [if_pos h1] at h
        have := ih (i + 1) _ (by omega) h
        omega
      · rename_i h1
        rw [if_neg h1] at h
        split
        · rename_i h2; rw [if_pos h2] at h; simp at h
        · simp; omega
theorem getA_next (l : List Nat) (at_ : Int) (ru rn : Nat) (hr : getA l at_ = (ru, rn, 0)) : 0 ≤ at_ ∧ at_ < (rn : Int) ∧ rn ≤ l.length := by
  unfold getA at hr
  by_cases h : at_ < 0 ∨ (l.length : Int) < at_
  · rw [if_pos h] at hr; simp at hr
  · rw [if_neg h] at hr
    obtain ⟨p, rfl⟩ : ∃ p : Nat, at_ = (p : Int) := ⟨at_.toNat, by omega⟩
    have h1 : getGo p (l.drop p) 0 0 = (ru, rn, 0) := by simpa [getR] using hr
    have := getGo_next p l.length (l.drop p) 0 0 (by rw [List.length_drop]; omega) (by rw [h1])
    rw [h1] at this
    simp at this
    omega

/-- A text read. -/
def textA (l : List Nat) (at_ most : Int) : List Nat × Nat × Nat :=
  if (getA l at_).2.2 ≠ 0 then ([], 0, (getA l at_).2.2)
  else if max most 0 < ((getA l at_).1 : Int) then ([], 0, 4)
  else if l.length - (getA l at_).2.1 < (getA l at_).1 then ([], 0, 2)
  else (piece l (getA l at_).2.1 ((getA l at_).2.1 + (getA l at_).1), (getA l at_).2.1 + (getA l at_).1, 0)

theorem run_mkn (n : Nat) (hn : n ≤ 140737488355328) (W : World) : (Instr.makeSlice 22 (.int .u64 (n : Int)) (.int .u64 (n : Int))).run Try.prog W =
    .ok (.slice (some ⟨W.heap.size, 0, none⟩) n n) (W.alloc (.cells (madeCells #[.int .u8 0] n) 5)) := by
  obtain ⟨i0, hi, hz0, hz1, hz2⟩ := info_parts info5
  have := run_make (P := Try.prog) W 22 5 i0 _ Try.underlying22 hi hz0 .u64 .u64 n n (by omega) (by omega) (by rw [hz2]; omega) (by omega)
  simpa [hz1, Value.cells] using this

set_option maxHeartbeats 400000 in
theorem getText_err (v : Value) (l : List Nat) (at_ most : Int) (w : World) (B : Nat) (hv : RB w B v l) (ru rn re : Nat) (hr : getA l at_ = (ru, rn, re)) (h0 : re ≠ 0) :
    Calls Try.prog 123 #[v, .int .i64 at_, .int .i64 most] w fun e w' => e = .returned (.tuple #[.slice none 0 0, .int .i64 0, .int .i64 (re : Int)]) ∧ w = w' := by
  have hne : ((re : Int) != 0) = true := by simp; omega
  have HH := Lib.hid hr
  have HV := Lib.hid hv
  clear hr hv h0
  go_enter Try.func123, Try.ntmps123
  go_wp2_with fail
  refine (get_any v l at_ w B HV.out ru rn re HH.out).mono ?_
  rintro e w1 ⟨rfl, rfl⟩
  go_wp2
  go_ret3
  exact ⟨rfl, rfl⟩

theorem OB.ofRow {w : World} {B g n : Nat} {cs : List Value} {l : List Nat} (hg : w.heap[g]? = some (.cells cs.toArray 5 (0, 0))) (h : cs = l.map bcell) (hn : l.length = n) (hB : B ≤ g) (hl : ∀ x ∈ l, x < 256) (hlen : n ≤ 140737488355328) :
    OB w B (.slice (some ⟨g, 0, none⟩) n n) l := by
  subst hn
  subst h
  exact ⟨hl, hlen, by simp, .inr ⟨g, l.length, _, rfl, hB, hg, Nat.le_refl _, by simp only [maxLen]; omega, by simp, by rw [List.take_of_length_le (by simp)]⟩⟩
theorem add_plain2 (b off k : Nat) : (⟨b, off, none⟩ : Addr).add k = ⟨b, off + k, none⟩ := by unfold Addr.add; split <;> simp_all
theorem bcells_one (l : List Nat) : ∀ u ∈ l.map bcell, u.oneCell' = true := by
  intro u hu
  simp [bcell] at hu
  obtain ⟨x, _, rfl⟩ := hu
  rfl
theorem size_made (n : Nat) : (madeCells #[Value.int IntKind.u8 0] n).toList.length = n := by simp [madeCells]
theorem splice_all (L cs : List Value) (h : L.length = cs.length) : splice L 0 cs = cs := by
  unfold splice
  rw [List.take_zero, List.nil_append, List.drop_of_length_le (by omega), List.append_nil]

set_option maxHeartbeats 1000000 in
theorem getText_ok (v : Value) (l : List Nat) (at_ most : Int) (w : World) (hv : RB w w.heap.size v l) (n rn : Nat) (hr : getA l at_ = (n, rn, 0)) (hm1 : -9223372036854775808 ≤ most) (hm2 : most ≤ 9223372036854775807) :
    Calls Try.prog 123 #[v, .int .i64 at_, .int .i64 most] w fun e w' => ∃ v', e = .returned (.tuple #[v', .int .i64 ((textA l at_ most).2.1 : Nat), .int .i64 ((textA l at_ most).2.2 : Nat)]) ∧ OB w' w.heap.size v' (textA l at_ most).1 ∧ Below w.heap.size w w' := by
  obtain ⟨ha, hb, hc⟩ := getA_next l at_ n rn hr
  have hlt : Hid (n < 18446744073709551616) := getA_lt l at_ n rn 0 hr
  have HH := Lib.hid hr
  have HV := Lib.hid hv
  have ht : textA l at_ most = if max most 0 < (n : Int) then ([], 0, 4) else if l.length - rn < n then ([], 0, 2) else (piece l rn (rn + n), rn + n, 0) := by
    unfold textA
    rw [hr]
    simp
  obtain ⟨A, c, rfl, ha1, ha2, ha3, HA⟩ := hv.open_
  clear hr hv
  by_cases h1 : max most 0 < (n : Int)
  · rw [if_pos h1] at ht
    rw [ht]
    clear ht
    go_enter Try.func123, Try.ntmps123
    go_wp2_with fail
    refine (get_any _ l at_ w w.heap.size HV.out n rn 0 HH.out).mono ?_
    rintro e w1 ⟨rfl, rfl⟩
    go_wp2
    all_goals
      go_ret3
      exact ⟨_, rfl, OB.nil _ _, Below.refl _ _⟩
  · rw [if_neg h1] at ht
    have h1' : (n : Int) ≤ max most 0 := by omega
    by_cases h2 : l.length - rn < n
    · rw [if_pos h2] at ht
      rw [ht]
      clear ht
      have h2' : (l.length : Int) - (rn : Int) < (n : Int) := by omega
      go_enter Try.func123, Try.ntmps123
      go_wp2_with fail
      refine (get_any _ l at_ w w.heap.size HV.out n rn 0 HH.out).mono ?_
      rintro e w1 ⟨rfl, rfl⟩
      go_wp2
      all_goals
        go_ret3
        exact ⟨_, rfl, OB.nil _ _, Below.refl _ _⟩
    · rw [if_neg h2] at ht
      rw [ht]
      clear ht
      have h2' : rn + n ≤ l.length := by omega
      have hmk := fun W => run_mkn n (by omega) W
      have hpl : (piece l rn (rn + n)).length = n := by unfold piece; rw [List.length_drop, List.length_take]; omega
      have hpb : ∀ x ∈ piece l rn (rn + n), x < 256 := fun x hx => HV.out.1 x (List.mem_of_mem_take (List.mem_of_mem_drop hx))
      have HPB := Lib.hid hpb
      have HPL := Lib.hid hpl
      have HBel : Hid (Below w.heap.size w (w.alloc (.cells (madeCells #[Value.int IntKind.u8 0] n) 5))) := (Below.refl _ _).alloc (Nat.le_refl _) _
      have HG : Hid ((w.alloc (.cells (madeCells #[Value.int IntKind.u8 0] n) 5)).heap[w.heap.size]? = some (.cells (madeCells #[Value.int IntKind.u8 0] n).toList.toArray 5 (0, 0))) := by
        show _ = _
        rw [Array.toArray_toList]
        exact heap_alloc_new w _
      have HSRC : Hid (0 < n → ∃ b off, A = some ⟨b, off, none⟩ ∧ ∀ j v, ((piece l rn (rn + n)).map bcell)[j]? = some v → (w.alloc (.cells (madeCells #[Value.int IntKind.u8 0] n) 5)).cell? ((⟨b, off + rn, none⟩ : Addr).add j) = some v) := by
        intro hn
        obtain ⟨b, off, hA, hb', _, _⟩ := HA.out rn (by omega)
        refine ⟨b, off, hA, ?_⟩
        refine bcells_at ?_
        intro j x hj
        have hjl : j < n := by
          have := (List.getElem?_eq_some_iff.1 hj).1
          omega
        obtain ⟨b2, off2, hA2, hb2, hcell, _⟩ := HA.out (rn + j) (by omega)
        rw [hA] at hA2
        injection hA2 with hA2
        injection hA2 with e1 e2
        subst e1
        subst e2
        rw [HBel.out.cell (p := ⟨b, off + rn + j, none⟩) hb', Nat.add_assoc, hcell]
        unfold piece at hj
        rw [List.getElem?_drop, List.getElem?_take, if_pos (by omega)] at hj
        have := (List.getElem?_eq_some_iff.1 hj).2
        rw [this]
      clear hpl hpb
      by_cases hcap : c = rn
      · have hcap' := hcap.symm
        subst hcap'
        have hn0 : n ≤ 0 := by omega
        go_enter Try.func123, Try.ntmps123
        go_wp2_with fail
        refine (get_any _ l at_ w w.heap.size HV.out n rn 0 HH.out).mono ?_
        rintro e w1 ⟨rfl, rfl⟩
        go_wp2_with (with_reducible refine wpList_copy_splice rfl (.tmp 37) (.tmp 40) 22 22 rfl 5 Try.underlying22 (by kernel_rfl) _ _ _ _ _ _ rfl rfl w.heap.size 0 (madeCells #[Value.int IntKind.u8 0] n).toList 5 HG.out ((piece l rn (rn + n)).map bcell) (by rw [List.length_map, HPL.out]; exact (Nat.min_eq_right (by omega)).symm) (by intro h; rw [List.length_map, HPL.out] at h; omega) (by rw [size_made, List.length_map, HPL.out]; omega) (bcells_one _) w.heap.size w HBel.out (Nat.le_refl _) ?_; intro w2 hg2 hb2; have HB2 := Lib.hid hb2; clear hb2)
        all_goals
          go_ret3
          refine ⟨_, rfl, OB.ofRow hg2.out (splice_all _ _ (by rw [size_made, List.length_map, HPL.out])) HPL.out (Nat.le_refl _) HPB.out (by omega), HB2.out⟩
      · go_enter Try.func123, Try.ntmps123
        go_wp2_with fail
        refine (get_any _ l at_ w w.heap.size HV.out n rn 0 HH.out).mono ?_
        rintro e w1 ⟨rfl, rfl⟩
        go_wp2_with (with_reducible refine wpList_copy_splice rfl (.tmp 37) (.tmp 40) 22 22 rfl 5 Try.underlying22 (by kernel_rfl) _ _ _ _ _ _ rfl rfl w.heap.size 0 (madeCells #[Value.int IntKind.u8 0] n).toList 5 HG.out ((piece l rn (rn + n)).map bcell) (by rw [List.length_map, HPL.out]; exact (Nat.min_eq_right (by omega)).symm) (by intro h; rw [List.length_map, HPL.out] at h; obtain ⟨b, off, hA, hc2⟩ := HSRC.out h; refine ⟨rfl, ⟨b, off + rn, none⟩, ?_, hc2⟩; rw [hA, Option.map_some, add_plain2]) (by rw [size_made, List.length_map, HPL.out]; omega) (bcells_one _) w.heap.size w HBel.out (Nat.le_refl _) ?_; intro w2 hg2 hb2; have HB2 := Lib.hid hb2; clear hb2)
        all_goals
          go_ret3
          refine ⟨_, rfl, OB.ofRow hg2.out (splice_all _ _ (by rw [size_made, List.length_map, HPL.out])) HPL.out (Nat.le_refl _) HPB.out (by omega), HB2.out⟩
end Go.Proofs.Ytplkdcegfpiofaa
