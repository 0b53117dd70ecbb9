/-
  The walks of num.Put and skeinref01.Put, of the texts and of the signed numbers that are written.
-/
import Derived.WalkMore
import Derived.ScopeJumps
import Derived.Laws.CopyOwn
import Derived.Handy
import Derived.Test.YtbagmmncjmbboaaGreatH3
import Derived.Test.YtbagmmncjmbboaaGreatZCA4
import Derived.Test.YtbagmmncjmbboaaGreatF1
namespace Go.Proofs.YtbagmmncjmbboaaGreat
open Go.RowKit
set_option linter.unusedVariables false

/-- A number's bytes. -/
def putL (n : Nat) : List Nat := if n < 128 then [n] else (n % 128 + 128) :: putL (n / 128)
termination_by n
theorem putL_last (n : Nat) (h : n < 128) : putL n = [n] := by rw [putL, if_pos h]
theorem putL_more (n : Nat) (h : ¬ n < 128) : putL n = (n % 128 + 128) :: putL (n / 128) := by rw [putL, if_neg h]
theorem putL_pos (n : Nat) : 0 < (putL n).length := by
  by_cases h : n < 128
  · rw [putL_last n h]; simp
  · rw [putL_more n h]; simp
theorem putL_lt (k : Nat) : ∀ n, n < 128 ^ (k + 1) → (putL n).length ≤ k + 1 := by
  induction k with
  | zero => intro n h; rw [putL_last n (by simpa using h)]; simp
  | succ k ih =>
    intro n h
    by_cases h1 : n < 128
    · rw [putL_last n h1]; simp
    · rw [putL_more n h1, List.length_cons]
      have := ih (n / 128) (by rw [Nat.div_lt_iff_lt_mul (by omega)]; rw [Nat.pow_succ] at h; exact h)
      omega
theorem putL_ten (n : Nat) (h : n < 18446744073709551616) : (putL n).length ≤ 10 := putL_lt 9 n (by omega)

theorem or128 : ∀ x < 256, x ||| 128 = x % 128 + 128 := by decide +kernel
theorem or128_bits (n : Nat) : bits BinOp.or IntKind.u8 ((n : Int) % 256) 128 = ((n % 128 + 128 : Nat) : Int) := by
  have h := u8_or_nat (n % 256) 128 (by omega) (by omega)
  have e : ((n : Int) % 256) = ((n % 256 : Nat) : Int) := by omega
  rw [e]
  refine h.trans ?_
  rw [or128 _ (by omega)]
  congr 2
  omega

set_option maxRecDepth 100000 in
set_option maxHeartbeats 400000 in
theorem put_any (n : Nat) (w : World) (hn : Hid ((putL n).length ≤ 10)) :
    Calls Tryz.prog 93 #[.int .u64 (n : Int)] w fun e w' => ∃ v, e = .returned v ∧ OB w' w.heap.size v (putL n) ∧ Below w.heap.size w w' := by
  go_enter Tryz.func93, Tryz.ntmps93
  go_wp2
  refine wp_scope_jumps 0 (fun a' w' => ∃ (m : Nat) (v : Value) (pre : List Nat) (u4 u5 u6 u7 u8 u9 u10 u11 u12 u13 u14 u15 u16 u17 u18 : Value), a' = { tmps := #[.int .u64 (m : Int), undef, .slice none 0 0, v, u4, u5, u6, u7, u8, u9, u10, u11, u12, u13, u14, u15, u16, u17, u18], defers := [] } ∧ Hid (pre ++ putL m = putL n) ∧ Hid (OB w' w.heap.size v pre) ∧ Hid (Below w.heap.size w w')) (fun a' _ => (intOf (a'.tmps.getD 0 undef)).toNat) rfl ?_ ?_
  · by_cases h : n < 128
    · have hp := putL_last n h
      have HP := Lib.hid hp
      clear hp
      go_wp2
      go_step3
      go_wp2_with (at_builtin; go_must (refine wpList_app1 (w0 := w) rfl (.tmp 14) (.tmp 17) rfl w.heap.size _ [] rfl (OB.nil _ _) (Below.refl _ _) (Nat.le_refl _) _ n (by omega) (by omega) rfl (by simp) ?_); intro v' w1 ho1 hb1 _; have HO1 := Lib.hid ho1; have HB1 := Lib.hid hb1; clear ho1 hb1)
      simp only [Exit.jump]
      go_ret
      exact ⟨v', rfl, by rw [HP.out]; exact HO1.out, HB1.out⟩
    · have hp := putL_more n h
      have HP := Lib.hid hp
      clear hp
      go_wp2
      go_step3
      go_wp2_with (at_builtin; go_must (refine wpList_app1 (w0 := w) rfl (.tmp 6) (.tmp 10) rfl w.heap.size _ [] rfl (OB.nil _ _) (Below.refl _ _) (Nat.le_refl _) _ (n % 128 + 128) (or128_bits n) (by omega) rfl (by simp) ?_); intro v' w1 ho1 hb1 _; have HO1 := Lib.hid ho1; have HB1 := Lib.hid hb1; clear ho1 hb1)
      go_step3
      have e : ((n : Int) / 128) = ((n / 128 : Nat) : Int) := by omega
      rw [e]
      exact ⟨rfl, n / 128, v', [n % 128 + 128], _, _, _, _, _, _, _, _, _, _, _, _, _, _, _, rfl, by show _ = _; rw [HP.out]; rfl, HO1, HB1⟩
  · rintro a' w' ⟨m, v, pre, u4, u5, u6, u7, u8, u9, u10, u11, u12, u13, u14, u15, u16, u17, u18, rfl, HP, HO, HB⟩
    have hlen : pre.length + (putL m).length ≤ 10 := by
      have := HP.out
      have h2 := hn.out
      rw [← this, List.length_append] at h2
      exact h2
    have hpos := putL_pos m
    by_cases h : m < 128
    · have hp := putL_last m h
      have HL := Lib.hid hp
      clear hp
      go_wp2_with (at_builtin; go_must (refine wpList_app1 (w0 := w) rfl (.tmp 14) (.tmp 17) rfl w.heap.size _ _ rfl HO.out HB.out (Nat.le_refl _) _ m (by omega) (by omega) rfl (by omega) ?_); intro v' w1 ho1 hb1 _; have HO1 := Lib.hid ho1; have HB1 := Lib.hid hb1; clear ho1 hb1)
      simp only [Exit.jump]
      go_ret
      exact ⟨v', rfl, by rw [← HP.out, HL.out]; exact HO1.out, HB1.out⟩
    · have hp := putL_more m h
      have HL := Lib.hid hp
      clear hp
      go_wp2_with (at_builtin; go_must (refine wpList_app1 (w0 := w) rfl (.tmp 6) (.tmp 10) rfl w.heap.size _ _ rfl HO.out HB.out (Nat.le_refl _) _ (m % 128 + 128) (or128_bits m) (by omega) rfl (by omega) ?_); intro v' w1 ho1 hb1 _; have HO1 := Lib.hid ho1; have HB1 := Lib.hid hb1; clear ho1 hb1)
      go_step3
      have e : ((m : Int) / 128) = ((m / 128 : Nat) : Int) := by omega
      rw [e]
      refine ⟨rfl, ⟨m / 128, v', pre ++ [m % 128 + 128], _, _, _, _, _, _, _, _, _, _, _, _, _, _, _, rfl, ?_, HO1, HB1⟩, ?_⟩
      · show _ = _
        rw [← HP.out, HL.out, List.append_assoc]
        rfl
      · simp [intOf]
        omega
end Go.Proofs.YtbagmmncjmbboaaGreat

/-
  The walks of the rest of what writes: skeinref01.Put, PutS, Fold, PutText (both).
-/
namespace Go.Proofs.YtbagmmncjmbboaaGreat
open Go.RowKit
set_option linter.unusedVariables false

def foldN (v : Int) : Nat := if 0 ≤ v then (2 * v).toNat else (-2 * v - 1).toNat

theorem ret_int {k : IntKind} {a b : Int} (h : a = b) : Ending.returned (.int k a) = .returned (.int k b) := by rw [h]

theorem i64_notv (v : Int) (h1 : -9223372036854775808 ≤ v) (h2 : v ≤ 9223372036854775807) : bits .xor .i64 (-1) v = -1 - v := by
  show IntKind.i64.wrap ((BitVec.ofInt 64 (-1) ^^^ BitVec.ofInt 64 v).toNat : Int) = _
  have h3 : BitVec.ofInt 64 (-1) = BitVec.allOnes 64 := by decide
  rw [h3, BitVec.allOnes_xor, BitVec.toNat_not, BitVec.toNat_ofInt]
  simp [IntKind.wrap, IntKind.bits, IntKind.signed]
  omega

theorem putsNeg (v : Int) (h1 : -9223372036854775808 ≤ v) (h : ¬ 0 ≤ v) : bits BinOp.or IntKind.u64 (IntKind.u64.wrap (IntKind.u64.wrap (bits BinOp.xor IntKind.i64 (-1) v) * 2)) 1 = ((foldN v : Nat) : Int) := by
  rw [i64_notv v h1 (by omega)]
  obtain ⟨m, hm⟩ : ∃ m : Nat, -1 - v = (m : Int) := ⟨(-1 - v).toNat, by omega⟩
  rw [hm]
  have e1 : IntKind.u64.wrap (IntKind.u64.wrap (m : Int) * 2) = ((2 * m : Nat) : Int) := by
    rw [IntKind.wrap_u64, IntKind.wrap_u64]
    omega
  rw [e1]
  refine (u64_or_nat (2 * m) 1 (by omega) (by omega)).trans ?_
  rw [nat_join 1 (2 * m) 1 (by omega) (by omega)]
  unfold foldN
  rw [if_neg h]
  omega

set_option maxHeartbeats 400000 in
theorem putText_any (v : Value) (l : List Nat) (w : World) (hv : RB w w.heap.size v l) (hl : l.length ≤ 140737488355200) :
    Calls Tryz.prog 60 #[v] w fun e w' => ∃ v', e = .returned v' ∧ OB w' w.heap.size v' (putL l.length ++ l) ∧ Below w.heap.size w w' := by
  have hn : (putL l.length).length ≤ 10 := putL_ten _ (by omega)
  have HN := Lib.hid hn
  have HV := Lib.hid hv
  obtain ⟨A, c, rfl, ha1, ha2, ha3, _⟩ := hv.open_
  clear hv hn
  go_enter Tryz.func60, Tryz.ntmps60
  go_wp2_with fail
  refine (put_any l.length w HN).mono ?_
  rintro e w1 ⟨v1, rfl, ho1, hb1⟩
  have HO1 := Lib.hid ho1
  have HB1 := Lib.hid hb1
  clear ho1 hb1
  go_wp2_with (at_builtin; go_must (refine wpList_app rfl (.tmp 6) (.tmp 7) rfl w.heap.size _ _ rfl HO1.out w.heap.size _ l rfl (HV.out.below HB1.out) HB1.out.size (by have := HN.out; omega) ?_); intro v' w2 ho2 hg2 _; have HO2 := Lib.hid ho2; have HG2 := Lib.hid hg2; clear ho2 hg2)
  go_ret
  exact ⟨_, rfl, HO2.out, HB1.out.grown HG2.out HB1.out.size (fun k hk => (HO1.out.lt k hk).1)⟩
end Go.Proofs.YtbagmmncjmbboaaGreat

/-
  The walks of what reads numbers: skeinref01.Get, num.Get.
-/
namespace Go.Proofs.YtbagmmncjmbboaaGreat
open Go.RowKit
set_option linter.unusedVariables false

/-- A number read from place p on: the number, the place behind it, the error. l: what is left from byte i of it on; u: what has been read. -/
def getGo (p : Nat) : List Nat → Nat → Nat → Nat × Nat × Nat
  | [], _, _ => (0, 0, 2)
  | c :: r, i, u => if i = 9 ∧ 1 < c then (0, 0, 10) else if 128 ≤ c then getGo p r (i + 1) (u + c % 128 * 128 ^ i) else if c = 0 ∧ 0 < i then (0, 0, 5) else (u + c % 128 * 128 ^ i, p + i + 1, 0)
def getR (l : List Nat) (p : Nat) : Nat × Nat × Nat := getGo p (l.drop p) 0 0

theorem getGo_end (p : Nat) (l : List Nat) (i u : Nat) (h : l.length ≤ p + i) : getGo p (l.drop (p + i)) i u = (0, 0, 2) := by
  rw [List.drop_of_length_le h]; rfl
theorem getGo_wide (p : Nat) (l : List Nat) (i u : Nat) (h : p + i < l.length) (h9 : i = 9) (hc : 1 < l[p + i]) : getGo p (l.drop (p + i)) i u = (0, 0, 10) := by
  rw [List.drop_eq_getElem_cons h, getGo, if_pos ⟨h9, hc⟩]
theorem getGo_more (p : Nat) (l : List Nat) (i u : Nat) (h : p + i < l.length) (h9 : ¬ (i = 9 ∧ 1 < l[p + i])) (hc : 128 ≤ l[p + i]) :
    getGo p (l.drop (p + i)) i u = getGo p (l.drop (p + (i + 1))) (i + 1) (u + l[p + i] % 128 * 128 ^ i) := by
  rw [List.drop_eq_getElem_cons h, getGo, if_neg h9, if_pos hc]; rfl
theorem getGo_form (p : Nat) (l : List Nat) (i u : Nat) (h : p + i < l.length) (hc : l[p + i] = 0) (hi : 0 < i) : getGo p (l.drop (p + i)) i u = (0, 0, 5) := by
  rw [List.drop_eq_getElem_cons h, getGo, if_neg (by omega), if_neg (by omega), if_pos ⟨hc, hi⟩]
theorem getGo_done (p : Nat) (l : List Nat) (i u : Nat) (h : p + i < l.length) (h9 : ¬ (i = 9 ∧ 1 < l[p + i])) (hc : l[p + i] < 128) (hz : ¬ (l[p + i] = 0 ∧ 0 < i)) :
    getGo p (l.drop (p + i)) i u = (u + l[p + i] % 128 * 128 ^ i, p + i + 1, 0) := by
  rw [List.drop_eq_getElem_cons h, getGo, if_neg h9, if_neg (by omega), if_neg hz]

theorem pow128_le (i : Nat) (h : i ≤ 9) : 128 ^ i ≤ 9223372036854775808 := Nat.le_trans (Nat.pow_le_pow_right (by omega) h) (by decide)
theorem pow128_le8 (i : Nat) (h : i ≤ 8) : 128 ^ i ≤ 72057594037927936 := Nat.le_trans (Nat.pow_le_pow_right (by omega) h) (by decide)

/-- What a byte adds fits. -/
theorem getFits (i x u m : Nat) (hi : i ≤ 9) (h9 : ¬ (i = 9 ∧ 1 < x)) (hm : m = 128 ^ i) (hu : u < 128 ^ i) : x % 128 * m + u < 18446744073709551616 ∧ (u + x % 128 * m < 128 ^ (i + 1)) := by
  subst hm
  have h1 : u + x % 128 * 128 ^ i < 128 ^ (i + 1) := by
    have : x % 128 * 128 ^ i ≤ 127 * 128 ^ i := Nat.mul_le_mul_right _ (by omega)
    rw [Nat.pow_succ]
    omega
  refine ⟨?_, h1⟩
  by_cases h : i = 9
  · subst h
    have hx : x ≤ 1 := by omega
    have : x % 128 * 128 ^ 9 ≤ 1 * 128 ^ 9 := Nat.mul_le_mul_right _ (by omega)
    omega
  · have := pow128_le (i + 1) (by omega)
    omega

theorem res3 {a b c a' b' c' : Nat} (h : ((a, b, c) : Nat × Nat × Nat) = (a', b', c')) : a = a' ∧ b = b' ∧ c = c' := by simpa using h
end Go.Proofs.YtbagmmncjmbboaaGreat

/-
  The walk of num.Get.
-/
namespace Go.Proofs.YtbagmmncjmbboaaGreat
open Go.RowKit
set_option linter.unusedVariables false

theorem orStep (u x i : Nat) (hi : i ≤ 9) (h9 : ¬ (i = 9 ∧ 1 < x)) (hu : u < 128 ^ i) : bits BinOp.or IntKind.u64 (u : Int) (IntKind.u64.wrap ((x : Int) % 128 * 2 ^ (7 * i))) = ((u + x % 128 * 128 ^ i : Nat) : Int) := by
  have hp : (2 : Nat) ^ (7 * i) = 128 ^ i := by rw [Nat.pow_mul]
  obtain ⟨h1, h2⟩ := getFits i x u _ hi h9 rfl hu
  have e : ((x : Int) % 128 * 2 ^ (7 * i)) = ((x % 128 * 128 ^ i : Nat) : Int) := by rw [← hp]; simp
  rw [e]
  have hm : (x % 128 * 128 ^ i) % 2 ^ (7 * i) = 0 := by rw [hp]; exact Nat.mul_mod_left _ _
  generalize x % 128 * 128 ^ i = y at *
  rw [IntKind.wrap_u64, show ((y : Nat) : Int) % 18446744073709551616 = (y : Int) by omega]
  refine (u64_or_nat u y (by omega) (by omega)).trans ?_
  rw [Nat.or_comm, nat_join (7 * i) y u hm (by rw [hp]; exact hu), Nat.add_comm]

/-- What holds at the label. -/
def GetJ (A : Option Addr) (c p ru rn re : Nat) (l : List Nat) (w : World) (a' : Act) (w' : World) : Prop :=
  w = w' ∧ ∃ (i u : Nat) (u9 u10 u11 u12 u13 u14 u15 u16 u17 u18 u19 u20 u21 u22 u23 u24 u25 u26 u27 u28 u29 u30 u31 u32 u33 u34 u35 u36 u37 u38 u39 u40 u41 u42 u43 u44 u45 u46 u47 u48 u49 u50 u51 u52 u53 u54 u55 u56 u57 : Value), a' = { tmps := #[.slice A l.length c, .int .i64 (p : Int), undef, undef, .int .u64 0, .int .i64 0, .int .i64 0, .int .u64 (u : Int), .int .i64 (i : Int), u9, u10, u11, u12, u13, u14, u15, u16, u17, u18, u19, u20, u21, u22, u23, u24, u25, u26, u27, u28, u29, u30, u31, u32, u33, u34, u35, u36, u37, u38, u39, u40, u41, u42, u43, u44, u45, u46, u47, u48, u49, u50, u51, u52, u53, u54, u55, u56, u57], defers := [] } ∧ i ≤ 9 ∧ p + i ≤ l.length ∧ Hid (u < 128 ^ i) ∧ Hid (getGo p (l.drop (p + i)) i u = (ru, rn, re))

set_option maxRecDepth 100000 in
set_option maxHeartbeats 2000000 in
theorem get_ok (v : Value) (l : List Nat) (p : Nat) (w : World) (B : Nat) (hv : RB w B v l) (hp : p ≤ l.length) (ru rn re : Nat) (hr : getR l p = (ru, rn, re)) :
    Calls Tryz.prog 122 #[v, .int .i64 (p : Int)] w fun e w' => e = .returned (.tuple #[.int .u64 (ru : Int), .int .i64 (rn : Int), .int .i64 (re : Int)]) ∧ w = w' := by
  obtain ⟨A, c, rfl, ha1, ha2, ha3, HA⟩ := hv.open_
  clear hv
  have HR := Lib.hid hr
  clear hr
  have d1 : decide ((p : Int) < 0) = false := by simp
  have d2 : decide (l.length < p) = false := by simp; omega
  go_enter Tryz.func122, Tryz.ntmps122
  go_wp2
  refine wp_scope_jumps 0 (GetJ A c p ru rn re l w) (fun a' _ => 10 - (intOf (a'.tmps.getD 8 undef)).toNat) rfl ?_ ?_
  · go_wp2
    go_step3
    obtain ⟨i, hi0⟩ : ∃ i : Nat, i = 0 := ⟨0, rfl⟩
    obtain ⟨u, hu0⟩ : ∃ u : Nat, u = 0 := ⟨0, rfl⟩
    have hi : i ≤ 9 := by omega
    have hpi : p + i ≤ l.length := by omega
    have HU : Hid (u < 128 ^ i) := by show _ < _; rw [hi0, hu0]; simp
    have HG : Hid (getGo p (l.drop (p + i)) i u = (ru, rn, re)) := by show _ = _; rw [hi0, hu0]; exact HR.out
    have e : ({ tmps := #[.slice A l.length c, .int .i64 (p : Int), undef, undef, .int .u64 0, .int .i64 0, .int .i64 0, .int .u64 (u : Int), .int .i64 (i : Int), undef, .int .i64 (p : Int), .bool false, .bool false, .int .i64 (p : Int), .slice A l.length c, .int .i64 (l.length : Int), .bool false, .bool false, undef, undef, undef, undef, undef, undef, undef, undef, undef, undef, undef, undef, undef, undef, undef, undef, undef, undef, undef, undef, undef, undef, undef, undef, undef, undef, undef, undef, undef, undef, undef, undef, undef, undef, undef, undef, undef, undef, undef, undef], defers := [] } : Act) = { tmps := #[.slice A l.length c, .int .i64 (p : Int), undef, undef, .int .u64 0, .int .i64 0, .int .i64 0, .int .u64 0, .int .i64 0, undef, .int .i64 (p : Int), .bool false, .bool false, .int .i64 (p : Int), .slice A l.length c, .int .i64 (l.length : Int), .bool false, .bool false, undef, undef, undef, undef, undef, undef, undef, undef, undef, undef, undef, undef, undef, undef, undef, undef, undef, undef, undef, undef, undef, undef, undef, undef, undef, undef, undef, undef, undef, undef, undef, undef, undef, undef, undef, undef, undef, undef, undef, undef], defers := [] } := by rw [hi0, hu0]; rfl
    rw [← e]
    clear e hi0 hu0
    have HRES : Hid (∀ a b c : Nat, getGo p (l.drop (p + i)) i u = (a, b, c) → ru = a ∧ rn = b ∧ re = c) := fun a b c h => res3 (HG.out.symm.trans h)
    by_cases hlt : p + i < l.length
    · obtain ⟨b1, o1, rfl, hb, hx, hx2⟩ := HA.out (p + i) hlt
      obtain ⟨x, hx0⟩ : ∃ x, x = l[p + i] := ⟨_, rfl⟩
      rw [← hx0] at hx hx2
      have HX := Lib.hid hx0
      clear hx0
      have hend : ((i : Int) == (l.length : Int) - (p : Int)) = false := by simp; omega
      by_cases hw : 9 ≤ i ∧ 1 < x
      · obtain ⟨hw1, hw2⟩ := hw
        obtain ⟨rfl, rfl, rfl⟩ := HRES.out _ _ _ (getGo_wide p l i u hlt (by omega) (by rw [← HX.out]; exact hw2))
        have h9b : ((i : Int) == 9) = true := by simp; omega
        clear HRES HG HX HU
        go_wp2
        simp only [Exit.jump]
        go_ret3
        exact ⟨rfl, rfl⟩
      · obtain ⟨y, hy0⟩ : ∃ y, y = u + x % 128 * 128 ^ i := ⟨_, rfl⟩
        have eo : bits BinOp.or IntKind.u64 (u : Int) (IntKind.u64.wrap ((x : Int) % 128 * 2 ^ (7 * i))) = (y : Int) := by rw [hy0]; exact orStep u x i hi (by omega) HU.out
        have HF2 : Hid (y < 128 ^ (i + 1)) := by show _ < _; rw [hy0]; exact (getFits i x u _ hi (by omega) rfl HU.out).2
        have HY := Lib.hid hy0
        clear hy0
        by_cases hc : 128 ≤ x
        · have h8 : i ≤ 8 := by omega
          have h9b : ((i : Int) == 9) = false := by simp; omega
          have HN : Hid (getGo p (l.drop (p + (i + 1))) (i + 1) y = (ru, rn, re)) := by
            show _ = _
            rw [← HG.out, getGo_more p l i u hlt (by rw [← HX.out]; omega) (by rw [← HX.out]; exact hc), ← HX.out, ← HY.out]
          clear hw HRES HG HU HX HY
          go_wp2
          go_step3
          have e1 : ((i : Int) + 1) = ((i + 1 : Nat) : Int) := by omega
          rw [e1]
          exact ⟨rfl, rfl, i + 1, _, _, _, _, _, _, _, _, _, _, _, _, _, _, _, _, _, _, _, _, _, _, _, _, _, _, _, _, _, _, _, _, _, _, _, _, _, _, _, _, _, _, _, _, _, _, _, _, _, _, rfl, by omega, by omega, HF2, HN⟩
        · have hc' : x < 128 := by omega
          by_cases h8 : i ≤ 8
          · have h9b : ((i : Int) == 9) = false := by simp; omega
            rcases Nat.eq_zero_or_pos x with hz | hz
            · rcases Nat.eq_zero_or_pos i with hi0 | hi0
              · obtain ⟨hru, rfl, rfl⟩ := HRES.out _ _ _ (getGo_done p l i u hlt (by rw [← HX.out]; omega) (by rw [← HX.out]; omega) (by omega))
                have hzb : ((x : Int) == 0) = true := by simp; omega
                have hib : ((i : Int) + 1) ≤ 1 := by omega
                have HYX : Hid (ru = y) := by show _ = _; rw [hru, HY.out, HX.out]
                clear HRES HG HU HX HY hz hi0 hru hw HF2
                go_wp2
                simp only [Exit.jump]
                go_ret3
                exact ⟨by rw [HYX.out]; simp [Int.add_assoc], rfl⟩
              · obtain ⟨rfl, rfl, rfl⟩ := HRES.out _ _ _ (getGo_form p l i u hlt (by rw [← HX.out]; exact hz) hi0)
                have hzb : ((x : Int) == 0) = true := by simp; omega
                clear HRES HG HU HX HY hz hw HF2
                go_wp2
                simp only [Exit.jump]
                go_ret3
                exact ⟨rfl, rfl⟩
            · obtain ⟨hru, rfl, rfl⟩ := HRES.out _ _ _ (getGo_done p l i u hlt (by rw [← HX.out]; omega) (by rw [← HX.out]; omega) (by rw [← HX.out]; omega))
              have hzb : ((x : Int) == 0) = false := by simp; omega
              have HYX : Hid (ru = y) := by show _ = _; rw [hru, HY.out, HX.out]
              clear HRES HG HU HX HY hru hw HF2
              go_wp2
              simp only [Exit.jump]
              go_ret3
              exact ⟨by rw [HYX.out]; simp [Int.add_assoc], rfl⟩
          · have h9b : ((i : Int) == 9) = true := by simp; omega
            have hx1 : x ≤ 1 := by omega
            have hi9 : 9 ≤ i := by omega
            rcases Nat.eq_zero_or_pos x with hz | hz
            · obtain ⟨rfl, rfl, rfl⟩ := HRES.out _ _ _ (getGo_form p l i u hlt (by rw [← HX.out]; exact hz) (by omega))
              have hzb : ((x : Int) == 0) = true := by simp; omega
              clear HRES HG HU HX HY hz hw HF2
              go_wp2
              simp only [Exit.jump]
              go_ret3
              exact ⟨rfl, rfl⟩
            · obtain ⟨hru, rfl, rfl⟩ := HRES.out _ _ _ (getGo_done p l i u hlt (by rw [← HX.out]; omega) (by rw [← HX.out]; omega) (by rw [← HX.out]; omega))
              have hzb : ((x : Int) == 0) = false := by simp; omega
              have HYX : Hid (ru = y) := by show _ = _; rw [hru, HY.out, HX.out]
              clear HRES HG HU HX HY hru hw HF2
              go_wp2
              simp only [Exit.jump]
              go_ret3
              exact ⟨by rw [HYX.out]; simp [Int.add_assoc], rfl⟩
    · obtain ⟨rfl, rfl, rfl⟩ := res3 (HG.out.symm.trans (getGo_end p l i u (by omega)))
      have hend : ((i : Int) == (l.length : Int) - (p : Int)) = true := by simp; omega
      clear HG HU HRES
      go_wp2
      simp only [Exit.jump]
      go_ret3
      exact ⟨rfl, rfl⟩
  · rintro a' w' ⟨rfl, i, u, u9, u10, u11, u12, u13, u14, u15, u16, u17, u18, u19, u20, u21, u22, u23, u24, u25, u26, u27, u28, u29, u30, u31, u32, u33, u34, u35, u36, u37, u38, u39, u40, u41, u42, u43, u44, u45, u46, u47, u48, u49, u50, u51, u52, u53, u54, u55, u56, u57, rfl, hi, hpi, HU, HG⟩
    have HRES : Hid (∀ a b c : Nat, getGo p (l.drop (p + i)) i u = (a, b, c) → ru = a ∧ rn = b ∧ re = c) := fun a b c h => res3 (HG.out.symm.trans h)
    by_cases hlt : p + i < l.length
    · obtain ⟨b1, o1, rfl, hb, hx, hx2⟩ := HA.out (p + i) hlt
      obtain ⟨x, hx0⟩ : ∃ x, x = l[p + i] := ⟨_, rfl⟩
      rw [← hx0] at hx hx2
      have HX := Lib.hid hx0
      clear hx0
      have hend : ((i : Int) == (l.length : Int) - (p : Int)) = false := by simp; omega
      by_cases hw : 9 ≤ i ∧ 1 < x
      · obtain ⟨hw1, hw2⟩ := hw
        obtain ⟨rfl, rfl, rfl⟩ := HRES.out _ _ _ (getGo_wide p l i u hlt (by omega) (by rw [← HX.out]; exact hw2))
        have h9b : ((i : Int) == 9) = true := by simp; omega
        clear HRES HG HX HU
        go_wp2
        simp only [Exit.jump]
        go_ret3
        exact ⟨rfl, rfl⟩
      · obtain ⟨y, hy0⟩ : ∃ y, y = u + x % 128 * 128 ^ i := ⟨_, rfl⟩
        have eo : bits BinOp.or IntKind.u64 (u : Int) (IntKind.u64.wrap ((x : Int) % 128 * 2 ^ (7 * i))) = (y : Int) := by rw [hy0]; exact orStep u x i hi (by omega) HU.out
        have HF2 : Hid (y < 128 ^ (i + 1)) := by show _ < _; rw [hy0]; exact (getFits i x u _ hi (by omega) rfl HU.out).2
        have HY := Lib.hid hy0
        clear hy0
        by_cases hc : 128 ≤ x
        · have h8 : i ≤ 8 := by omega
          have h9b : ((i : Int) == 9) = false := by simp; omega
          have HN : Hid (getGo p (l.drop (p + (i + 1))) (i + 1) y = (ru, rn, re)) := by
            show _ = _
            rw [← HG.out, getGo_more p l i u hlt (by rw [← HX.out]; omega) (by rw [← HX.out]; exact hc), ← HX.out, ← HY.out]
          clear hw HRES HG HU HX HY
          go_wp2
          go_step3
          have e1 : ((i : Int) + 1) = ((i + 1 : Nat) : Int) := by omega
          rw [e1]
          refine ⟨rfl, ⟨rfl, i + 1, _, _, _, _, _, _, _, _, _, _, _, _, _, _, _, _, _, _, _, _, _, _, _, _, _, _, _, _, _, _, _, _, _, _, _, _, _, _, _, _, _, _, _, _, _, _, _, _, _, _, rfl, by omega, by omega, HF2, HN⟩, ?_⟩
          simp [intOf]
          omega
        · have hc' : x < 128 := by omega
          by_cases h8 : i ≤ 8
          · have h9b : ((i : Int) == 9) = false := by simp; omega
            rcases Nat.eq_zero_or_pos x with hz | hz
            · rcases Nat.eq_zero_or_pos i with hi0 | hi0
              · obtain ⟨hru, rfl, rfl⟩ := HRES.out _ _ _ (getGo_done p l i u hlt (by rw [← HX.out]; omega) (by rw [← HX.out]; omega) (by omega))
                have hzb : ((x : Int) == 0) = true := by simp; omega
                have hib : ((i : Int) + 1) ≤ 1 := by omega
                have HYX : Hid (ru = y) := by show _ = _; rw [hru, HY.out, HX.out]
                clear HRES HG HU HX HY hz hi0 hru hw HF2
                go_wp2
                simp only [Exit.jump]
                go_ret3
                exact ⟨by rw [HYX.out]; simp [Int.add_assoc], rfl⟩
              · obtain ⟨rfl, rfl, rfl⟩ := HRES.out _ _ _ (getGo_form p l i u hlt (by rw [← HX.out]; exact hz) hi0)
                have hzb : ((x : Int) == 0) = true := by simp; omega
                clear HRES HG HU HX HY hz hw HF2
                go_wp2
                simp only [Exit.jump]
                go_ret3
                exact ⟨rfl, rfl⟩
            · obtain ⟨hru, rfl, rfl⟩ := HRES.out _ _ _ (getGo_done p l i u hlt (by rw [← HX.out]; omega) (by rw [← HX.out]; omega) (by rw [← HX.out]; omega))
              have hzb : ((x : Int) == 0) = false := by simp; omega
              have HYX : Hid (ru = y) := by show _ = _; rw [hru, HY.out, HX.out]
              clear HRES HG HU HX HY hru hw HF2
              go_wp2
              simp only [Exit.jump]
              go_ret3
              exact ⟨by rw [HYX.out]; simp [Int.add_assoc], rfl⟩
          · have h9b : ((i : Int) == 9) = true := by simp; omega
            have hx1 : x ≤ 1 := by omega
            have hi9 : 9 ≤ i := by omega
            rcases Nat.eq_zero_or_pos x with hz | hz
            · obtain ⟨rfl, rfl, rfl⟩ := HRES.out _ _ _ (getGo_form p l i u hlt (by rw [← HX.out]; exact hz) (by omega))
              have hzb : ((x : Int) == 0) = true := by simp; omega
              clear HRES HG HU HX HY hz hw HF2
              go_wp2
              simp only [Exit.jump]
              go_ret3
              exact ⟨rfl, rfl⟩
            · obtain ⟨hru, rfl, rfl⟩ := HRES.out _ _ _ (getGo_done p l i u hlt (by rw [← HX.out]; omega) (by rw [← HX.out]; omega) (by rw [← HX.out]; omega))
              have hzb : ((x : Int) == 0) = false := by simp; omega
              have HYX : Hid (ru = y) := by show _ = _; rw [hru, HY.out, HX.out]
              clear HRES HG HU HX HY hru hw HF2
              go_wp2
              simp only [Exit.jump]
              go_ret3
              exact ⟨by rw [HYX.out]; simp [Int.add_assoc], rfl⟩
    · obtain ⟨rfl, rfl, rfl⟩ := res3 (HG.out.symm.trans (getGo_end p l i u (by omega)))
      have hend : ((i : Int) == (l.length : Int) - (p : Int)) = true := by simp; omega
      clear HG HU HRES
      go_wp2
      simp only [Exit.jump]
      go_ret3
      exact ⟨rfl, rfl⟩
end Go.Proofs.YtbagmmncjmbboaaGreat

/-
  The walks of Get at whatever place, of GetS and Unfold.
-/
namespace Go.Proofs.YtbagmmncjmbboaaGreat
open Go.RowKit
set_option linter.unusedVariables false

def getA (l : List Nat) (at_ : Int) : Nat × Nat × Nat := if at_ < 0 ∨ (l.length : Int) < at_ then (0, 0, 1) else getR l at_.toNat

set_option maxHeartbeats 400000 in
theorem get_any (v : Value) (l : List Nat) (at_ : Int) (w : World) (B : Nat) (hv : RB w B v l) (ru rn re : Nat) (hr : getA l at_ = (ru, rn, re)) :
    Calls Tryz.prog 122 #[v, .int .i64 at_] w fun e w' => e = .returned (.tuple #[.int .u64 (ru : Int), .int .i64 (rn : Int), .int .i64 (re : Int)]) ∧ w = w' := by
  by_cases h1 : at_ < 0
  · unfold getA at hr
    rw [if_pos (.inl h1)] at hr
    obtain ⟨rfl, rfl, rfl⟩ := res3 hr
    obtain ⟨A, c, rfl, ha1, ha2, ha3, HA⟩ := hv.open_
    clear hv hr
    go_enter Tryz.func122, Tryz.ntmps122
    go_wp2
    go_step3
    go_wp2
    rw [Exit.noGoto_ret]
    go_ret3
    exact ⟨rfl, rfl⟩
  · by_cases h2 : (l.length : Int) < at_
    · unfold getA at hr
      rw [if_pos (.inr h2)] at hr
      obtain ⟨rfl, rfl, rfl⟩ := res3 hr
      obtain ⟨A, c, rfl, ha1, ha2, ha3, HA⟩ := hv.open_
      clear hv hr
      go_enter Tryz.func122, Tryz.ntmps122
      go_wp2
      go_step3
      go_wp2
      rw [Exit.noGoto_ret]
      go_ret3
      exact ⟨rfl, rfl⟩
    · unfold getA at hr
      rw [if_neg (by omega)] at hr
      obtain ⟨p, rfl⟩ : ∃ p : Nat, at_ = (p : Int) := ⟨at_.toNat, by omega⟩
      exact get_ok v l p w B hv (by omega) ru rn re (by simpa using hr)

theorem getGo_lt (p : Nat) : ∀ (l : List Nat) (i u : Nat), i ≤ 9 → u < 128 ^ i → (getGo p l i u).1 < 18446744073709551616 := by
  intro l
  induction l with
  | nil => intro i u _ _; simp [getGo]
  | cons c r ih =>
    intro i u hi hu
    rw [getGo]
    split
    · simp
    · rename_i h9
      obtain ⟨h1, h2⟩ := getFits i c u _ hi h9 rfl hu
      split
      · exact ih (i + 1) _ (by omega) h2
      · split
        · simp
        · show u + c % 128 * 128 ^ i < _
          omega
theorem getA_lt (l : List Nat) (at_ : Int) (ru rn re : Nat) (hr : getA l at_ = (ru, rn, re)) : ru < 18446744073709551616 := by
  have : (getA l at_).1 < 18446744073709551616 := by
    unfold getA
    split
    · simp
    · exact getGo_lt _ _ 0 0 (by omega) (by simp)
  rw [hr] at this
  exact this

def unf (u : Nat) : Int := if u % 2 = 0 then ((u / 2 : Nat) : Int) else -((u / 2 : Nat) : Int) - 1

/-- A signed number read. -/
def getSA (l : List Nat) (at_ : Int) : Int × Nat × Nat := if (getA l at_).2.2 = 0 then (unf (getA l at_).1, (getA l at_).2.1, 0) else (0, 0, (getA l at_).2.2)
end Go.Proofs.YtbagmmncjmbboaaGreat

/-
  The walks of GetText, both.
-/
namespace Go.Proofs.YtbagmmncjmbboaaGreat
open Go.RowKit
set_option linter.unusedVariables false

theorem getGo_next (p : Nat) (len : Nat) : ∀ (l : List Nat) (i u : Nat), p + i + l.length ≤ len → (getGo p l i u).2.2 = 0 → p + i < (getGo p l i u).2.1 ∧ (getGo p l i u).2.1 ≤ len := by
  intro l
  induction l with
  | nil => intro i u _ h; simp [getGo] at h
  | cons c r ih =>
    intro i u hlen h
    rw [List.length_cons] at hlen
    rw [getGo] at h ⊢
    split
    · rename_i h9; rw [if_pos h9] at h; simp at h
    · rename_i h9
      rw [if_neg h9] at h
      split
      · rename_i h1
        rw [if_pos h1] at h
        have := ih (i + 1) _ (by omega) h
        omega
      · rename_i h1
        rw [if_neg h1] at h
        split
        · rename_i h2; rw [if_pos h2] at h; simp at h
        · simp; omega
theorem getA_next (l : List Nat) (at_ : Int) (ru rn : Nat) (hr : getA l at_ = (ru, rn, 0)) : 0 ≤ at_ ∧ at_ < (rn : Int) ∧ rn ≤ l.length := by
  unfold getA at hr
  by_cases h : at_ < 0 ∨ (l.length : Int) < at_
  · rw [if_pos h] at hr; simp at hr
  · rw [if_neg h] at hr
    obtain ⟨p, rfl⟩ : ∃ p : Nat, at_ = (p : Int) := ⟨at_.toNat, by omega⟩
    have h1 : getGo p (l.drop p) 0 0 = (ru, rn, 0) := by simpa [getR] using hr
    have := getGo_next p l.length (l.drop p) 0 0 (by rw [List.length_drop]; omega) (by rw [h1])
    rw [h1] at this
    simp at this
    omega

/-- A text read. -/
def textA (l : List Nat) (at_ most : Int) : List Nat × Nat × Nat :=
  if (getA l at_).2.2 ≠ 0 then ([], 0, (getA l at_).2.2)
  else if max most 0 < ((getA l at_).1 : Int) then ([], 0, 4)
  else if l.length - (getA l at_).2.1 < (getA l at_).1 then ([], 0, 2)
  else (piece l (getA l at_).2.1 ((getA l at_).2.1 + (getA l at_).1), (getA l at_).2.1 + (getA l at_).1, 0)

theorem run_mkn (n : Nat) (hn : n ≤ 140737488355328) (W : World) : (Instr.makeSlice 22 (.int .u64 (n : Int)) (.int .u64 (n : Int))).run Tryz.prog W =
    .ok (.slice (some ⟨W.heap.size, 0, none⟩) n n) (W.alloc (.cells (madeCells #[.int .u8 0] n) 5)) := by
  obtain ⟨i0, hi, hz0, hz1, hz2⟩ := info_parts info5
  have := run_make (P := Tryz.prog) W 22 5 i0 _ Tryz.underlying22 hi hz0 .u64 .u64 n n (by omega) (by omega) (by rw [hz2]; omega) (by omega)
  simpa [hz1, Value.cells] using this

set_option maxHeartbeats 400000 in
theorem getText_err (v : Value) (l : List Nat) (at_ most : Int) (w : World) (B : Nat) (hv : RB w B v l) (ru rn re : Nat) (hr : getA l at_ = (ru, rn, re)) (h0 : re ≠ 0) :
    Calls Tryz.prog 105 #[v, .int .i64 at_, .int .i64 most] w fun e w' => e = .returned (.tuple #[.slice none 0 0, .int .i64 0, .int .i64 (re : Int)]) ∧ w = w' := by
  have hne : ((re : Int) != 0) = true := by simp; omega
  have HH := Lib.hid hr
  have HV := Lib.hid hv
  clear hr hv h0
  go_enter Tryz.func105, Tryz.ntmps105
  go_wp2_with fail
  refine (get_any v l at_ w B HV.out ru rn re HH.out).mono ?_
  rintro e w1 ⟨rfl, rfl⟩
  go_wp2
  go_ret3
  exact ⟨rfl, rfl⟩

theorem OB.ofRow {w : World} {B g n : Nat} {cs : List Value} {l : List Nat} (hg : w.heap[g]? = some (.cells cs.toArray 5 (0, 0))) (h : cs = l.map bcell) (hn : l.length = n) (hB : B ≤ g) (hl : ∀ x ∈ l, x < 256) (hlen : n ≤ 140737488355328) :
    OB w B (.slice (some ⟨g, 0, none⟩) n n) l := by
  subst hn
  subst h
  exact ⟨hl, hlen, by simp, .inr ⟨g, l.length, _, rfl, hB, hg, Nat.le_refl _, by simp only [maxLen]; omega, by simp, by rw [List.take_of_length_le (by simp)]⟩⟩
theorem add_plain2 (b off k : Nat) : (⟨b, off, none⟩ : Addr).add k = ⟨b, off + k, none⟩ := by unfold Addr.add; split <;> simp_all
theorem bcells_one (l : List Nat) : ∀ u ∈ l.map bcell, u.oneCell' = true := by
  intro u hu
  simp [bcell] at hu
  obtain ⟨x, _, rfl⟩ := hu
  rfl
theorem size_made (n : Nat) : (madeCells #[Value.int IntKind.u8 0] n).toList.length = n := by simp [madeCells]
theorem splice_all (L cs : List Value) (h : L.length = cs.length) : splice L 0 cs = cs := by
  unfold splice
  rw [List.take_zero, List.nil_append, List.drop_of_length_le (by omega), List.append_nil]

set_option maxHeartbeats 1000000 in
theorem getText_ok (v : Value) (l : List Nat) (at_ most : Int) (w : World) (hv : RB w w.heap.size v l) (n rn : Nat) (hr : getA l at_ = (n, rn, 0)) (hm1 : -9223372036854775808 ≤ most) (hm2 : most ≤ 9223372036854775807) :
    Calls Tryz.prog 105 #[v, .int .i64 at_, .int .i64 most] w fun e w' => ∃ v', e = .returned (.tuple #[v', .int .i64 ((textA l at_ most).2.1 : Nat), .int .i64 ((textA l at_ most).2.2 : Nat)]) ∧ OB w' w.heap.size v' (textA l at_ most).1 ∧ Below w.heap.size w w' := by
  obtain ⟨ha, hb, hc⟩ := getA_next l at_ n rn hr
  have hlt : Hid (n < 18446744073709551616) := getA_lt l at_ n rn 0 hr
  have HH := Lib.hid hr
  have HV := Lib.hid hv
  have ht : textA l at_ most = if max most 0 < (n : Int) then ([], 0, 4) else if l.length - rn < n then ([], 0, 2) else (piece l rn (rn + n), rn + n, 0) := by
    unfold textA
    rw [hr]
    simp
  obtain ⟨A, c, rfl, ha1, ha2, ha3, HA⟩ := hv.open_
  clear hr hv
  by_cases h1 : max most 0 < (n : Int)
  · rw [if_pos h1] at ht
    rw [ht]
    clear ht
    go_enter Tryz.func105, Tryz.ntmps105
    go_wp2_with fail
    refine (get_any _ l at_ w w.heap.size HV.out n rn 0 HH.out).mono ?_
    rintro e w1 ⟨rfl, rfl⟩
    go_wp2
    all_goals
      go_ret3
      exact ⟨_, rfl, OB.nil _ _, Below.refl _ _⟩
  · rw [if_neg h1] at ht
    have h1' : (n : Int) ≤ max most 0 := by omega
    by_cases h2 : l.length - rn < n
    · rw [if_pos h2] at ht
      rw [ht]
      clear ht
      have h2' : (l.length : Int) - (rn : Int) < (n : Int) := by omega
      go_enter Tryz.func105, Tryz.ntmps105
      go_wp2_with fail
      refine (get_any _ l at_ w w.heap.size HV.out n rn 0 HH.out).mono ?_
      rintro e w1 ⟨rfl, rfl⟩
      go_wp2
      all_goals
        go_ret3
        exact ⟨_, rfl, OB.nil _ _, Below.refl _ _⟩
    · rw [if_neg h2] at ht
      rw [ht]
      clear ht
      have h2' : rn + n ≤ l.length := by omega
      have hmk := fun W => run_mkn n (by omega) W
      have hpl : (piece l rn (rn + n)).length = n := by unfold piece; rw [List.length_drop, List.length_take]; omega
      have hpb : ∀ x ∈ piece l rn (rn + n), x < 256 := fun x hx => HV.out.1 x (List.mem_of_mem_take (List.mem_of_mem_drop hx))
      have HPB := Lib.hid hpb
      have HPL := Lib.hid hpl
      have HBel : Hid (Below w.heap.size w (w.alloc (.cells (madeCells #[Value.int IntKind.u8 0] n) 5))) := (Below.refl _ _).alloc (Nat.le_refl _) _
      have HG : Hid ((w.alloc (.cells (madeCells #[Value.int IntKind.u8 0] n) 5)).heap[w.heap.size]? = some (.cells (madeCells #[Value.int IntKind.u8 0] n).toList.toArray 5 (0, 0))) := by
        show _ = _
        rw [Array.toArray_toList]
        exact heap_alloc_new w _
      have HSRC : Hid (0 < n → ∃ b off, A = some ⟨b, off, none⟩ ∧ ∀ j v, ((piece l rn (rn + n)).map bcell)[j]? = some v → (w.alloc (.cells (madeCells #[Value.int IntKind.u8 0] n) 5)).cell? ((⟨b, off + rn, none⟩ : Addr).add j) = some v) := by
        intro hn
        obtain ⟨b, off, hA, hb', _, _⟩ := HA.out rn (by omega)
        refine ⟨b, off, hA, ?_⟩
        refine bcells_at ?_
        intro j x hj
        have hjl : j < n := by
          have := (List.getElem?_eq_some_iff.1 hj).1
          omega
        obtain ⟨b2, off2, hA2, hb2, hcell, _⟩ := HA.out (rn + j) (by omega)
        rw [hA] at hA2
        injection hA2 with hA2
        injection hA2 with e1 e2
        subst e1
        subst e2
        rw [HBel.out.cell (p := ⟨b, off + rn + j, none⟩) hb', Nat.add_assoc, hcell]
        unfold piece at hj
        rw [List.getElem?_drop, List.getElem?_take, if_pos (by omega)] at hj
        have := (List.getElem?_eq_some_iff.1 hj).2
        rw [this]
      clear hpl hpb
      by_cases hcap : c = rn
      · have hcap' := hcap.symm
        subst hcap'
        have hn0 : n ≤ 0 := by omega
        go_enter Tryz.func105, Tryz.ntmps105
        go_wp2_with fail
        refine (get_any _ l at_ w w.heap.size HV.out n rn 0 HH.out).mono ?_
        rintro e w1 ⟨rfl, rfl⟩
        go_wp2_with (with_reducible refine wpList_copy_splice rfl (.tmp 37) (.tmp 40) 22 22 rfl 5 Tryz.underlying22 (by kernel_rfl) _ _ _ _ _ _ rfl rfl w.heap.size 0 (madeCells #[Value.int IntKind.u8 0] n).toList 5 HG.out ((piece l rn (rn + n)).map bcell) (by rw [List.length_map, HPL.out]; exact (Nat.min_eq_right (by omega)).symm) (by intro h; rw [List.length_map, HPL.out] at h; omega) (by rw [size_made, List.length_map, HPL.out]; omega) (bcells_one _) w.heap.size w HBel.out (Nat.le_refl _) ?_; intro w2 hg2 hb2; have HB2 := Lib.hid hb2; clear hb2)
        all_goals
          go_ret3
          refine ⟨_, rfl, OB.ofRow hg2.out (splice_all _ _ (by rw [size_made, List.length_map, HPL.out])) HPL.out (Nat.le_refl _) HPB.out (by omega), HB2.out⟩
      · go_enter Tryz.func105, Tryz.ntmps105
        go_wp2_with fail
        refine (get_any _ l at_ w w.heap.size HV.out n rn 0 HH.out).mono ?_
        rintro e w1 ⟨rfl, rfl⟩
        go_wp2_with (with_reducible refine wpList_copy_splice rfl (.tmp 37) (.tmp 40) 22 22 rfl 5 Tryz.underlying22 (by kernel_rfl) _ _ _ _ _ _ rfl rfl w.heap.size 0 (madeCells #[Value.int IntKind.u8 0] n).toList 5 HG.out ((piece l rn (rn + n)).map bcell) (by rw [List.length_map, HPL.out]; exact (Nat.min_eq_right (by omega)).symm) (by intro h; rw [List.length_map, HPL.out] at h; obtain ⟨b, off, hA, hc2⟩ := HSRC.out h; refine ⟨rfl, ⟨b, off + rn, none⟩, ?_, hc2⟩; rw [hA, Option.map_some, add_plain2]) (by rw [size_made, List.length_map, HPL.out]; omega) (bcells_one _) w.heap.size w HBel.out (Nat.le_refl _) ?_; intro w2 hg2 hb2; have HB2 := Lib.hid hb2; clear hb2)
        all_goals
          go_ret3
          refine ⟨_, rfl, OB.ofRow hg2.out (splice_all _ _ (by rw [size_made, List.length_map, HPL.out])) HPL.out (Nat.le_refl _) HPB.out (by omega), HB2.out⟩
end Go.Proofs.YtbagmmncjmbboaaGreat

/-
  A log in plain words; the walks of lsn, End, Safe, Room.
-/
namespace Go.Proofs.YtbagmmncjmbboaaGreat
open Go.RowKit Go.Maps
set_option linter.unusedVariables false

def encN (n : Nat) : List Value := [.int .i64 (n : Int)]

theorem encN_len (x : Nat) : (encN x).length = 1 := rfl

theorem encN_one (x : Nat) : ∀ u ∈ encN x, u.oneCell' = true := by intro u hu; simp [encN] at hu; subst hu; rfl

structure LG where
  first : Nat
  count : Nat
  run : Nat
  most : Nat
  st : List Nat
  begs : List Nat
  safe : Nat
  fresh : Bool
  dead : Bool

structure LG.Ok (m : LG) : Prop where
  first : m.first ≤ 4096
  count : 1 ≤ m.count ∧ m.count ≤ 4096
  run : m.run ≤ m.most ∧ m.most ≤ 274877906944
  st : m.st.length ≤ m.count * 498
  safe : m.safe ≤ m.st.length
  begs : m.begs.length ≤ m.st.length ∧ ∀ b ∈ m.begs, b < m.st.length

def LG.lsn (m : LG) (a : Nat) : Nat := m.run * 16777216 + a

def LG.room (m : LG) : Nat := m.count * 498 - m.st.length

/-- What is a log's own. -/
def OwnL (g : Nat) (sv bv : Value) (k : Nat) : Prop := k = g ∨ sv.ownBlock = some k ∨ bv.ownBlock = some k

/-- The block g holds a log on the disk at p; its stream and its begins are its own, from block B on. -/
structure LogAt (w : World) (p g B : Nat) (sv bv : Value) (m : LG) : Prop where
  ok : m.Ok
  blk : Blk w g 115 #[.pointer (some ⟨p, 0, none⟩), .int .i64 (m.first : Int), .int .i64 (m.count : Int), .int .i64 (m.run : Int), .int .i64 (m.most : Int), sv, bv, .int .i64 (m.safe : Int), .bool m.fresh, .bool m.dead]
  st : OB w B sv m.st
  begs : OK encN 1 3 w B bv m.begs
  far1 : sv.ownBlock ≠ some g
  far2 : bv.ownBlock ≠ some g
  far3 : sv.ownBlock = none ∨ sv.ownBlock ≠ bv.ownBlock
  base : B ≤ g

section

variable {w w' : World} {p g B : Nat} {sv bv : Value} {m : LG}

theorem LogAt.mod {S : Nat → Prop} (h : LogAt w p g B sv bv m) (hm : Mod S w w') (hn : ∀ k, OwnL g sv bv k → ¬ S k) : LogAt w' p g B sv bv m :=
  ⟨h.ok, h.blk.mod hm (hn g (.inl rfl)), h.st.mod hm (fun b hb => hn b (.inr (.inl hb))), h.begs.mod hm (fun b hb => hn b (.inr (.inr hb))), h.far1, h.far2, h.far3, h.base⟩

theorem LogAt.below (h : LogAt w p g B sv bv m) (hb : Below w.heap.size w w') : LogAt w' p g B sv bv m := h.mod (Mod.of_below hb (fun _ => False)) (fun _ _ => id)

theorem LogAt.lt (h : LogAt w p g B sv bv m) : g < w.heap.size := h.blk.lt

theorem LogAt.own (h : LogAt w p g B sv bv m) : ∀ k, OwnL g sv bv k → B ≤ k ∧ k < w.heap.size := by
  rintro k (rfl | hk | hk)
  · exact ⟨h.base, h.lt⟩
  · exact h.st.lt k hk
  · exact h.begs.lt k hk

theorem LogAt.stream (h : LogAt w p g B sv bv m) : ∃ A c, sv = .slice A m.st.length c := by
  obtain ⟨A, c, e, _⟩ := h.st.rbn.open_
  exact ⟨A, c, e⟩

theorem LogAt.begins (h : LogAt w p g B sv bv m) : ∃ A c, bv = .slice A m.begs.length c := by
  obtain ⟨A, c, e, _⟩ := (h.begs.rk encN_len (Nat.le_refl _)).open_
  exact ⟨A, c, e⟩

end

/-- The same world, the order's tape apart. -/
def Alike0 (w w' : World) : Prop := ∃ n, w' = w.drewN n

theorem lsn_any (w : World) (p g B : Nat) (sv bv : Value) (m : LG) (h : LogAt w p g B sv bv m) (a : Nat) (ha : a ≤ 4000000) :
    Calls Tryz.prog 62 #[.pointer (some ⟨g, 0, none⟩), .int .i64 (a : Int)] w fun e w' => e = .returned (.int .i64 (m.lsn a : Int)) ∧ w' = w := by
  have a3 := h.blk.cell 3
  have hr := h.ok.run
  have hE : Hid ((m.lsn a : Int) = (m.run : Int) * 16777216 + (a : Int)) := Lib.hid (by unfold LG.lsn; omega)
  obtain ⟨r, hrr⟩ : ∃ r, r = m.run := ⟨_, rfl⟩
  rw [← hrr] at a3 hE hr
  have hw1 : IntKind.i64.wrap ((r : Int) * 16777216) = (r : Int) * 16777216 := by rw [IntKind.wrap_i64]; omega
  have hw2 : IntKind.i64.wrap ((r : Int) * 16777216 + (a : Int)) = (r : Int) * 16777216 + (a : Int) := by rw [IntKind.wrap_i64]; omega
  clear h hrr
  go_enter Tryz.func62, Tryz.ntmps62
  go_wp2_with fail
  go_ret
  exact ⟨by rw [hE.out]; rfl, rfl⟩

theorem LG.Ok.num {m : LG} (h : m.Ok) : m.st.length ≤ 2039808 := by have := h.st; have := h.count; omega

theorem logSafe_any (w : World) (p g B : Nat) (sv bv : Value) (m : LG) (h : LogAt w p g B sv bv m) :
    Calls Tryz.prog 38 #[.pointer (some ⟨g, 0, none⟩)] w fun e w' => e = .returned (.int .i64 (m.lsn m.safe : Int)) ∧ w' = w := by
  have a7 := h.blk.cell 7
  have hn : m.safe ≤ 4000000 := by have := h.ok.num; have := h.ok.safe; omega
  have H := Lib.hid h
  clear h
  go_enter Tryz.func38, Tryz.ntmps38
  go_wp2_with fail
  refine (lsn_any w p g B _ bv m H.out _ hn).mono ?_
  rintro e w1 ⟨rfl, h1⟩
  subst w1
  go_wp2_with fail
  go_ret
  exact ⟨rfl, rfl⟩

theorem logRoom_any (w : World) (p g B : Nat) (sv bv : Value) (m : LG) (h : LogAt w p g B sv bv m) :
    Calls Tryz.prog 61 #[.pointer (some ⟨g, 0, none⟩)] w fun e w' => e = .returned (.int .i64 (m.room : Int)) ∧ Alike0 w w' := by
  obtain ⟨A, c, rfl⟩ := h.stream
  have a5 := h.blk.cell 5
  have a2 := h.blk.cell 2
  have hc := h.ok.count
  have hs := h.ok.st
  have hE : Hid ((m.room : Int) = (m.count : Int) * 498 - (m.st.length : Int)) := Lib.hid (by unfold LG.room; omega)
  have hw1 : IntKind.i64.wrap ((m.count : Int) * 498) = (m.count : Int) * 498 := by rw [IntKind.wrap_i64]; omega
  have hw2 : IntKind.i64.wrap ((m.count : Int) * 498 - (m.st.length : Int)) = (m.count : Int) * 498 - (m.st.length : Int) := by rw [IntKind.wrap_i64]; omega
  clear h
  go_enter Tryz.func61, Tryz.ntmps61
  go_wp2_with fail
  go_quiet (fail)
  go_wp2_with fail
  go_ret
  exact ⟨by rw [hE.out]; rfl, nq, rfl⟩

end Go.Proofs.YtbagmmncjmbboaaGreat

/-
  The walks of the log's Flush and Reset.
-/
namespace Go.Proofs.YtbagmmncjmbboaaGreat
open Go.RowKit Go.Maps
set_option linter.unusedVariables false

/-- A log and its disk. -/
structure WalAt (w : World) (p sb mb : Nat) (pl : Option Nat) (s : DS) (g B : Nat) (sv bv : Value) (m : LG) : Prop where
  dk : DiskAt w p sb mb pl s
  lg : LogAt w p g B sv bv m
  sep : p < B ∧ sb < B ∧ mb < B
  pl : ∀ b, pl = some b → ¬ OwnL g sv bv b

/-- What the calls of a log may turn of it and its disk. -/
def OwnW (p sb mb g : Nat) (k : Nat) : Prop := Own p sb mb k ∨ k = g

section

variable {w w' : World} {p sb mb g B : Nat} {pl : Option Nat} {s s' : DS} {sv bv : Value} {m : LG}

theorem WalAt.sepOwn (h : WalAt w p sb mb pl s g B sv bv m) : ∀ k, OwnL g sv bv k → ¬ Own p sb mb k := by
  intro k hk ho
  have h1 := (h.lg.own k hk).1
  have h2 := h.sep
  unfold Own at ho
  omega

theorem WalAt.below (h : WalAt w p sb mb pl s g B sv bv m) (hb : Below w.heap.size w w') : WalAt w' p sb mb pl s g B sv bv m := ⟨h.dk.below hb, h.lg.below hb, h.sep, h.pl⟩

theorem WalAt.log (h : WalAt w p sb mb pl s g B sv bv m) (hm : Mod (Own p sb mb) w w') : LogAt w' p g B sv bv m := h.lg.mod hm h.sepOwn

theorem DiskAt.setLog (h : DiskAt w p sb mb pl s) (hl : WalAt w' p sb mb pl s' g B sv bv m) (i : Nat) (u : Value) : DiskAt (w.setCell ⟨g, i, none⟩ u) p sb mb pl s := by
  have h1 := hl.sep
  have h2 := hl.lg.base
  exact h.mod (S := fun k => k = g) ((Mod.refl (fun k => k = g) w).setCell (p := ⟨g, i, none⟩) (fun _ => rfl) u) (by omega) (by omega) (by omega) (fun b hb e => hl.pl b hb (.inl e))

theorem LogAt.put (h : LogAt w p g B sv bv m) (i : Nat) (u : Value) (m' : LG) (hok : m'.Ok) (hs : m'.st = m.st) (hb : m'.begs = m.begs)
    (hc : (#[.pointer (some ⟨p, 0, none⟩), .int .i64 (m.first : Int), .int .i64 (m.count : Int), .int .i64 (m.run : Int), .int .i64 (m.most : Int), sv, bv, .int .i64 (m.safe : Int), .bool m.fresh, .bool m.dead] : Array Value).setIfInBounds i u =
      #[.pointer (some ⟨p, 0, none⟩), .int .i64 (m'.first : Int), .int .i64 (m'.count : Int), .int .i64 (m'.run : Int), .int .i64 (m'.most : Int), sv, bv, .int .i64 (m'.safe : Int), .bool m'.fresh, .bool m'.dead]) :
    LogAt (w.setCell ⟨g, i, none⟩ u) p g B sv bv m' := by
  have hm : Mod (fun k => k = g) w (w.setCell ⟨g, i, none⟩ u) := (Mod.refl (fun k => k = g) w).setCell (p := ⟨g, i, none⟩) (fun _ => rfl) u
  refine ⟨hok, ?_, ?_, ?_, h.far1, h.far2, h.far3, h.base⟩
  · have := h.blk.set_ i u
    rw [hc] at this
    exact this
  · rw [hs]; exact h.st.mod hm (fun b hb e => h.far1 (by rw [hb, e]))
  · rw [hb]; exact h.begs.mod hm (fun b hb e => h.far2 (by rw [hb, e]))

end

/-- Flush: the disk and the log behind it, and what it answers. -/
def LG.flush (m : LG) (s : DS) : DS × LG × Int :=
  if m.dead = true then (s, m, 91) else if m.safe = m.st.length then (s, m, 0)
  else if (DS.save m.run m.first m.st m.st.length (m.safe / 498) s).2 = 0 then ((DS.save m.run m.first m.st m.st.length (m.safe / 498) s).1, { m with safe := m.st.length }, 0)
  else ((DS.save m.run m.first m.st m.st.length (m.safe / 498) s).1, { m with dead := true }, (DS.save m.run m.first m.st m.st.length (m.safe / 498) s).2)

set_option maxRecDepth 100000 in
set_option maxHeartbeats 1000000 in
theorem Flush_any (w : World) (p sb mb g B : Nat) (pl : Option Nat) (s : DS) (sv bv : Value) (m : LG) (h : WalAt w p sb mb pl s g B sv bv m) (hst : s.steps < 1000000000000000) :
    Calls Tryz.prog 58 #[.pointer (some ⟨g, 0, none⟩)] w fun e w' => e = .returned (.int .i64 (m.flush s).2.2) ∧ WalAt w' p sb mb pl (m.flush s).1 g B sv bv (m.flush s).2.1 ∧ Mod (OwnW p sb mb g) w w' := by
  have a9 := h.lg.blk.cell 9
  have H := Lib.hid h
  have HST := Lib.hid hst
  clear h hst
  cases hd : m.dead with
  | true =>
    have e1 : Hid (m.flush s = (s, m, 91)) := Lib.hid (by unfold LG.flush; rw [if_pos hd])
    rw [hd] at a9
    clear hd
    go_enter Tryz.func58, Tryz.ntmps58
    go_wp2_with fail
    go_ret
    exact ⟨by rw [e1.out]; rfl, by rw [e1.out]; exact H.out, Mod.refl _ _⟩
  | false =>
    rw [hd] at a9
    obtain ⟨A, c, hsv⟩ := H.out.lg.stream
    have a5 := H.out.lg.blk.cell 5
    have a7 := H.out.lg.blk.cell 7
    obtain ⟨n, hn⟩ : ∃ n, n = m.st.length := ⟨_, rfl⟩
    obtain ⟨q, hq⟩ : ∃ q, q = m.safe := ⟨_, rfl⟩
    have hle : q ≤ n := by rw [hq, hn]; exact H.out.lg.ok.safe
    have hnum : n ≤ 2039808 := by rw [hn]; exact H.out.lg.ok.num
    rw [← hq] at a7
    rw [hsv, ← hn] at a5
    have HN := Lib.hid hn
    have HQ := Lib.hid hq
    have HSV := Lib.hid hsv
    have HD := Lib.hid hd
    by_cases he : q = n
    · have e1 : Hid (m.flush s = (s, m, 0)) := Lib.hid (by unfold LG.flush; rw [hd, ← hq, ← hn, if_pos he]; rfl)
      clear hn hq hsv hd
      subst he
      go_enter Tryz.func58, Tryz.ntmps58
      go_wp2_with fail
      go_quiet (fail)
      go_wp2_with fail
      go_ret
      exact ⟨by rw [e1.out]; rfl, by rw [e1.out]; exact H.out.below (below_drewN (Below.refl _ _) _), Mod.of_below (below_drewN (Below.refl _ _) _) _⟩
    · obtain ⟨r, hr⟩ : ∃ r, r = DS.save m.run m.first m.st m.st.length (m.safe / 498) s := ⟨_, rfl⟩
      have hei : ¬ (q : Int) = (n : Int) := by omega
      obtain ⟨k, hk⟩ : ∃ k, k = q / 498 := ⟨_, rfl⟩
      have hA : ∃ b, A = some ⟨b, 0, none⟩ ∧ (¬ Own p sb mb b) := by
        obtain ⟨g1, cap, e, h1, h2, _⟩ := H.out.lg.st.form (by rw [← hn]; omega)
        rw [hsv] at e
        injection e with e1 e2 e3
        refine ⟨g1, e1, fun ho => ?_⟩
        have := H.out.sep
        unfold Own at ho
        omega
      obtain ⟨b, rfl, hbo⟩ := hA
      have a0 := H.out.lg.blk.cell 0
      have a1 := H.out.lg.blk.cell 1
      have a3 := H.out.lg.blk.cell 3
      have hrn := H.out.lg.ok.run
      have hfi := H.out.lg.ok.first
      obtain ⟨f, hf⟩ : ∃ f, f = m.first := ⟨_, rfl⟩
      obtain ⟨rn, hrun⟩ : ∃ rn, rn = m.run := ⟨_, rfl⟩
      have hrn2 : rn < 9223372036854775808 := by omega
      have hf2 : f ≤ 4096 := by omega
      rw [← hf] at a1
      rw [← hrun] at a3
      have HR : Hid (r = DS.save rn f m.st n k s) := Lib.hid (by rw [hr, hrun, hf, hn, hk, hq])
      have HK := Lib.hid hk
      have HF := Lib.hid hf
      have HRN := Lib.hid hrun
      have HRB : Hid (RB w w.heap.size (.slice (some ⟨b, 0, none⟩) n c) m.st) := Lib.hid (by have := H.out.lg.st.rbn; rw [hsv, ← hn] at this; exact this)
      have HBO := Lib.hid hbo
      have hglt := H.out.lg.lt
      have f9 := H.out.lg.blk.frozen 9
      have f7 := H.out.lg.blk.frozen 7
      have HM : Hid (m.flush s = if r.2 = 0 then (r.1, { m with safe := m.st.length }, 0) else (r.1, { m with dead := true }, r.2)) := Lib.hid (by unfold LG.flush; rw [← hr, if_neg (by rw [hd]; simp), if_neg (by rw [← hq, ← hn]; exact he)])
      have hdv : (q : Int) / 498 = (k : Int) := by omega
      have hk1 : k * 498 < n := by omega
      have hk2 : n ≤ (k + n) * 498 := by omega
      clear hn hq hsv hd hr hk hf hrun hbo hrn hfi
      go_enter Tryz.func58, Tryz.ntmps58
      go_wp2_with fail
      go_quiet (fail)
      go_wp2_with fail
      obtain ⟨W2, hbw, hW⟩ : ∃ W2, Below w.heap.size w W2 ∧ W2 = (w.drewN nq).drew := ⟨_, below_drewN (Below.refl _ _) (nq + 1), rfl⟩
      have HBW := Lib.hid hbw
      have b0 : W2.cell? ⟨g, 0, none⟩ = some (.pointer (some ⟨p, 0, none⟩)) := (hbw.cell (p := ⟨g, 0, none⟩) hglt).trans a0
      have b1 : W2.cell? ⟨g, 1, none⟩ = some (.int .i64 (f : Int)) := (hbw.cell (p := ⟨g, 1, none⟩) hglt).trans a1
      have b3 : W2.cell? ⟨g, 3, none⟩ = some (.int .i64 (rn : Int)) := (hbw.cell (p := ⟨g, 3, none⟩) hglt).trans a3
      have b5 : W2.cell? ⟨g, 5, none⟩ = some (.slice (some ⟨b, 0, none⟩) n c) := (hbw.cell (p := ⟨g, 5, none⟩) hglt).trans a5
      have b7 : W2.cell? ⟨g, 7, none⟩ = some (.int .i64 (q : Int)) := (hbw.cell (p := ⟨g, 7, none⟩) hglt).trans a7
      have HD2 : Hid (WalAt W2 p sb mb pl s g B sv bv m) := Lib.hid (H.out.below hbw)
      have HR2 : Hid (RB W2 W2.heap.size (.slice (some ⟨b, 0, none⟩) n c) m.st) := Lib.hid ((HRB.out.below hbw).more hbw.size)
      clear hbw a0 a1 a3 a5 a7 a9
      refine still_tail_at 21 W2 hW (by kernel_rfl) (by kernel_rfl) ?_
      clear hW
      simp only [List.take_succ_cons, List.take_zero, List.drop_succ_cons, List.drop_zero]
      iterate 21 still_step
      try refine wpStill_nil ?_
      go_wp2_with fail
      refine (save_some W2 p sb mb b 0 n c pl s f rn m.st n k HD2.out.dk HST.out HR2.out (.inr (fun b' hb' => by simp only [Value.ownBlock] at hb'; injection hb' with e; exact e ▸ HBO.out)) HN.out HBO.out (by omega) hrn2 (by rw [← HN.out]; omega) (by rw [← HN.out]; exact hk1) (by rw [← HN.out]; exact hk2) (by omega)).mono ?_
      rw [← HR.out]
      rintro e w3 ⟨rfl, hd3, hm3⟩
      obtain ⟨rs, re⟩ := r
      have HDS : Hid (DiskAt w3 p sb mb pl rs) := Lib.hid hd3
      have hglt2 : g < W2.heap.size := Nat.lt_of_lt_of_le hglt HBW.out.size
      have HL3 : Hid (LogAt w3 p g B sv bv m) := Lib.hid (HD2.out.log hm3)
      have HM3 : Hid (Mod (Own p sb mb) w w3) := Lib.hid ((Mod.of_below HBW.out _).trans' hm3)
      have f9' := HL3.out.blk.frozen 9
      have f7' := HL3.out.blk.frozen 7
      have c9 := HL3.out.blk.cell 9
      have c7 := HL3.out.blk.cell 7
      have c5 : w3.cell? ⟨g, 5, none⟩ = some (.slice (some ⟨b, 0, none⟩) n c) := by
        have := HL3.out.blk.cell 5
        rw [HSV.out, ← HN.out] at this; exact this
      clear hd3 hm3 f9 f7 b0 b1 b3 b5 b7
      by_cases hre : re = 0
      · have e1 : Hid (m.flush s = (rs, { m with safe := m.st.length }, 0)) := Lib.hid (by rw [HM.out]; exact if_pos hre)
        subst hre
        go_wp2_with fail
        go_ret
        refine ⟨by rw [e1.out]; rfl, ?_, ?_⟩
        · rw [e1.out]
          refine ⟨HDS.out.setLog HD2.out 7 _, ?_, H.out.sep, H.out.pl⟩
          refine HL3.out.put 7 _ _ ⟨H.out.lg.ok.first, H.out.lg.ok.count, H.out.lg.ok.run, H.out.lg.ok.st, Nat.le_refl _, H.out.lg.ok.begs⟩ rfl rfl ?_
          rw [← HN.out]; rfl
        · exact (HM3.out.mono (fun k _ e => .inl e)).setCell (p := ⟨g, 7, none⟩) (fun _ => .inr rfl) _
      · have e1 : Hid (m.flush s = (rs, { m with dead := true }, re)) := Lib.hid (by rw [HM.out]; exact if_neg hre)
        go_wp2_with fail
        go_ret
        refine ⟨by rw [e1.out]; rfl, ?_, ?_⟩
        · rw [e1.out]
          refine ⟨HDS.out.setLog HD2.out 9 _, ?_, H.out.sep, H.out.pl⟩
          exact HL3.out.put 9 _ _ ⟨H.out.lg.ok.first, H.out.lg.ok.count, H.out.lg.ok.run, H.out.lg.ok.st, H.out.lg.ok.safe, H.out.lg.ok.begs⟩ rfl rfl rfl
        · exact (HM3.out.mono (fun k _ e => .inl e)).setCell (p := ⟨g, 9, none⟩) (fun _ => .inr rfl) _

end Go.Proofs.YtbagmmncjmbboaaGreat
