/-
  The walk of skeinlaw01.NumBack.
-/
import Derived.Test.YtaboknjokdgjeaaQ1
namespace Go.Proofs.Ytaboknjokdgjeaa
open Go.RowKit
set_option linter.unusedVariables false

theorem fits9 (m i : Nat) (hi : i ≤ 9) (h : m * 128 ^ i < 18446744073709551616) : ¬ (i = 9 ∧ 1 < m) := by
  rintro ⟨rfl, h1⟩
  have : 2 * 128 ^ 9 ≤ m * 128 ^ 9 := Nat.mul_le_mul_right _ h1
  omega

theorem getGo_fwd (p : Nat) (r : List Nat) : ∀ (N m i u0 : Nat), m ≤ N → i ≤ 9 → (0 < i → 0 < m) → m * 128 ^ i < 18446744073709551616 →
    getGo p (putL m ++ r) i u0 = (u0 + m * 128 ^ i, p + i + (putL m).length, 0) := by
  intro N
  induction N with
  | zero =>
    intro m i u0 hm hi hp hf
    obtain rfl : m = 0 := by omega
    rw [putL_last 0 (by omega), List.singleton_append, getGo, if_neg (by omega), if_neg (by omega), if_neg (by omega)]
    simp
  | succ N ih =>
    intro m i u0 hm hi hp hf
    have h9 := fits9 m i hi hf
    by_cases h : m < 128
    · rw [putL_last m h, List.singleton_append, getGo, if_neg h9, if_neg (by omega), if_neg (by omega), Nat.mod_eq_of_lt h]
      simp
    · have hi8 : i ≠ 9 := fun e => h9 ⟨e, by omega⟩
      rw [putL_more m h, List.cons_append, getGo, if_neg (by omega), if_pos (by omega)]
      have hsum : (m % 128 + 128) % 128 * 128 ^ i + m / 128 * 128 ^ (i + 1) = m * 128 ^ i := by
        rw [show (m % 128 + 128) % 128 = m % 128 by omega, Nat.pow_succ, ← Nat.mul_assoc, Nat.mul_right_comm, ← Nat.add_mul]
        congr 1
        omega
      rw [ih (m / 128) (i + 1) _ (by omega) (by omega) (by omega) (by omega)]
      rw [List.length_cons]
      congr 1
      · omega
      · congr 1
        omega

theorem getGo_short (p : Nat) : ∀ (N m i u0 : Nat), m ≤ N → i ≤ 9 → m * 128 ^ i < 18446744073709551616 → getGo p (putL m).dropLast i u0 = (0, 0, 2) := by
  intro N
  induction N with
  | zero =>
    intro m i u0 hm hi hf
    obtain rfl : m = 0 := by omega
    rw [putL_last 0 (by omega)]
    rfl
  | succ N ih =>
    intro m i u0 hm hi hf
    have h9 := fits9 m i hi hf
    by_cases h : m < 128
    · rw [putL_last m h]; rfl
    · have hi8 : i ≠ 9 := fun e => h9 ⟨e, by omega⟩
      have hne : putL (m / 128) ≠ [] := by have := putL_pos (m / 128); intro e; rw [e] at this; simp at this
      rw [putL_more m h, List.dropLast_cons_of_ne_nil hne, getGo, if_neg (by omega), if_pos (by omega)]
      have hsum : m / 128 * 128 ^ (i + 1) ≤ m * 128 ^ i := by
        rw [Nat.pow_succ, Nat.mul_comm (128 ^ i), ← Nat.mul_assoc]
        exact Nat.mul_le_mul_right _ (by omega)
      exact ih (m / 128) (i + 1) _ (by omega) (by omega) (by omega)

theorem getA_fwd (a r : List Nat) (u : Nat) (h : u < 18446744073709551616) : getA ((a ++ putL u) ++ r) (a.length : Int) = (u, a.length + (putL u).length, 0) := by
  unfold getA
  rw [if_neg (by simp; omega)]
  unfold getR
  rw [Int.toNat_natCast, List.append_assoc, List.drop_left, getGo_fwd a.length r u u 0 0 (Nat.le_refl _) (by omega) (by omega) (by simpa using h)]
  simp
theorem getA_short (u : Nat) (h : u < 18446744073709551616) : getA (piece (putL u) 0 ((putL u).length - 1)) 0 = (0, 0, 2) := by
  have e : piece (putL u) 0 ((putL u).length - 1) = (putL u).dropLast := by rw [piece_eq, List.drop_zero, Nat.sub_zero, List.dropLast_eq_take]
  rw [e]
  unfold getA
  rw [if_neg (by simp)]
  unfold getR
  rw [Int.toNat_zero, List.drop_zero]
  exact getGo_short 0 u u 0 0 (Nat.le_refl _) (by omega) (by simpa using h)
theorem textA_fwd (a r s : List Nat) (h : s.length < 18446744073709551616) : textA ((a ++ (putL s.length ++ s)) ++ r) (a.length : Int) (s.length : Int) = (s, a.length + (putL s.length ++ s).length, 0) := by
  have hg := getA_fwd a (s ++ r) s.length h
  have e : (a ++ (putL s.length ++ s)) ++ r = (a ++ putL s.length) ++ (s ++ r) := by simp
  rw [e]
  unfold textA
  rw [hg]
  simp only [ne_eq, not_true, if_false]
  rw [if_neg (by omega), if_neg (by simp; omega)]
  have hp : piece (a ++ putL s.length ++ (s ++ r)) (a.length + (putL s.length).length) (a.length + (putL s.length).length + s.length) = s := by
    rw [piece_eq, show a.length + (putL s.length).length = (a ++ putL s.length).length by simp, List.drop_left]
    rw [show (a ++ putL s.length).length + s.length - (a ++ putL s.length).length = s.length by omega, List.take_left]
  rw [hp]
  simp [Nat.add_assoc]

set_option maxRecDepth 100000 in
set_option maxHeartbeats 4000000 in
theorem numBack_walk (ui : Int) (v : Int) (s a b : Value) (l ah be : List Nat) (w : World) (hu : (Lit.int .u64 ui).wf = true) (hv : (Lit.int .i64 v).wf = true)
    (hs : RB w w.heap.size s l) (ha : RB w w.heap.size a ah) (hb : RB w w.heap.size b be) (hl : l.length ≤ 1048576) (hla : ah.length ≤ 1048576) (hlb : be.length ≤ 1048576) :
    Calls Try.prog 5 #[.int .u64 ui, .int .i64 v, s, a, b] w fun e w' => e = .returned (.bool true) ∧ Below w.heap.size w w' := by
  obtain ⟨hv1, hv2⟩ := wf64 hv
  obtain ⟨hu1, hu2⟩ := wfu64 hu
  obtain ⟨u, rfl⟩ : ∃ u : Nat, ui = (u : Int) := ⟨ui.toNat, by omega⟩
  have HPU : Hid ((putL u).length ≤ 10) := putL_ten u (by omega)
  have HPV : Hid ((putL (foldN v)).length ≤ 10) := putL_ten _ (foldN_lt v hv1 hv2)
  have HPL : Hid ((putL l.length).length ≤ 10) := putL_ten _ (by omega)
  have HV1 : Hid (-9223372036854775808 ≤ v ∧ v ≤ 9223372036854775807) := ⟨hv1, hv2⟩
  have HG : Hid (getA ((ah ++ putL u) ++ be) (ah.length : Int) = (u, ah.length + (putL u).length, 0)) := getA_fwd ah be u (by omega)
  have HSH : Hid (getA (piece (putL u) 0 ((putL u).length - 1)) 0 = (0, 0, 2)) := getA_short u (by omega)
  have HGS : Hid (getSA ((ah ++ putL (foldN v)) ++ be) (ah.length : Int) = (v, ah.length + (putL (foldN v)).length, 0)) := by
    have := getSA_ok _ _ _ _ (getA_fwd ah be (foldN v) (foldN_lt v hv1 hv2))
    rw [unf_fold] at this
    exact this
  have HGT : Hid (textA ((ah ++ (putL l.length ++ l)) ++ be) (ah.length : Int) (l.length : Int) = (l, ah.length + (putL l.length ++ l).length, 0)) := textA_fwd ah be l (by omega)
  clear hu hv hv1 hv2 hu1 hu2
  have HS := Lib.hid hs
  have HA := Lib.hid ha
  have HB := Lib.hid hb
  obtain ⟨A, c, rfl, ha1, ha2, ha3, _⟩ := hs.open_
  obtain ⟨A2, c2, rfl, ha4, ha5, ha6, _⟩ := ha.open_
  obtain ⟨A3, c3, rfl, ha7, ha8, ha9, _⟩ := hb.open_
  clear hs ha hb
  go_enter Try.func5, Try.ntmps5
  go_wp2_with fail
  refine (alive1 w).mono ?_
  rintro e w1 ⟨rfl, hb1⟩
  have HS1 := Lib.hid (RBn' HS.out hb1)
  have HA1 := Lib.hid (RBn' HA.out hb1)
  have HB1 := Lib.hid (RBn' HB.out hb1)
  have HX1 := Lib.hid hb1
  clear hb1 HS HA HB
  go_wp2_with fail
  refine (put_any u w1 HPU).mono ?_
  rintro e w2 ⟨p2, rfl, ho2, hb2⟩
  have HO2 := Lib.hid (ho2.rb (B' := w2.heap.size) (Nat.le_refl _))
  have HS2 := Lib.hid (RBn' HS1.out hb2)
  have HA2 := Lib.hid (RBn' HA1.out hb2)
  have HB2 := Lib.hid (RBn' HB1.out hb2)
  have HX2 := Lib.hid (HX1.out.trans (hb2.mono HX1.out.size))
  obtain ⟨Ap, cp, rfl, hp1, hp2, hp3, _⟩ := HO2.out.open_
  have hpos := putL_pos u
  obtain ⟨np, hnp⟩ : ∃ np, np = (putL u).length := ⟨_, rfl⟩
  rw [← hnp] at hp1 hp3 hpos ⊢
  have HNP := Lib.hid hnp
  clear ho2 hb2 HS1 HA1 HB1 HX1 hnp
  go_wp2_with fail
  refine (cat_any _ _ ah (putL u) w2 HA2.out (by rw [HNP.out]; exact HO2.out) (by have := HPU.out; omega)).mono ?_
  rintro e w3 ⟨v3, rfl, ho3, hb3⟩
  have HO3 := Lib.hid (ho3.rb (B' := w3.heap.size) (Nat.le_refl _))
  have HP3 := Lib.hid (RBn' HO2.out hb3)
  have HS3 := Lib.hid (RBn' HS2.out hb3)
  have HA3 := Lib.hid (RBn' HA2.out hb3)
  have HB3 := Lib.hid (RBn' HB2.out hb3)
  have HX3 := Lib.hid (HX2.out.trans (hb3.mono HX2.out.size))
  clear ho3 hb3 HS2 HA2 HB2 HX2 HO2
  go_wp2_with fail
  refine (cat_any _ _ (ah ++ putL u) be w3 HO3.out HB3.out (by have := HPU.out; rw [List.length_append]; omega)).mono ?_
  rintro e w4 ⟨v4, rfl, ho4, hb4⟩
  have HO4 := Lib.hid (ho4.rb (B' := w4.heap.size) (Nat.le_refl _))
  have HP4 := Lib.hid (RBn' HP3.out hb4)
  have HS4 := Lib.hid (RBn' HS3.out hb4)
  have HA4 := Lib.hid (RBn' HA3.out hb4)
  have HB4 := Lib.hid (RBn' HB3.out hb4)
  have HX4 := Lib.hid (HX3.out.trans (hb4.mono HX3.out.size))
  clear ho4 hb4 HS3 HA3 HB3 HX3 HP3 HO3
  go_wp2_with fail
  refine (get_any _ _ (ah.length : Int) w4 _ HO4.out u (ah.length + (putL u).length) 0 HG.out).mono ?_
  rw [← HNP.out]
  rintro e w5 ⟨rfl, rfl⟩
  clear HO4
  go_wp2_with fail
  rw [show ((np : Int) - 1) = ((np - 1 : Nat) : Int) by omega]
  refine (piece_any _ (putL u) 0 (np - 1) w4 (by rw [HNP.out]; exact HP4.out) (by omega) (by omega)).mono ?_
  rintro e w5 ⟨v5, rfl, ho5, hb5⟩
  have HO5 := Lib.hid (ho5.rb (B' := w5.heap.size) (Nat.le_refl _))
  have HS5 := Lib.hid (RBn' HS4.out hb5)
  have HA5 := Lib.hid (RBn' HA4.out hb5)
  have HB5 := Lib.hid (RBn' HB4.out hb5)
  have HX5 := Lib.hid (HX4.out.trans (hb5.mono HX4.out.size))
  clear ho5 hb5 HS4 HA4 HB4 HX4 HP4
  go_wp2_with fail
  refine (get_any _ _ 0 w5 _ HO5.out 0 0 2 (by rw [HNP.out]; exact HSH.out)).mono ?_
  rintro e w6 ⟨rfl, rfl⟩
  clear HO5
  go_wp2_with fail
  refine (puts_any v w5 HV1.out.1 HV1.out.2 HPV).mono ?_
  rintro e w6 ⟨q6, rfl, ho6, hb6⟩
  have HO6 := Lib.hid (ho6.rb (B' := w6.heap.size) (Nat.le_refl _))
  have HS6 := Lib.hid (RBn' HS5.out hb6)
  have HA6 := Lib.hid (RBn' HA5.out hb6)
  have HB6 := Lib.hid (RBn' HB5.out hb6)
  have HX6 := Lib.hid (HX5.out.trans (hb6.mono HX5.out.size))
  obtain ⟨Aq, cq, rfl, hq1, hq2, hq3, _⟩ := HO6.out.open_
  obtain ⟨nq, hnq⟩ : ∃ nq, nq = (putL (foldN v)).length := ⟨_, rfl⟩
  rw [← hnq] at hq1 hq3 ⊢
  have HNQ := Lib.hid hnq
  clear ho6 hb6 HS5 HA5 HB5 HX5 hnq
  go_wp2_with fail
  refine (cat_any _ _ ah (putL (foldN v)) w6 HA6.out (by rw [HNQ.out]; exact HO6.out) (by have := HPV.out; omega)).mono ?_
  rintro e w7 ⟨v7, rfl, ho7, hb7⟩
  have HO7 := Lib.hid (ho7.rb (B' := w7.heap.size) (Nat.le_refl _))
  have HS7 := Lib.hid (RBn' HS6.out hb7)
  have HA7 := Lib.hid (RBn' HA6.out hb7)
  have HB7 := Lib.hid (RBn' HB6.out hb7)
  have HX7 := Lib.hid (HX6.out.trans (hb7.mono HX6.out.size))
  clear ho7 hb7 HS6 HA6 HB6 HX6 HO6
  go_wp2_with fail
  refine (cat_any _ _ (ah ++ putL (foldN v)) be w7 HO7.out HB7.out (by have := HPV.out; rw [List.length_append]; omega)).mono ?_
  rintro e w8 ⟨v8, rfl, ho8, hb8⟩
  have HO8 := Lib.hid (ho8.rb (B' := w8.heap.size) (Nat.le_refl _))
  have HS8 := Lib.hid (RBn' HS7.out hb8)
  have HA8 := Lib.hid (RBn' HA7.out hb8)
  have HB8 := Lib.hid (RBn' HB7.out hb8)
  have HX8 := Lib.hid (HX7.out.trans (hb8.mono HX7.out.size))
  clear ho8 hb8 HS7 HA7 HB7 HX7 HO7
  go_wp2_with fail
  refine (gets_any _ _ (ah.length : Int) w8 _ HO8.out v (ah.length + (putL (foldN v)).length) 0 HGS.out).mono ?_
  rw [← HNQ.out]
  rintro e w9 ⟨rfl, rfl⟩
  clear HO8
  go_wp2_with fail
  refine (putText_any _ l w8 HS8.out (by omega)).mono ?_
  rintro e w9 ⟨q9, rfl, ho9, hb9⟩
  have HO9 := Lib.hid (ho9.rb (B' := w9.heap.size) (Nat.le_refl _))
  have HS9 := Lib.hid (RBn' HS8.out hb9)
  have HA9 := Lib.hid (RBn' HA8.out hb9)
  have HB9 := Lib.hid (RBn' HB8.out hb9)
  have HX9 := Lib.hid (HX8.out.trans (hb9.mono HX8.out.size))
  obtain ⟨Ar, cr, rfl, hr1, hr2, hr3, _⟩ := HO9.out.open_
  obtain ⟨nr, hnr⟩ : ∃ nr, nr = (putL l.length ++ l).length := ⟨_, rfl⟩
  have hnr2 : nr ≤ 1048600 := by have := HPL.out; rw [hnr, List.length_append]; omega
  rw [← hnr] at hr1 hr3 ⊢
  have HNR := Lib.hid hnr
  clear ho9 hb9 HS8 HA8 HB8 HX8 hnr
  go_wp2_with fail
  refine (cat_any _ _ ah (putL l.length ++ l) w9 HA9.out (by rw [HNR.out]; exact HO9.out) (by rw [← HNR.out]; omega)).mono ?_
  rintro e w10 ⟨v10, rfl, ho10, hb10⟩
  have HO10 := Lib.hid (ho10.rb (B' := w10.heap.size) (Nat.le_refl _))
  have HS10 := Lib.hid (RBn' HS9.out hb10)
  have HB10 := Lib.hid (RBn' HB9.out hb10)
  have HX10 := Lib.hid (HX9.out.trans (hb10.mono HX9.out.size))
  clear ho10 hb10 HS9 HA9 HB9 HX9 HO9
  go_wp2_with fail
  refine (cat_any _ _ (ah ++ (putL l.length ++ l)) be w10 HO10.out HB10.out (by rw [List.length_append, ← HNR.out]; omega)).mono ?_
  rintro e w11 ⟨v11, rfl, ho11, hb11⟩
  have HO11 := Lib.hid (ho11.rb (B' := w11.heap.size) (Nat.le_refl _))
  have HS11 := Lib.hid (RBn' HS10.out hb11)
  have HX11 := Lib.hid (HX10.out.trans (hb11.mono HX10.out.size))
  clear ho11 hb11 HS10 HB10 HX10 HO10
  go_wp2_with fail
  refine (getText_any _ _ (ah.length : Int) (l.length : Int) w11 HO11.out (by omega) (by omega) l (ah.length + (putL l.length ++ l).length) 0 HGT.out).mono ?_
  rw [← HNR.out]
  rintro e w12 ⟨v12, rfl, ho12, hb12⟩
  have HO12 := Lib.hid (ho12.rb (B' := w12.heap.size) (Nat.le_refl _))
  have HS12 := Lib.hid (RBn' HS11.out hb12)
  have HX12 := Lib.hid (HX11.out.trans (hb12.mono HX11.out.size))
  clear ho12 hb12 HS11 HX11 HO11
  go_wp2_with fail
  refine (same_yes v12 _ l w12 _ HO12.out HS12.out).mono ?_
  rintro e w13 ⟨rfl, n13, rfl⟩
  go_wp2
  go_ret
  exact ⟨rfl, below_drewN' HX12.out n13⟩

theorem numBack_gen (ui : Int) (v : Int) (s : Value) (l : List Nat) (a : Value) (ah : List Nat) (b : Value) (be : List Nat) (w : World) (hu : (Lit.int .u64 ui).wf = true) (hv : (Lit.int .i64 v).wf = true)
    (hs : RB w w.heap.size s l) (hl : l.length ≤ 1048576) (ha : RB w w.heap.size a ah) (hla : ah.length ≤ 1048576) (hb : RB w w.heap.size b be) (hlb : be.length ≤ 1048576) :
    Calls Try.prog 5 #[.int .u64 ui, .int .i64 v, s, a, b] w fun e w' => e = .returned (.bool true) ∧ Below w.heap.size w w' :=
  numBack_walk ui v s a b l ah be w hu hv hs ha hb hl hla hlb
end Go.Proofs.Ytaboknjokdgjeaa
