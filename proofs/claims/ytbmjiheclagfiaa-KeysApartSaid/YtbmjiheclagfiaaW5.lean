/-
  The walk of skeinlaw04.KeysApart: its keys are alike.
-/
import Derived.Test.YtbmjiheclagfiaaO3
import Derived.Test.YtbmjiheclagfiaaW4
namespace Go.Proofs.Ytbmjiheclagfiaa
open Go.RowKit
set_option linter.unusedVariables false

theorem piece_num (v : Value) (l : List Nat) (hi : Nat) (z : Int) (w : World) (hv : RB w w.heap.size v l) (hz : z = (hi : Int)) (hhi : hi ≤ 9223372036854775807) :
    Calls Try.prog 29 #[v, .int .i64 0, .int .i64 z] w fun e w' => ∃ v', e = .returned v' ∧ OB w' w.heap.size v' (piece l 0 hi) ∧ Below w.heap.size w w' := by
  subst hz
  exact piece_any v l 0 hi w hv (by omega) hhi

set_option maxRecDepth 100000 in
set_option maxHeartbeats 8000000 in
theorem keysApart_A (e0 : Bool) (n0 : Int) (e1 : Bool) (n1 : Int) (x : ByteArray) (s t : Int) (w : World) (hx : x.size ≤ 140737488351232) (hs : (Lit.int .i64 s).wf = true) (ht : (Lit.int .i64 t).wf = true) (K M : List Nat) (hK : K.length ≤ 40) (hR0 : propR e0 n0 x = (K, 0)) (hR1 : propR e1 n1 x = (K, 0)) (hRe : elemR e0 n0 = (M, 0)) (hKM : sameB K M = false) (heq : ∀ W, (Op.equalIn 10000 29 (.agg #[.bool e0, .int .i64 n0]) (.agg #[.bool e1, .int .i64 n1])).run Try.prog W = .ok true W) :
    Calls Try.prog 8 #[refV e0 n0, refV e1 n1, .string x, .string x, .int .i64 s, .int .i64 t] w fun e w' => e = .returned (.bool true) ∧ Below w.heap.size w w' := by
  have HKK : Hid (K.length ≤ 40) := Lib.hid hK
  have HR0 := Lib.hid hR0
  have HR1 := Lib.hid hR1
  have HRe := Lib.hid hRe
  have HKM := Lib.hid hKM
  have HKL : Hid (sameB K K = true) := by show _ = _; simp [sameB]
  have HEQ := Lib.hid heq
  clear heq hR0 hR1 hRe hKM hK
  clear hs ht
  have HX : Hid (x.size ≤ 140737488351232) := Lib.hid hx
  unfold refV
  go_enter Try.func8, Try.ntmps8
  go_wp2_with fail
  have X0 : Hid (Box ((w.alloc (.cells #[Value.bool e0, Value.int IntKind.i64 n0] 29)).alloc (.cells #[Value.bool e1, Value.int IntKind.i64 n1] 29)) w.heap.size #[Value.bool e0, Value.int IntKind.i64 n0].toList) := (Box.new w _ _).next ((Below.refl _ _).alloc (Nat.le_refl _) _)
  have Y0 : Hid (Box ((w.alloc (.cells #[Value.bool e0, Value.int IntKind.i64 n0] 29)).alloc (.cells #[Value.bool e1, Value.int IntKind.i64 n1] 29)) (w.heap.size + 1) #[Value.bool e1, Value.int IntKind.i64 n1].toList) := by
    have := Box.new (w.alloc (.cells #[Value.bool e0, Value.int IntKind.i64 n0] 29)) #[Value.bool e1, Value.int IntKind.i64 n1] 29
    rwa [show (w.alloc (.cells #[Value.bool e0, Value.int IntKind.i64 n0] 29)).heap.size = w.heap.size + 1 by simp] at this
  have HB0 : Hid (Below w.heap.size w ((w.alloc (.cells #[Value.bool e0, Value.int IntKind.i64 n0] 29)).alloc (.cells #[Value.bool e1, Value.int IntKind.i64 n1] 29))) := ((Below.refl w.heap.size w).alloc (Nat.le_refl _) _).alloc (by simp) _
  refine (alive4 _).mono ?_
  rintro e w1 ⟨rfl, hb⟩
  have X1 := Lib.hid (X0.out.next hb)
  have Y1 := Lib.hid (Y0.out.next hb)
  have HB1 : Hid (Below w.heap.size w w1) := HB0.out.trans (hb.mono HB0.out.size)
  clear X0 Y0 HB0 hb
  have x0 := X1.out.at 0 (.bool e0) rfl
  have x1 := X1.out.at 1 (.int .i64 n0) rfl
  have y0 := Y1.out.at 0 (.bool e1) rfl
  have y1 := Y1.out.at 1 (.int .i64 n1) rfl
  go_wp2_with fail
  refine (prop_any e0 n0 x _ HX.out).mono ?_
  unfold Bytes2
  rintro e w2 ⟨v2, rfl, ho, hb⟩
  have HO2 := Lib.hid ho.rw
  have HB2 : Hid (Below w.heap.size w w2) := HB1.out.trans (hb.mono HB1.out.size)
  have X2 := Lib.hid (X1.out.next hb)
  have Y2 := Lib.hid (Y1.out.next hb)
  clear ho hb x0 x1 y0 y1 X1 Y1 HB1
  have x0 := X2.out.at 0 (.bool e0) rfl
  have x1 := X2.out.at 1 (.int .i64 n0) rfl
  have y0 := Y2.out.at 0 (.bool e1) rfl
  have y1 := Y2.out.at 1 (.int .i64 n1) rfl
  go_wp2_with fail
  refine (prop_any e1 n1 x _ HX.out).mono ?_
  unfold Bytes2
  rintro e w3 ⟨v3, rfl, ho, hb⟩
  have HO3 := Lib.hid ho.rw
  have HO2' := Lib.hid (RBn HO2.out hb)
  have HB3 : Hid (Below w.heap.size w w3) := HB2.out.trans (hb.mono HB2.out.size)
  have X3 := Lib.hid (X2.out.next hb)
  have Y3 := Lib.hid (Y2.out.next hb)
  clear ho hb x0 x1 y0 y1 X2 Y2 HB2 HO2
  have x0 := X3.out.at 0 (.bool e0) rfl
  have x1 := X3.out.at 1 (.int .i64 n0) rfl
  have y0 := Y3.out.at 0 (.bool e1) rfl
  have y1 := Y3.out.at 1 (.int .i64 n1) rfl
  go_wp2_with fail
  refine (elem_any e0 n0 _).mono ?_
  unfold Bytes2
  rintro e w4 ⟨v4, rfl, ho, hb⟩
  have HO4 : Hid (RB w4 w4.heap.size v4 _) := ho.rw
  have HO2 := Lib.hid (RBn HO2'.out hb)
  have HO3' := Lib.hid (RBn HO3.out hb)
  have HB4 : Hid (Below w.heap.size w w4) := HB3.out.trans (hb.mono HB3.out.size)
  have X4 := Lib.hid (X3.out.next hb)
  have Y4 := Lib.hid (Y3.out.next hb)
  clear ho hb x0 x1 y0 y1 X3 Y3 HB3 HO2' HO3
  rw [HR0.out] at HO2 ⊢
  rw [HR1.out] at HO3' ⊢
  rw [HRe.out] at HO4 ⊢
  simp only [] at HO2 HO3' HO4 ⊢
  clear HR0 HR1 HRe HX hx
  have heq := HEQ.out
  go_wp2_with fail
  have tok1 : True := trivial
  have tok2 : True := trivial
  have tok3 : True := trivial
  go_region_held3 (fun w' => w'.cell? ⟨w.heap.size, 0, none⟩ = some (.bool e0) ∧ w'.cell? ⟨w.heap.size, 1, none⟩ = some (.int .i64 n0) ∧ w'.cell? ⟨w.heap.size + 1, 0, none⟩ = some (.bool e1) ∧ w'.cell? ⟨w.heap.size + 1, 1, none⟩ = some (.int .i64 n1))
    ((refine keepBox X4.out Y4.out ?_; go_grown))
    (first
      | (go_at_call 28; have _t := tok1; refine (same_any v2 v3 K K _ _ (RBn HO2.out (by go_grown)) (RBn HO3'.out (by go_grown))).mono ?_; rw [HKL.out]; rintro e w5 ⟨rfl, hn⟩; have hB5 : Below w4.heap.size w4 w5 := (by obtain ⟨n, rfl⟩ := hn; exact below_drewN (by go_grown) n); clear hn tok1 _t)
      | (go_at_call 28; have _t := tok2; refine (same_any v2 v4 K M _ _ (RBn HO2.out (by go_grown)) (RBn HO4.out (by go_grown))).mono ?_; rw [HKM.out]; rintro e w6 ⟨rfl, hn⟩; have hB6 : Below w4.heap.size w4 w6 := (by obtain ⟨n, rfl⟩ := hn; exact below_drewN (by go_grown) n); clear hn tok2 _t)
      | (go_at_call 28; have _t := tok3; refine (same_any v3 v4 K M _ _ (RBn HO3'.out (by go_grown)) (RBn HO4.out (by go_grown))).mono ?_; rw [HKM.out]; rintro e w7 ⟨rfl, hn⟩; have hB7 : Below w4.heap.size w4 w7 := (by obtain ⟨n, rfl⟩ := hn; exact below_drewN (by go_grown) n); clear hn tok3 _t))
  rename_i hkeep
  clear hkeep hB5 hB6
  have HB7 : Hid (Below w.heap.size w w7) := HB4.out.trans (hB7.mono HB4.out.size)
  have X7 := Lib.hid (X4.out.next hB7)
  have Y7 := Lib.hid (Y4.out.next hB7)
  have HP := Lib.hid (RBn HO2.out hB7)
  have HQ := Lib.hid (RBn HO3'.out hB7)
  clear hB7 HB4 X4 Y4 HO2 HO3' HO4 HKL HKM 
  go_wp2_with fail
  refine (version_any _ K s _ HP.out (by have := HKK.out; omega)).mono ?_
  unfold Bytes2
  rintro e w8 ⟨v8, rfl, ho, hb⟩
  have HO8 := Lib.hid ho.rw
  have HB8 : Hid (Below w.heap.size w w8) := HB7.out.trans (hb.mono HB7.out.size)
  have X8 := Lib.hid (X7.out.next hb)
  have Y8 := Lib.hid (Y7.out.next hb)
  have HQ8 := Lib.hid (RBn HQ.out hb)
  clear ho hb HB7 X7 Y7 HP HQ
  go_wp2_with fail
  refine (version_any _ K t _ HQ8.out (by have := HKK.out; omega)).mono ?_
  unfold Bytes2
  rintro e w9 ⟨v9, rfl, ho, hb⟩
  have HO9 : Hid (RB w9 w9.heap.size v9 _) := ho.rw
  have HO8' := Lib.hid (RBn HO8.out hb)
  have HB9 : Hid (Below w.heap.size w w9) := HB8.out.trans (hb.mono HB8.out.size)
  have X9 := Lib.hid (X8.out.next hb)
  have Y9 := Lib.hid (Y8.out.next hb)
  clear ho hb HB8 X8 Y8 HO8 HQ8
  cases hT : timeB s with
  | false =>
    rw [versR_no hT] at HO8' ⊢
    simp only [] at HO8' ⊢
    obtain ⟨A8, c8, rfl, _, _, _, _⟩ := HO8'.out.open_
    simp only [List.length_nil]
    go_wp2
    go_ret
    exact ⟨rfl, HB9.out⟩
  | true =>
    rw [versR_yes hT] at HO8' ⊢
    cases hT2 : timeB t with
    | false =>
      rw [versR_no hT2] at HO9 ⊢
      simp only [] at HO8' HO9 ⊢
      obtain ⟨A8, c8, rfl, _, _, _, _⟩ := HO8'.out.open_
      obtain ⟨A9, c9, rfl, _, _, _, _⟩ := HO9.out.open_
      simp only [List.length_nil]
      rw [versL_length]
      go_wp2
      go_ret
      exact ⟨rfl, HB9.out⟩
    | true =>
      rw [versR_yes hT2] at HO9 ⊢
      simp only [] at HO8' HO9 ⊢
      have HI := Lib.hid (versL_inj K K s t (inB_iff.1 hT) (inB_iff.1 hT2))
      clear hT hT2
      obtain ⟨A8, c8, rfl, _, _, _, _⟩ := HO8'.out.open_
      obtain ⟨A9, c9, rfl, _, _, _, _⟩ := HO9.out.open_
      obtain ⟨E, hE⟩ : ∃ E, E = (esc K).length := ⟨_, rfl⟩
      have hEb : E ≤ 80 := by have := esc_le K; have := HKK.out; omega
      have HPs : Hid (piece (versL K s) 0 (E + 2) = esc K ++ [0, 0]) := by rw [hE]; exact piece_own K s
      have HPt : Hid (piece (versL K t) 0 (E + 2) = esc K ++ [0, 0]) := by rw [hE]; exact piece_own K t
      rw [versL_length, ← hE] at HO8' HO9 ⊢
      rw [versL_length, ← hE]
      clear hE
      have x0 := X9.out.at 0 (.bool e0) rfl
      have x1 := X9.out.at 1 (.int .i64 n0) rfl
      have y0 := Y9.out.at 0 (.bool e1) rfl
      have y1 := Y9.out.at 1 (.int .i64 n1) rfl
      go_wp2_with fail
      refine (piece_num _ (versL K t) (E + 2) _ _ HO9.out (by omega) (by omega)).mono ?_
      rw [HPt.out]
      rintro e w10 ⟨v10, rfl, ho, hb⟩
      have HO10 := Lib.hid ho.rw
      have HV8 := Lib.hid (RBn HO8'.out hb)
      have HV9 := Lib.hid (RBn HO9.out hb)
      have HB10 : Hid (Below w.heap.size w w10) := HB9.out.trans (hb.mono HB9.out.size)
      have X10 := Lib.hid (X9.out.next hb)
      have Y10 := Lib.hid (Y9.out.next hb)
      clear ho hb HB9 X9 Y9 HO8' HO9 x0 x1 y0 y1
      go_wp2_with fail
      refine (piece_num _ (versL K s) (E + 2) _ _ HV8.out (by omega) (by omega)).mono ?_
      rw [HPs.out]
      rintro e w11 ⟨v11, rfl, ho, hb⟩
      have HO11 : Hid (RB w11 w11.heap.size v11 _) := ho.rw
      have HO10' := Lib.hid (RBn HO10.out hb)
      have HV8' := Lib.hid (RBn HV8.out hb)
      have HV9' := Lib.hid (RBn HV9.out hb)
      have HB11 : Hid (Below w.heap.size w w11) := HB10.out.trans (hb.mono HB10.out.size)
      have X11 := Lib.hid (X10.out.next hb)
      have Y11 := Lib.hid (Y10.out.next hb)
      clear ho hb HB10 X10 Y10 HV8 HV9 HO10 HPs HPt
      go_wp2_with fail
      refine (same_yes _ _ (esc K ++ [0, 0]) _ _ HO10'.out HO11.out).mono ?_
      rintro e w12 ⟨rfl, hn⟩
      have hb : Below w11.heap.size w11 w12 := by obtain ⟨n, rfl⟩ := hn; exact below_drewN (Below.refl _ _) n
      have HB12 : Hid (Below w.heap.size w w12) := HB11.out.trans (hb.mono HB11.out.size)
      have X12 := Lib.hid (X11.out.next hb)
      have Y12 := Lib.hid (Y11.out.next hb)
      have HV8 := Lib.hid (RBn HV8'.out hb)
      have HV9 := Lib.hid (RBn HV9'.out hb)
      clear hn hb HB11 X11 Y11 HV8' HV9' HO10' HO11
      have heq := HEQ.out
      have x0 := X12.out.at 0 (.bool e0) rfl
      have x1 := X12.out.at 1 (.int .i64 n0) rfl
      have y0 := Y12.out.at 0 (.bool e1) rfl
      have y1 := Y12.out.at 1 (.int .i64 n1) rfl
      by_cases hst : s = t
      · subst hst
        go_wp2_with fail
        refine (same_yes _ _ (versL K s) _ _ HV8.out HV9.out).mono ?_
        rintro e w13 ⟨rfl, hn⟩
        have hB13 : Below w12.heap.size w12 w13 := by obtain ⟨n, rfl⟩ := hn; exact below_drewN (Below.refl _ _) n
        clear hn
        have HB13 : Hid (Below w.heap.size w w13) := HB12.out.trans (hB13.mono HB12.out.size)
        clear hB13
        go_wp2
        go_ret
        exact ⟨rfl, HB13.out⟩
      · have hst1 : (s == t) = false := by simp [hst]
        have hst2 : decide (s = t) = false := by simp [hst]
        have HNO : Hid (sameB (versL K s) (versL K t) = false) := decide_eq_false fun h => hst (HI.out.1 h).2
        go_wp2_with fail
        refine (same_any _ _ (versL K s) (versL K t) _ _ HV8.out HV9.out).mono ?_
        rw [HNO.out]
        rintro e w13 ⟨rfl, hn⟩
        have hB13 : Below w12.heap.size w12 w13 := by obtain ⟨n, rfl⟩ := hn; exact below_drewN (Below.refl _ _) n
        clear hn
        have HB13 : Hid (Below w.heap.size w w13) := HB12.out.trans (hB13.mono HB12.out.size)
        clear hB13
        go_wp2
        go_ret
        exact ⟨rfl, HB13.out⟩
end Go.Proofs.Ytbmjiheclagfiaa
