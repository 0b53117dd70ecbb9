/-
  The walk of skeinlaw04.KeysApart: its refs are unlike.
-/
import Derived.Test.YtbmjiheclagfiaaW5
namespace Go.Proofs.Ytbmjiheclagfiaa
open Go.RowKit
set_option linter.unusedVariables false

theorem same_val {u v : Value} {a b : List Nat} {q : Bool} {w : World} {B : Nat} (hu : RB w B u a) (hv : RB w B v b) (hq : sameB a b = q) :
    Calls Try.prog 28 #[u, v] w fun e w' => e = .returned (.bool q) ∧ ∃ n, w' = w.drewN n := by
  subst hq
  exact same_any u v a b w B hu hv

set_option maxRecDepth 100000 in
set_option maxHeartbeats 8000000 in
theorem keysApart_B1 (e0 : Bool) (n0 : Int) (e1 : Bool) (n1 : Int) (x y : ByteArray) (s t : Int) (w : World) (hx : x.size ≤ 140737488351232) (hy : y.size ≤ 140737488351232) (hs : (Lit.int .i64 s).wf = true) (ht : (Lit.int .i64 t).wf = true) (K L M : List Nat) (hK : K.length ≤ 40) (hL : L.length ≤ 40) (hR0 : propR e0 n0 x = (K, 0)) (hR1 : propR e1 n1 y = (L, 0)) (hRe : elemR e0 n0 = (M, 0)) (hKM : sameB K M = false) (hLM : sameB L M = false) (hKL : sameB K L = false) (heq : ∀ W, (Op.equalIn 10000 29 (.agg #[.bool e0, .int .i64 n0]) (.agg #[.bool e1, .int .i64 n1])).run Try.prog W = .ok false W) :
    Calls Try.prog 8 #[refV e0 n0, refV e1 n1, .string x, .string y, .int .i64 s, .int .i64 t] w fun e w' => e = .returned (.bool true) ∧ Below w.heap.size w w' := by
  have HKK : Hid (K.length ≤ 40) := Lib.hid hK
  have HLL : Hid (L.length ≤ 40) := Lib.hid hL
  have HR0 := Lib.hid hR0
  have HR1 := Lib.hid hR1
  have HRe := Lib.hid hRe
  have HKM := Lib.hid hKM
  have HLM := Lib.hid hLM
  have HKL := Lib.hid hKL
  have HNE : Hid (K ≠ L) := by intro h; rw [h] at hKL; simp [sameB] at hKL
  have HEQ := Lib.hid heq
  clear heq hR0 hR1 hRe hKM hK hL hLM hKL
  clear hs ht
  have HX : Hid (x.size ≤ 140737488351232) := Lib.hid hx
  have HY : Hid (y.size ≤ 140737488351232) := Lib.hid hy
  unfold refV
  go_enter Try.func8, Try.ntmps8
  go_wp2_with fail
  have X0 : Hid (Box ((w.alloc (.cells #[Value.bool e0, Value.int IntKind.i64 n0] 29)).alloc (.cells #[Value.bool e1, Value.int IntKind.i64 n1] 29)) w.heap.size #[Value.bool e0, Value.int IntKind.i64 n0].toList) := (Box.new w _ _).next ((Below.refl _ _).alloc (Nat.le_refl _) _)
  have Y0 : Hid (Box ((w.alloc (.cells #[Value.bool e0, Value.int IntKind.i64 n0] 29)).alloc (.cells #[Value.bool e1, Value.int IntKind.i64 n1] 29)) (w.heap.size + 1) #[Value.bool e1, Value.int IntKind.i64 n1].toList) := by
    have := Box.new (w.alloc (.cells #[Value.bool e0, Value.int IntKind.i64 n0] 29)) #[Value.bool e1, Value.int IntKind.i64 n1] 29
    rwa [show (w.alloc (.cells #[Value.bool e0, Value.int IntKind.i64 n0] 29)).heap.size = w.heap.size + 1 by simp] at this
  have HB0 : Hid (Below w.heap.size w ((w.alloc (.cells #[Value.bool e0, Value.int IntKind.i64 n0] 29)).alloc (.cells #[Value.bool e1, Value.int IntKind.i64 n1] 29))) := ((Below.refl w.heap.size w).alloc (Nat.le_refl _) _).alloc (by simp) _
  refine (alive4 _).mono ?_
  rintro e w1 ⟨rfl, hb⟩
  have X1 := Lib.hid (X0.out.next hb)
  have Y1 := Lib.hid (Y0.out.next hb)
  have HB1 : Hid (Below w.heap.size w w1) := HB0.out.trans (hb.mono HB0.out.size)
  clear X0 Y0 HB0 hb
  have x0 := X1.out.at 0 (.bool e0) rfl
  have x1 := X1.out.at 1 (.int .i64 n0) rfl
  have y0 := Y1.out.at 0 (.bool e1) rfl
  have y1 := Y1.out.at 1 (.int .i64 n1) rfl
  go_wp2_with fail
  refine (prop_any e0 n0 x _ HX.out).mono ?_
  unfold Bytes2
  rintro e w2 ⟨v2, rfl, ho, hb⟩
  have HO2 := Lib.hid ho.rw
  have HB2 : Hid (Below w.heap.size w w2) := HB1.out.trans (hb.mono HB1.out.size)
  have X2 := Lib.hid (X1.out.next hb)
  have Y2 := Lib.hid (Y1.out.next hb)
  clear ho hb x0 x1 y0 y1 X1 Y1 HB1
  have x0 := X2.out.at 0 (.bool e0) rfl
  have x1 := X2.out.at 1 (.int .i64 n0) rfl
  have y0 := Y2.out.at 0 (.bool e1) rfl
  have y1 := Y2.out.at 1 (.int .i64 n1) rfl
  go_wp2_with fail
  refine (prop_any e1 n1 y _ HY.out).mono ?_
  unfold Bytes2
  rintro e w3 ⟨v3, rfl, ho, hb⟩
  have HO3 := Lib.hid ho.rw
  have HO2' := Lib.hid (RBn HO2.out hb)
  have HB3 : Hid (Below w.heap.size w w3) := HB2.out.trans (hb.mono HB2.out.size)
  have X3 := Lib.hid (X2.out.next hb)
  have Y3 := Lib.hid (Y2.out.next hb)
  clear ho hb x0 x1 y0 y1 X2 Y2 HB2 HO2
  have x0 := X3.out.at 0 (.bool e0) rfl
  have x1 := X3.out.at 1 (.int .i64 n0) rfl
  have y0 := Y3.out.at 0 (.bool e1) rfl
  have y1 := Y3.out.at 1 (.int .i64 n1) rfl
  go_wp2_with fail
  refine (elem_any e0 n0 _).mono ?_
  unfold Bytes2
  rintro e w4 ⟨v4, rfl, ho, hb⟩
  have HO4 : Hid (RB w4 w4.heap.size v4 _) := ho.rw
  have HO2 := Lib.hid (RBn HO2'.out hb)
  have HO3' := Lib.hid (RBn HO3.out hb)
  have HB4 : Hid (Below w.heap.size w w4) := HB3.out.trans (hb.mono HB3.out.size)
  have X4 := Lib.hid (X3.out.next hb)
  have Y4 := Lib.hid (Y3.out.next hb)
  clear ho hb x0 x1 y0 y1 X3 Y3 HB3 HO2' HO3
  rw [HR0.out] at HO2 ⊢
  rw [HR1.out] at HO3' ⊢
  rw [HRe.out] at HO4 ⊢
  simp only [] at HO2 HO3' HO4 ⊢
  clear HR0 HR1 HRe HX hx HY hy
  have heq := HEQ.out
  go_wp2_with fail
  have x0 := X4.out.at 0 (.bool e0) rfl
  have x1 := X4.out.at 1 (.int .i64 n0) rfl
  have y0 := Y4.out.at 0 (.bool e1) rfl
  have y1 := Y4.out.at 1 (.int .i64 n1) rfl
  go_quiet ((go_at_call 28; refine Calls.quiet_of (same_val (by first | exact RBn HO2.out (below_drewN (Below.refl _ _) _) | exact RBn HO3'.out (below_drewN (Below.refl _ _) _)) (by first | exact RBn HO3'.out (below_drewN (Below.refl _ _) _) | exact RBn HO4.out (below_drewN (Below.refl _ _) _)) (by first | exact HKL.out | exact HKM.out | exact HLM.out))))
  have hB7 : Below w4.heap.size w4 (w4.drewN nq) := below_drewN (Below.refl _ _) nq
  obtain ⟨w7, hw7⟩ : ∃ w7, w7 = w4.drewN nq := ⟨_, rfl⟩
  rw [← hw7] at hB7 ⊢
  clear hw7 heq x0 x1 y0 y1
  have HB7 : Hid (Below w.heap.size w w7) := HB4.out.trans (hB7.mono HB4.out.size)
  have X7 := Lib.hid (X4.out.next hB7)
  have Y7 := Lib.hid (Y4.out.next hB7)
  have HP := Lib.hid (RBn HO2.out hB7)
  have HQ := Lib.hid (RBn HO3'.out hB7)
  clear hB7 HB4 X4 Y4 HO2 HO3' HO4 HKL HKM HLM
  go_wp2_with fail
  refine (version_any _ K s _ HP.out (by have := HKK.out; omega)).mono ?_
  unfold Bytes2
  rintro e w8 ⟨v8, rfl, ho, hb⟩
  have HO8 := Lib.hid ho.rw
  have HB8 : Hid (Below w.heap.size w w8) := HB7.out.trans (hb.mono HB7.out.size)
  have X8 := Lib.hid (X7.out.next hb)
  have Y8 := Lib.hid (Y7.out.next hb)
  have HQ8 := Lib.hid (RBn HQ.out hb)
  clear ho hb HB7 X7 Y7 HP HQ
  go_wp2_with fail
  refine (version_any _ L t _ HQ8.out (by have := HLL.out; omega)).mono ?_
  unfold Bytes2
  rintro e w9 ⟨v9, rfl, ho, hb⟩
  have HO9 : Hid (RB w9 w9.heap.size v9 _) := ho.rw
  have HO8' := Lib.hid (RBn HO8.out hb)
  have HB9 : Hid (Below w.heap.size w w9) := HB8.out.trans (hb.mono HB8.out.size)
  have X9 := Lib.hid (X8.out.next hb)
  have Y9 := Lib.hid (Y8.out.next hb)
  clear ho hb HB8 X8 Y8 HO8 HQ8
  cases hT : timeB s with
  | false =>
    rw [versR_no hT] at HO8' ⊢
    simp only [] at HO8' ⊢
    obtain ⟨A8, c8, rfl, _, _, _, _⟩ := HO8'.out.open_
    simp only [List.length_nil]
    go_wp2
    go_ret
    exact ⟨rfl, HB9.out⟩
  | true =>
    rw [versR_yes hT] at HO8' ⊢
    cases hT2 : timeB t with
    | false =>
      rw [versR_no hT2] at HO9 ⊢
      simp only [] at HO8' HO9 ⊢
      obtain ⟨A8, c8, rfl, _, _, _, _⟩ := HO8'.out.open_
      obtain ⟨A9, c9, rfl, _, _, _, _⟩ := HO9.out.open_
      simp only [List.length_nil]
      rw [versL_length]
      go_wp2
      go_ret
      exact ⟨rfl, HB9.out⟩
    | true =>
      rw [versR_yes hT2] at HO9 ⊢
      simp only [] at HO8' HO9 ⊢
      have HI := Lib.hid (versL_inj K L s t (inB_iff.1 hT) (inB_iff.1 hT2))
      clear hT hT2
      obtain ⟨A8, c8, rfl, _, _, _, _⟩ := HO8'.out.open_
      obtain ⟨A9, c9, rfl, _, _, _, _⟩ := HO9.out.open_
      obtain ⟨E, hE⟩ : ∃ E, E = (esc K).length := ⟨_, rfl⟩
      have hEb : E ≤ 80 := by have := esc_le K; have := HKK.out; omega
      obtain ⟨F, hF⟩ : ∃ F, F = (esc L).length := ⟨_, rfl⟩
      have hFb : F ≤ 80 := by have := esc_le L; have := HLL.out; omega
      have HPs : Hid (piece (versL K s) 0 (E + 2) = esc K ++ [0, 0]) := by rw [hE]; exact piece_own K s
      have HPn : Hid (sameB (piece (versL L t) 0 (E + 2)) (esc K ++ [0, 0]) = false) := by rw [hE]; exact piece_no K L t HNE.out
      have HNO : Hid (sameB (versL K s) (versL L t) = false) := decide_eq_false fun h => HNE.out (HI.out.1 h).1
      rw [versL_length, ← hE] at HO8' ⊢
      rw [versL_length, ← hF] at HO9 ⊢
      clear hE hF
      by_cases hlen : E + 2 ≤ F + 10
      · have x0 := X9.out.at 0 (.bool e0) rfl
        have x1 := X9.out.at 1 (.int .i64 n0) rfl
        have y0 := Y9.out.at 0 (.bool e1) rfl
        have y1 := Y9.out.at 1 (.int .i64 n1) rfl
        go_wp2_with fail
        refine (piece_num _ (versL L t) (E + 2) _ _ HO9.out (by omega) (by omega)).mono ?_
        rintro e w10 ⟨v10, rfl, ho, hb⟩
        have HO10 := Lib.hid ho.rw
        have HV8 := Lib.hid (RBn HO8'.out hb)
        have HV9 := Lib.hid (RBn HO9.out hb)
        have HB10 : Hid (Below w.heap.size w w10) := HB9.out.trans (hb.mono HB9.out.size)
        have X10 := Lib.hid (X9.out.next hb)
        have Y10 := Lib.hid (Y9.out.next hb)
        clear ho hb HB9 X9 Y9 HO8' HO9 x0 x1 y0 y1
        go_wp2_with fail
        refine (piece_num _ (versL K s) (E + 2) _ _ HV8.out (by omega) (by omega)).mono ?_
        rw [HPs.out]
        rintro e w11 ⟨v11, rfl, ho, hb⟩
        have HO11 : Hid (RB w11 w11.heap.size v11 _) := ho.rw
        have HO10' := Lib.hid (RBn HO10.out hb)
        have HV8' := Lib.hid (RBn HV8.out hb)
        have HV9' := Lib.hid (RBn HV9.out hb)
        have HB11 : Hid (Below w.heap.size w w11) := HB10.out.trans (hb.mono HB10.out.size)
        have X11 := Lib.hid (X10.out.next hb)
        have Y11 := Lib.hid (Y10.out.next hb)
        clear ho hb HB10 X10 Y10 HV8 HV9 HO10 HPs
        go_wp2_with fail
        refine (same_any _ _ _ _ _ _ HO10'.out HO11.out).mono ?_
        rw [HPn.out]
        rintro e w12 ⟨rfl, hn⟩
        have hb : Below w11.heap.size w11 w12 := by obtain ⟨n, rfl⟩ := hn; exact below_drewN (Below.refl _ _) n
        have HBW : Hid (Below w.heap.size w w12) := HB11.out.trans (hb.mono HB11.out.size)
        have X12 := Lib.hid (X11.out.next hb)
        have Y12 := Lib.hid (Y11.out.next hb)
        have HV8 := Lib.hid (RBn HV8'.out hb)
        have HV9 := Lib.hid (RBn HV9'.out hb)
        clear hn hb HB11 X11 Y11 HV8' HV9' HO10' HO11 HPn
        have heq := HEQ.out
        have x0 := X12.out.at 0 (.bool e0) rfl
        have x1 := X12.out.at 1 (.int .i64 n0) rfl
        have y0 := Y12.out.at 0 (.bool e1) rfl
        have y1 := Y12.out.at 1 (.int .i64 n1) rfl
        go_wp2_with fail
        refine (same_any _ _ (versL K s) (versL L t) _ _ HV8.out HV9.out).mono ?_
        rw [HNO.out]
        rintro e w13 ⟨rfl, hn⟩
        have hB13 : Below w12.heap.size w12 w13 := by obtain ⟨n, rfl⟩ := hn; exact below_drewN (Below.refl _ _) n
        clear hn
        have HB13 : Hid (Below w.heap.size w w13) := HBW.out.trans (hB13.mono HBW.out.size)
        clear hB13
        go_wp2
        go_ret
        exact ⟨rfl, HB13.out⟩
      · have hl1 : F + 10 < E + 2 := by omega
        have HBW := Lib.hid HB9.out
        have HV8 := Lib.hid HO8'.out
        have HV9 := Lib.hid HO9.out
        have heq := HEQ.out
        have x0 := X9.out.at 0 (.bool e0) rfl
        have x1 := X9.out.at 1 (.int .i64 n0) rfl
        have y0 := Y9.out.at 0 (.bool e1) rfl
        have y1 := Y9.out.at 1 (.int .i64 n1) rfl
        go_wp2_with fail
        refine (same_any _ _ (versL K s) (versL L t) _ _ HV8.out HV9.out).mono ?_
        rw [HNO.out]
        rintro e w13 ⟨rfl, hn⟩
        have hB13 : Below w9.heap.size w9 w13 := by obtain ⟨n, rfl⟩ := hn; exact below_drewN (Below.refl _ _) n
        clear hn
        have HB13 : Hid (Below w.heap.size w w13) := HBW.out.trans (hB13.mono HBW.out.size)
        clear hB13
        go_wp2
        go_ret
        exact ⟨rfl, HB13.out⟩
end Go.Proofs.Ytbmjiheclagfiaa
