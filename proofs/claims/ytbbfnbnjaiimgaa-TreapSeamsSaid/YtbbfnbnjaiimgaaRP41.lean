/-
  The walk of TreapSeams.
-/
import Derived.Test.YtbbfnbnjaiimgaaRP40
namespace Go.Proofs.Ytbbfnbnjaiimgaa
open Go.RowKit
set_option linter.unusedVariables false

set_option maxRecDepth 100000 in
set_option maxHeartbeats 16000000 in
theorem treapSeams_walk (w : World) (v0 : Value) (V0 : List Int) (v1 : Value) (os : List OpT) (qa qb : Int) (h0 : RI w w.heap.size v0 V0) (hs : ScrT w v1 os) (hqa : I64 qa) (hqb : I64 qb) :
    Calls Try.prog 5 #[v0, v1, .int .i64 qa, .int .i64 qb] w fun e w' => e = .returned (.bool true) ∧ Below w.heap.size w w' := by
  clear hqa hqb
  obtain ⟨A, c, rfl, hc1, hc2, hc3, hC⟩ := hs.rk.open_
  have HC := hC
  have HS := Lib.hid hs
  have R0 := Lib.hid h0
  clear hs h0 hC
  go_enter Try.func5, Try.ntmps5
  go_wp2_with fail
  refine (tNew w _ V0 R0.out).mono ?_
  rintro e w1 ⟨g, rfl, h1, t1⟩
  have H1 := Lib.hid h1
  have T1 := Lib.hid t1
  clear h1 t1
  go_wp2_with fail
  refine (alive_any w1).mono ?_
  rintro e w3 ⟨rfl, t3⟩
  have H3 := Lib.hid (H1.out.below t3)
  have T3 := Lib.hid (T1.out.trans (t3.mono T1.out.size))
  clear t3
  go_wp2_with fail
  go_loopw [44] (fun i wr => ∃ k : Nat, k ≤ os.length ∧ i = .int .i64 k ∧ Hid (RpT w.heap.size wr g (RM.new.runsT (os.take k))) ∧ Hid (Below w.heap.size w wr)) (fun i _ => os.length - (intOf i).toNat)
  case atStart => exact ⟨0, Nat.zero_le _, rfl, H3, T3⟩
  case round =>
    obtain ⟨k, hk, rfl, HTW, HT⟩ := hrel
    by_cases hkl : k < os.length
    · obtain ⟨b1, o1, rfl, hb, hx⟩ := HC.out k hkl
      obtain ⟨hx1, hx2, hx3, hx4, hx5⟩ := cellOT hx
      have y1 : wr.cell? ⟨b1, o1 + k * 5, none⟩ = _ := (HT.out.cell (p := ⟨b1, o1 + k * 5, none⟩) hb).trans hx1
      have y2 : wr.cell? ⟨b1, o1 + k * 5 + 1, none⟩ = _ := (HT.out.cell (p := ⟨b1, o1 + k * 5 + 1, none⟩) hb).trans hx2
      have y3 : wr.cell? ⟨b1, o1 + k * 5 + 2, none⟩ = _ := (HT.out.cell (p := ⟨b1, o1 + k * 5 + 2, none⟩) hb).trans hx3
      have y4 : wr.cell? ⟨b1, o1 + k * 5 + 3, none⟩ = _ := (HT.out.cell (p := ⟨b1, o1 + k * 5 + 3, none⟩) hb).trans hx4
      have y5 : wr.cell? ⟨b1, o1 + k * 5 + 4, none⟩ = _ := (HT.out.cell (p := ⟨b1, o1 + k * 5 + 4, none⟩) hb).trans hx5
      have HOP := Lib.hid (HS.out.at_ os[k] (List.getElem_mem hkl))
      have HTK := Lib.hid (List.take_succ_eq_append_getElem hkl)
      clear hx hx1 hx2 hx3 hx4 hx5
      obtain ⟨x, hx⟩ : ∃ x, x = os[k] := ⟨_, rfl⟩
      rw [← hx] at y1 y2 y3 y4 y5 HOP HTK
      clear hx
      obtain ⟨M, hM⟩ : ∃ M, M = (RM.new : RM SV).runsT (os.take k) := ⟨_, rfl⟩
      rw [← hM] at HTW
      have HM := Lib.hid hM
      clear hM
      obtain ⟨kd, a, b, n, m⟩ := x
      dsimp only at y1 y2 y3 y4 y5
      obtain ⟨p, hp⟩ : ∃ p, p = wr.heap.size := ⟨_, rfl⟩
      obtain ⟨W, hW⟩ : ∃ x, x = wr.alloc (.cells #[.int .i64 kd, .int .i64 a, .int .i64 b, .int .i64 n, .int .u8 m] 34) := ⟨_, rfl⟩
      have hbW : Below wr.heap.size wr W := by rw [hW]; exact (Below.refl _ _).alloc (Nat.le_refl _) _
      have hkW : Blk W p 34 #[.int .i64 kd, .int .i64 a, .int .i64 b, .int .i64 n, .int .u8 m] := by rw [hW, hp]; exact Blk.new _ _ _
      have HPp := Lib.hid hp
      have HWW := Lib.hid hW
      clear hp hW
      have H_1 := Lib.hid (HTW.out.below hbW)
      have T_2 := Lib.hid (HT.out.trans (hbW.mono HT.out.size))
      clear HTW HT
      have K_3 := Lib.hid (hkW)
      clear hbW hkW
      go_upto_region 7 with fail
      rw [← HWW.out, ← HPp.out]
      clear y1 y2 y3 y4 y5
      have z0 := K_3.out.cell 0
      have z1 := K_3.out.cell 1
      have z2 := K_3.out.cell 2
      have z3 := K_3.out.cell 3
      have z4 := K_3.out.cell 4
      go_wp2_with fail
      refine (tChanges w.heap.size W g M H_1.out T_2.out.size kd a b n m HOP.out).mono ?_
      rintro e w4 ⟨⟨u4, x4, rfl⟩, h4, t4⟩
      have T_4 := Lib.hid (T_2.out.trans t4.below)
      clear z0
      clear z1
      clear z2
      clear z3
      clear z4
      have K_5 := Lib.hid (t4.blk (by decide) (by decide) K_3.out)
      have z0 := K_5.out.cell 0
      have z1 := K_5.out.cell 1
      have z2 := K_5.out.cell 2
      have z3 := K_5.out.cell 3
      have z4 := K_5.out.cell 4
      clear T_2 K_3
      have H_6 := Lib.hid (h4)
      clear h4 t4
      go_wp2_with fail
      go_roundw
      case rel => exact ⟨k + 1, by omega, by go_num, Lib.hid (by rw [HTK.out, runsT_snoc, ← HM.out]; exact H_6.out), T_4⟩
      case measure => simp [intOf]; omega
    · obtain rfl : k = os.length := by omega
      rw [List.take_length] at HTW
      obtain ⟨M, hM⟩ : ∃ M, M = (RM.new : RM SV).runsT os := ⟨_, rfl⟩
      rw [← hM] at HTW
      have HM := Lib.hid hM
      clear hM
      by_cases hka : M.known qa = true
      · obtain ⟨i, rfl, hi⟩ := known_nat hka
        obtain ⟨P, p, Q, hseam⟩ := seam_of HTW.out.1.ok hi
        have HSE := Lib.hid hseam
        have E1 := Lib.hid (errA_nat hi)
        have E2 := Lib.hid (rowA_nat hi)
        have HI := Lib.hid hi
        have HOK := Lib.hid HTW.out.1.ok
        obtain ⟨pl, hpl⟩ : ∃ z, z = P.length := ⟨_, rfl⟩
        obtain ⟨ql, hql⟩ : ∃ z, z = Q.length + 1 := ⟨_, rfl⟩
        have hlx : (M.rowOf i).length = pl + ql := by rw [hseam.row, List.length_append, List.length_cons, ← hpl, ← hql]
        have hlx2 : pl + ql ≤ 65536 := by rw [← hlx]; exact Nat.le_trans (row_len HTW.out.1.ok (row_mem HTW.out.1.ok hi).1) HTW.out.1.few
        have hql1 : 1 ≤ ql := by omega
        have HLX := Lib.hid hlx
        have HPL := Lib.hid hpl
        have HQL := Lib.hid hql
        obtain ⟨n6, hn6⟩ : ∃ z, z = pl + ql := ⟨_, rfl⟩
        have HN6 := Lib.hid hn6
        have hn62 : n6 ≤ 65536 := by omega
        have hn63 : pl < n6 := by omega
        have hn64 : n6 ≤ pl + ql := by omega
        have hn65 : pl + ql ≤ n6 := by omega
        clear hseam hi hpl hql hlx hka hn6
        have H_7 := Lib.hid (HTW.out.1)
        go_wp2_with fail
        refine (bList w.heap.size noQ wr g M H_7.out i).mono ?_
        rw [E1.out, E2.out]
        rintro e w6 ⟨v6, rfl, hl6, t6⟩
        obtain ⟨A6, c6, hv6, hc6, hc62, -, -⟩ := (hl6.rk encI_len (Nat.le_refl _)).open_
        rw [List.length_map, HLX.out, ← HN6.out] at hv6 hc6
        subst hv6
        have T_8 := Lib.hid (HT.out.trans (t6.mono HT.out.size))
        have H_9 := Lib.hid (H_7.out.below t6)
        clear HT H_7
        have X_10 := Lib.hid (hl6)
        clear hl6 t6
        go_wp2_with fail
        obtain ⟨B6, hB6⟩ : ∃ z, z = wr.heap.size := ⟨_, rfl⟩
        rw [← hB6] at X_10
        clear hB6
        go_loopw [71] (fun j wx => ∃ q : Nat, q ≤ n6 ∧ j = .int .i64 q ∧ Hid (RpB w.heap.size noQ wx g M) ∧ Hid (Below w.heap.size w wx) ∧ Hid (OK encI 1 3 wx B6 (.slice A6 n6 c6) ((M.rowOf i).map natI))) (fun j _ => n6 - (intOf j).toNat)
        case atStart => exact ⟨0, Nat.zero_le _, rfl, H_9, T_8, X_10⟩
        case round =>
          obtain ⟨q, hq, rfl, HH, HTT, HXX⟩ := hrel
          by_cases hqn : q < n6
          · have hqr : q < (M.rowOf i).length := by have := HLX.out; omega
            obtain ⟨bq, oq, rfl, hxq⟩ := HXX.out.cellRow (q := q) (by rw [List.length_map]; exact hqr)
            obtain ⟨f1, f2, f3, f4⟩ := index_at HOK.out HI.out hqr
            obtain ⟨y, hy⟩ : ∃ y, y = (M.rowOf i)[q] := ⟨_, rfl⟩
            have y1 : wr.cell? ⟨bq, oq + q, none⟩ = some (.int .i64 (y : Int)) := by rw [List.getElem_map, ← hy] at hxq; exact hxq
            rw [← hy] at f1 f2 f3
            have F1 := Lib.hid f1
            have F2 := Lib.hid f2
            have F3 := Lib.hid f3
            have F4 := Lib.hid f4
            clear f1 f2 f3 f4 hxq hy
            go_wp2_with fail
            refine (bIndex w.heap.size noQ wr g M HH.out y).mono ?_
            rw [F1.out, F2.out]
            rintro e w7 ⟨rfl, t7⟩
            clear y1
            have H_11 := Lib.hid (HH.out.below t7)
            have T_12 := Lib.hid (HTT.out.trans (t7.mono HTT.out.size))
            have X_13 := Lib.hid (HXX.out.below t7)
            clear HH HTT HXX
            clear t7
            go_wp2_with fail
            refine (bAt w.heap.size noQ w7 g M H_11.out i q).mono ?_
            rw [F3.out, F4.out]
            rintro e w8 ⟨rfl, t8⟩
            have H_14 := Lib.hid (H_11.out.below t8)
            have T_15 := Lib.hid (T_12.out.trans (t8.mono T_12.out.size))
            have X_16 := Lib.hid (X_13.out.below t8)
            clear H_11 T_12 X_13
            clear t8
            go_wp2_with fail
            go_roundw
            case rel => exact ⟨q + 1, by omega, by go_num, H_14, T_15, X_16⟩
            case measure => simp [intOf]; omega
          · obtain rfl : q = n6 := by omega
            obtain ⟨M1, hM1⟩ : ∃ z, M.cutA (i : Int) = z := ⟨_, rfl⟩
            have hse := HSE.out
            have C1 := Lib.hid hM1
            have D1 : Hid (M1.rowA (i : Int) = i :: Q) := Lib.hid (by rw [← hM1]; exact hse.cutI)
            have D2 : Hid (M1.errA (i : Int) = 0) := Lib.hid (by rw [← hM1]; exact hse.cutE)
            have D3 : Hid (M1.indexA (i : Int) = 0) := Lib.hid (by rw [← hM1]; exact hse.cutX)
            have D4 : Hid (((M.rowOf i).map natI).drop pl = (i :: Q).map natI) := Lib.hid (by rw [hse.row, List.map_append]; exact List.drop_left' (by rw [List.length_map, HPL.out]))
            have D5 : Hid (((i :: Q).map natI).length = ql) := Lib.hid (by rw [List.length_map, List.length_cons, HQL.out])
            clear hse hM1
            obtain ⟨b6, o6, rfl, hx0⟩ := HXX.out.cellRow (q := 0) (by rw [List.length_map]; have := HLX.out; omega)
            clear hx0
            go_wp2_with fail
            refine (bCut w.heap.size noQ wr g M HH.out HTT.out.size i).mono ?_
            rw [E1.out, C1.out]
            rintro e w7 ⟨rfl, h7, t7⟩
            have T_17 := Lib.hid (HTT.out.trans t7.below)
            have X_18 := Lib.hid (t7.row (by decide) (by decide) HXX.out)
            clear HTT HXX
            clear HH
            have H_19 := Lib.hid (h7)
            clear h7 t7
            go_wp2_with fail
            refine (bList w.heap.size noQ w7 g M1 H_19.out i).mono ?_
            rw [D1.out, D2.out]
            rintro e w8 ⟨v8, rfl, hl8, t8⟩
            obtain ⟨A8, c8, hv8, -, -, -, -⟩ := (hl8.rk encI_len (Nat.le_refl _)).open_
            rw [D5.out] at hv8
            subst hv8
            have H_20 := Lib.hid (H_19.out.below t8)
            have T_21 := Lib.hid (T_17.out.trans (t8.mono T_17.out.size))
            have X_22 := Lib.hid (X_18.out.below t8)
            clear H_19 T_17 X_18
            have Y_23 := Lib.hid (hl8)
            clear hl8 t8
            go_wp2_with fail
            refine (bIndex w.heap.size noQ w8 g M1 H_20.out i).mono ?_
            rw [D2.out, D3.out]
            rintro e w9 ⟨rfl, t9⟩
            have H_24 := Lib.hid (H_20.out.below t9)
            have T_25 := Lib.hid (T_21.out.trans (t9.mono T_21.out.size))
            have X_26 := Lib.hid (X_22.out.below t9)
            have Y_27 := Lib.hid (Y_23.out.below t9)
            clear H_20 T_21 X_22 Y_23
            clear t9
            have g1 : decide ((q : Int) < (ql : Int)) = false := by simp; omega
            have g2 : decide (q < ql) = false := by simp; omega
            have g3 : (q : Int) - (ql : Int) = (pl : Int) := by omega
            have g4 : ¬ c6 = pl := by omega
            have g5 : (pl : Int) ≤ (q : Int) := by omega
            have g6 : (pl : Int) ≤ (c6 : Int) := by omega
            have g7 : (q : Int) ≤ (c6 : Int) := by omega
            have g8 : q - pl = ql := by omega
            go_wp2_with fail
            clear g1 g2 g3 g4 g5 g6 g7 g8
            refine (SameInts_yes _ _ ((i :: Q).map natI) w9 w9.heap.size w9.heap.size (Y_27.out.rk encI_len (Nat.le_refl _)) (by have := RK.dropTo (X_26.out.rk encI_len (Nat.le_refl _)) pl (by omega); rw [D4.out, Nat.mul_one, show q - pl = ql by omega] at this; exact this)).mono ?_
            rintro e w10 ⟨rfl, qw10, hw10⟩
            have tw10 : Below w9.heap.size w9 w10 := by rw [hw10]; exact below_drewN (Below.refl _ _) _
            clear hw10
            have H_28 := Lib.hid (H_24.out.below tw10)
            have T_29 := Lib.hid (T_25.out.trans (tw10.mono T_25.out.size))
            have X_30 := Lib.hid (X_26.out.below tw10)
            have Y_31 := Lib.hid (Y_27.out.below tw10)
            clear H_24 T_25 X_26 Y_27
            clear tw10
            by_cases hP : P = []
            · have hpl0 : pl = 0 := by rw [HPL.out, hP]; rfl
              have g1 : decide ((ql : Int) < (q : Int)) = false := by simp; omega
              have g2 : decide (ql < q) = false := by simp; omega
              have hse := HSE.out
              have k1 := hse.backR
              have k2 := hse.backE
              have k3 := hse.backO
              have k4 := hse.backK
              rw [if_pos hP, C1.out] at k1 k2 k3 k4
              have K1 := Lib.hid k1
              have K2 := Lib.hid k2
              have K3 := Lib.hid k3
              have K4 : Hid (1 ≤ i ∧ i ≤ M1.own.length) := Lib.hid (by rw [k4]; exact HI.out)
              clear hse k1 k2 k3 k4 hP hpl0
              go_wp2_with fail
              refine (bList w.heap.size noQ w10 g M1 H_28.out i).mono ?_
              rw [K1.out, K2.out]
              rintro e w12 ⟨v12, rfl, hl12, t12⟩
              obtain ⟨A12, c12, hv12, -, -, -, -⟩ := (hl12.rk encI_len (Nat.le_refl _)).open_
              rw [List.length_map, HLX.out, ← HN6.out] at hv12
              subst hv12
              have H_32 := Lib.hid (H_28.out.below t12)
              have T_33 := Lib.hid (T_29.out.trans (t12.mono T_29.out.size))
              have X_34 := Lib.hid (X_30.out.below t12)
              have Y_35 := Lib.hid (Y_31.out.below t12)
              clear H_28 T_29 X_30 Y_31
              have Z_36 := Lib.hid (hl12)
              clear hl12 t12
              go_wp2_with fail
              refine (SameInts_yes _ _ ((M.rowOf i).map natI) w12 w12.heap.size w12.heap.size (Z_36.out.rk encI_len (Nat.le_refl _)) (X_34.out.rk encI_len (Nat.le_refl _))).mono ?_
              rintro e w13 ⟨rfl, qw13, hw13⟩
              have tw13 : Below w12.heap.size w12 w13 := by rw [hw13]; exact below_drewN (Below.refl _ _) _
              clear hw13
              have H_37 := Lib.hid (H_32.out.below tw13)
              have T_38 := Lib.hid (T_33.out.trans (tw13.mono T_33.out.size))
              have X_39 := Lib.hid (X_34.out.below tw13)
              have Y_40 := Lib.hid (Y_35.out.below tw13)
              have Z_41 := Lib.hid (Z_36.out.below tw13)
              clear H_32 T_33 X_34 Y_35 Z_36
              clear tw13
              clear Z_41
              by_cases hkb : M1.known qb = true
              · obtain ⟨j, rfl, hj⟩ := known_nat hkb
                have N1 := Lib.hid (errA_nat hj)
                have HJ := Lib.hid hj
                by_cases hsm : M1.sameA (i : Int) (j : Int) = true
                ·
                  have SAB := Lib.hid hsm
                  have R2 : Hid (M1.rowA (j : Int) = M.rowOf i) := Lib.hid (by rw [same_rows (K4.out) hj hsm, K1.out])
                  clear hsm hj hkb
                  go_wp2_with fail
                  refine (bList w.heap.size noQ w13 g M1 H_37.out j).mono ?_
                  rw [R2.out, N1.out]
                  rintro e w14 ⟨v14, rfl, hl14, t14⟩
                  obtain ⟨A14, c14, hv14, -, -, -, -⟩ := (hl14.rk encI_len (Nat.le_refl _)).open_
                  rw [List.length_map, HLX.out, ← HN6.out] at hv14
                  subst hv14
                  have H_42 := Lib.hid (H_37.out.below t14)
                  have T_43 := Lib.hid (T_38.out.trans (t14.mono T_38.out.size))
                  have X_44 := Lib.hid (X_39.out.below t14)
                  have Y_45 := Lib.hid (Y_40.out.below t14)
                  clear H_37 T_38 X_39 Y_40
                  have O_46 := Lib.hid (hl14)
                  clear hl14 t14
                  go_wp2_with fail
                  refine (bSame w.heap.size noQ w14 g M1 H_42.out i j).mono ?_
                  rw [SAB.out]
                  rintro e w15 ⟨rfl, h15⟩
                  subst w15
                  go_wp2_with fail
                  refine (SameInts_yes _ _ ((M.rowOf i).map natI) w14 w14.heap.size w14.heap.size (O_46.out.rk encI_len (Nat.le_refl _)) (X_44.out.rk encI_len (Nat.le_refl _))).mono ?_
                  rintro e w16 ⟨rfl, q16, h16⟩
                  subst h16
                  have TE := Lib.hid (below_drewN T_43.out q16)
                  go_wp2_with fail
                  go_ret
                  exact ⟨rfl, TE.out⟩
                ·
                  have hsm2 : M1.sameA (i : Int) (j : Int) = false := by simpa using hsm
                  have SAB := Lib.hid hsm2
                  obtain ⟨o, s1, s2, s3, s4, s5⟩ := seam2 K3.out K4.out hj hsm2
                  obtain ⟨M3, hM3⟩ : ∃ z, M1.joinA (i : Int) (j : Int) = z := ⟨_, rfl⟩
                  rw [hM3] at s3 s4 s5
                  obtain ⟨M4, hM4⟩ : ∃ z, M3.cutA (o : Int) = z := ⟨_, rfl⟩
                  rw [hM4] at s4 s5
                  obtain ⟨q0, q1⟩ := List.getElem?_eq_some_iff.1 s1
                  have S1 : Hid (0 < (M1.rowOf j).length) := Lib.hid q0
                  have S1' : Hid ((M1.rowOf j)[0]'S1.out = o) := Lib.hid q1
                  have S2 := Lib.hid s2
                  have S3 := Lib.hid s3
                  have S4 := Lib.hid (s4.trans K1.out)
                  have S5 := Lib.hid (s5.trans (rowA_nat hj))
                  have S6 := Lib.hid (rowA_nat hj)
                  have HM3 := Lib.hid hM3
                  have HM4 := Lib.hid hM4
                  obtain ⟨nj, hnj⟩ : ∃ z, z = (M1.rowOf j).length := ⟨_, rfl⟩
                  have hnj0 : 0 < nj := by rw [hnj]; exact q0
                  have HNJ := Lib.hid hnj
                  clear s1 s2 s3 s4 s5 q0 q1 hM3 hM4 hsm hsm2 hj hkb hnj
                  go_wp2_with fail
                  refine (bList w.heap.size noQ w13 g M1 H_37.out j).mono ?_
                  rw [S6.out, N1.out]
                  rintro e w14 ⟨v14, rfl, hl14, t14⟩
                  obtain ⟨A14, c14, hv14, -, -, -, -⟩ := (hl14.rk encI_len (Nat.le_refl _)).open_
                  rw [List.length_map, ← HNJ.out] at hv14
                  subst hv14
                  have H_47 := Lib.hid (H_37.out.below t14)
                  have T_48 := Lib.hid (T_38.out.trans (t14.mono T_38.out.size))
                  have X_49 := Lib.hid (X_39.out.below t14)
                  have Y_50 := Lib.hid (Y_40.out.below t14)
                  clear H_37 T_38 X_39 Y_40
                  have O_51 := Lib.hid (hl14)
                  clear hl14 t14
                  go_wp2_with fail
                  refine (bSame w.heap.size noQ w14 g M1 H_47.out i j).mono ?_
                  rw [SAB.out]
                  rintro e w15 ⟨rfl, h15⟩
                  subst w15
                  go_wp2_with fail
                  refine (bJoin w.heap.size noQ w14 g M1 H_47.out T_48.out.size i j).mono ?_
                  rw [S2.out, HM3.out]
                  rintro e w16 ⟨rfl, h16, t16⟩
                  have T_52 := Lib.hid (T_48.out.trans t16.below)
                  have X_53 := Lib.hid (t16.row (by decide) (by decide) X_49.out)
                  have Y_54 := Lib.hid (t16.row (by decide) (by decide) Y_50.out)
                  have O_55 := Lib.hid (t16.row (by decide) (by decide) O_51.out)
                  clear T_48 X_49 Y_50 O_51
                  clear H_47
                  have H_56 := Lib.hid (h16)
                  clear h16 t16
                  obtain ⟨bo, oo, rfl, hxo⟩ := O_55.out.cellRow (q := 0) (by rw [List.length_map]; exact S1.out)
                  have yo : w16.cell? ⟨bo, oo, none⟩ = some (.int .i64 (o : Int)) := by rw [List.getElem_map, S1'.out] at hxo; exact hxo
                  clear hxo
                  go_wp2_with fail
                  refine (bCut w.heap.size noQ w16 g M3 H_56.out T_52.out.size o).mono ?_
                  rw [S3.out, HM4.out]
                  rintro e w17 ⟨rfl, h17, t17⟩
                  clear yo
                  have T_57 := Lib.hid (T_52.out.trans t17.below)
                  have X_58 := Lib.hid (t17.row (by decide) (by decide) X_53.out)
                  have Y_59 := Lib.hid (t17.row (by decide) (by decide) Y_54.out)
                  have O_60 := Lib.hid (t17.row (by decide) (by decide) O_55.out)
                  clear T_52 X_53 Y_54 O_55
                  clear H_56
                  have H_61 := Lib.hid (h17)
                  clear h17 t17
                  go_wp2_with fail
                  refine (bList w.heap.size noQ w17 g M4 H_61.out i).mono ?_
                  rw [S4.out]
                  rintro e w18 ⟨vw18, rfl, hlw18, tw18⟩
                  obtain ⟨Aw18, cw18, hvw18, -, hcw18, -, -⟩ := (hlw18.rk encI_len (Nat.le_refl _)).open_
                  obtain ⟨nw18, hnw18⟩ : ∃ z, z = ((M.rowOf i).map natI).length := ⟨_, rfl⟩
                  rw [← hnw18] at hvw18
                  subst hvw18
                  have HNw18 := Lib.hid hnw18
                  clear hnw18 hcw18
                  have H_62 := Lib.hid (H_61.out.below tw18)
                  have T_63 := Lib.hid (T_57.out.trans (tw18.mono T_57.out.size))
                  have X_64 := Lib.hid (X_58.out.below tw18)
                  have Y_65 := Lib.hid (Y_59.out.below tw18)
                  have O_66 := Lib.hid (O_60.out.below tw18)
                  clear H_61 T_57 X_58 Y_59 O_60
                  have L_67 := Lib.hid (hlw18)
                  clear hlw18 tw18
                  go_wp2_with fail
                  refine (bList w.heap.size noQ w18 g M4 H_62.out j).mono ?_
                  rw [S5.out]
                  rintro e w19 ⟨vw19, rfl, hlw19, tw19⟩
                  obtain ⟨Aw19, cw19, hvw19, -, hcw19, -, -⟩ := (hlw19.rk encI_len (Nat.le_refl _)).open_
                  obtain ⟨nw19, hnw19⟩ : ∃ z, z = ((M1.rowOf j).map natI).length := ⟨_, rfl⟩
                  rw [← hnw19] at hvw19
                  subst hvw19
                  have HNw19 := Lib.hid hnw19
                  clear hnw19 hcw19
                  have H_68 := Lib.hid (H_62.out.below tw19)
                  have T_69 := Lib.hid (T_63.out.trans (tw19.mono T_63.out.size))
                  have X_70 := Lib.hid (X_64.out.below tw19)
                  have Y_71 := Lib.hid (Y_65.out.below tw19)
                  have O_72 := Lib.hid (O_66.out.below tw19)
                  have L_73 := Lib.hid (L_67.out.below tw19)
                  clear H_62 T_63 X_64 Y_65 O_66 L_67
                  have N_74 := Lib.hid (hlw19)
                  clear hlw19 tw19
                  go_wp2_with fail
                  refine (SameInts_yes _ _ ((M.rowOf i).map natI) w19 w19.heap.size w19.heap.size (L_73.out.rk encI_len (Nat.le_refl _)) (X_70.out.rk encI_len (Nat.le_refl _))).mono ?_
                  rintro e w20 ⟨rfl, qw20, hw20⟩
                  have tw20 : Below w19.heap.size w19 w20 := by rw [hw20]; exact below_drewN (Below.refl _ _) _
                  clear hw20
                  have H_75 := Lib.hid (H_68.out.below tw20)
                  have T_76 := Lib.hid (T_69.out.trans (tw20.mono T_69.out.size))
                  have X_77 := Lib.hid (X_70.out.below tw20)
                  have Y_78 := Lib.hid (Y_71.out.below tw20)
                  have O_79 := Lib.hid (O_72.out.below tw20)
                  have L_80 := Lib.hid (L_73.out.below tw20)
                  have N_81 := Lib.hid (N_74.out.below tw20)
                  clear H_68 T_69 X_70 Y_71 O_72 L_73 N_74
                  clear tw20
                  go_wp2_with fail
                  refine (SameInts_yes _ _ ((M1.rowOf j).map natI) w20 w20.heap.size w20.heap.size (N_81.out.rk encI_len (Nat.le_refl _)) (O_79.out.rk encI_len (Nat.le_refl _))).mono ?_
                  rintro e w21 ⟨rfl, q21, h21⟩
                  subst h21
                  have TE := Lib.hid (below_drewN T_76.out q21)
                  go_wp2_with fail
                  go_ret
                  exact ⟨rfl, TE.out⟩
              · have HX2 := Lib.hid (not_known (by simpa using hkb : M1.known qb = false))
                clear hkb
                go_wp2_with fail
                refine (bList w.heap.size noQ w13 g M1 H_37.out qb).mono ?_
                rw [HX2.out.1, HX2.out.2.1]
                rintro e w14 ⟨v14, rfl, hl14, t14⟩
                obtain ⟨A14, c14, hv14, -, -, -, -⟩ := (hl14.rk encI_len (Nat.le_refl _)).open_
                rw [List.map_nil, List.length_nil] at hv14
                subst hv14
                have H_82 := Lib.hid (H_37.out.below t14)
                have T_83 := Lib.hid (T_38.out.trans (t14.mono T_38.out.size))
                have X_84 := Lib.hid (X_39.out.below t14)
                have Y_85 := Lib.hid (Y_40.out.below t14)
                clear H_37 T_38 X_39 Y_40
                clear hl14 t14
                go_wp2_with fail
                refine (bSame w.heap.size noQ w14 g M1 H_82.out i qb).mono ?_
                rintro e w15 ⟨rfl, h15⟩
                subst w15
                go_wp2_with fail
                go_ret
                exact ⟨rfl, T_83.out⟩
            · have hpl0 : 0 < pl := by rw [HPL.out]; exact List.length_pos_iff.2 hP
              have g1 : decide ((ql : Int) < (q : Int)) = true := by simp; omega
              have g2 : decide (ql < q) = true := by simp; omega
              have hse := HSE.out
              have k1 := hse.backR
              have k2 := hse.backE
              have k3 := hse.backO
              have k4 := hse.backK
              rw [if_neg hP, C1.out] at k1 k2 k3 k4
              obtain ⟨M2, hM2⟩ : ∃ z, M1.joinA (p : Int) (i : Int) = z := ⟨_, rfl⟩
              rw [hM2] at k1 k2 k3 k4
              have K1 := Lib.hid k1
              have K2 := Lib.hid k2
              have K3 := Lib.hid k3
              have K4 : Hid (1 ≤ i ∧ i ≤ M2.own.length) := Lib.hid (by rw [k4]; exact HI.out)
              have K5 : Hid (M1.joinE (p : Int) (i : Int) = 0) := Lib.hid (by rw [← C1.out]; exact hse.joinE hP)
              have HM2 := Lib.hid hM2
              obtain ⟨q0, q1⟩ := List.getElem?_eq_some_iff.1 hse.head
              obtain ⟨bx, ox, ex, hx0⟩ := X_30.out.cellRow (q := 0) (by rw [List.length_map]; exact q0)
              injection ex with ex
              injection ex with ex1 ex2
              subst ex1 ex2
              have yx : w10.cell? ⟨b6, o6, none⟩ = some (.int .i64 (p : Int)) := by rw [List.getElem_map, q1] at hx0; exact hx0
              clear hse k1 k2 k3 k4 hP hM2 q0 q1 hx0
              go_wp2_with fail
              refine (bJoin w.heap.size noQ w10 g M1 H_28.out T_29.out.size p i).mono ?_
              rw [K5.out, HM2.out]
              rintro e w11 ⟨rfl, h11, t11⟩
              clear yx
              have T_86 := Lib.hid (T_29.out.trans t11.below)
              have X_87 := Lib.hid (t11.row (by decide) (by decide) X_30.out)
              have Y_88 := Lib.hid (t11.row (by decide) (by decide) Y_31.out)
              clear T_29 X_30 Y_31
              clear H_28
              have H_89 := Lib.hid (h11)
              clear h11 t11
              go_wp2_with fail
              refine (bList w.heap.size noQ w11 g M2 H_89.out i).mono ?_
              rw [K1.out, K2.out]
              rintro e w12 ⟨v12, rfl, hl12, t12⟩
              obtain ⟨A12, c12, hv12, -, -, -, -⟩ := (hl12.rk encI_len (Nat.le_refl _)).open_
              rw [List.length_map, HLX.out, ← HN6.out] at hv12
              subst hv12
              have H_90 := Lib.hid (H_89.out.below t12)
              have T_91 := Lib.hid (T_86.out.trans (t12.mono T_86.out.size))
              have X_92 := Lib.hid (X_87.out.below t12)
              have Y_93 := Lib.hid (Y_88.out.below t12)
              clear H_89 T_86 X_87 Y_88
              have Z_94 := Lib.hid (hl12)
              clear hl12 t12
              go_wp2_with fail
              refine (SameInts_yes _ _ ((M.rowOf i).map natI) w12 w12.heap.size w12.heap.size (Z_94.out.rk encI_len (Nat.le_refl _)) (X_92.out.rk encI_len (Nat.le_refl _))).mono ?_
              rintro e w13 ⟨rfl, qw13, hw13⟩
              have tw13 : Below w12.heap.size w12 w13 := by rw [hw13]; exact below_drewN (Below.refl _ _) _
              clear hw13
              have H_95 := Lib.hid (H_90.out.below tw13)
              have T_96 := Lib.hid (T_91.out.trans (tw13.mono T_91.out.size))
              have X_97 := Lib.hid (X_92.out.below tw13)
              have Y_98 := Lib.hid (Y_93.out.below tw13)
              have Z_99 := Lib.hid (Z_94.out.below tw13)
              clear H_90 T_91 X_92 Y_93 Z_94
              clear tw13
              clear Z_99
              by_cases hkb : M2.known qb = true
              · obtain ⟨j, rfl, hj⟩ := known_nat hkb
                have N1 := Lib.hid (errA_nat hj)
                have HJ := Lib.hid hj
                by_cases hsm : M2.sameA (i : Int) (j : Int) = true
                ·
                  have SAB := Lib.hid hsm
                  have R2 : Hid (M2.rowA (j : Int) = M.rowOf i) := Lib.hid (by rw [same_rows (K4.out) hj hsm, K1.out])
                  clear hsm hj hkb
                  go_wp2_with fail
                  refine (bList w.heap.size noQ w13 g M2 H_95.out j).mono ?_
                  rw [R2.out, N1.out]
                  rintro e w14 ⟨v14, rfl, hl14, t14⟩
                  obtain ⟨A14, c14, hv14, -, -, -, -⟩ := (hl14.rk encI_len (Nat.le_refl _)).open_
                  rw [List.length_map, HLX.out, ← HN6.out] at hv14
                  subst hv14
                  have H_100 := Lib.hid (H_95.out.below t14)
                  have T_101 := Lib.hid (T_96.out.trans (t14.mono T_96.out.size))
                  have X_102 := Lib.hid (X_97.out.below t14)
                  have Y_103 := Lib.hid (Y_98.out.below t14)
                  clear H_95 T_96 X_97 Y_98
                  have O_104 := Lib.hid (hl14)
                  clear hl14 t14
                  go_wp2_with fail
                  refine (bSame w.heap.size noQ w14 g M2 H_100.out i j).mono ?_
                  rw [SAB.out]
                  rintro e w15 ⟨rfl, h15⟩
                  subst w15
                  go_wp2_with fail
                  refine (SameInts_yes _ _ ((M.rowOf i).map natI) w14 w14.heap.size w14.heap.size (O_104.out.rk encI_len (Nat.le_refl _)) (X_102.out.rk encI_len (Nat.le_refl _))).mono ?_
                  rintro e w16 ⟨rfl, q16, h16⟩
                  subst h16
                  have TE := Lib.hid (below_drewN T_101.out q16)
                  go_wp2_with fail
                  go_ret
                  exact ⟨rfl, TE.out⟩
                ·
                  have hsm2 : M2.sameA (i : Int) (j : Int) = false := by simpa using hsm
                  have SAB := Lib.hid hsm2
                  obtain ⟨o, s1, s2, s3, s4, s5⟩ := seam2 K3.out K4.out hj hsm2
                  obtain ⟨M3, hM3⟩ : ∃ z, M2.joinA (i : Int) (j : Int) = z := ⟨_, rfl⟩
                  rw [hM3] at s3 s4 s5
                  obtain ⟨M4, hM4⟩ : ∃ z, M3.cutA (o : Int) = z := ⟨_, rfl⟩
                  rw [hM4] at s4 s5
                  obtain ⟨q0, q1⟩ := List.getElem?_eq_some_iff.1 s1
                  have S1 : Hid (0 < (M2.rowOf j).length) := Lib.hid q0
                  have S1' : Hid ((M2.rowOf j)[0]'S1.out = o) := Lib.hid q1
                  have S2 := Lib.hid s2
                  have S3 := Lib.hid s3
                  have S4 := Lib.hid (s4.trans K1.out)
                  have S5 := Lib.hid (s5.trans (rowA_nat hj))
                  have S6 := Lib.hid (rowA_nat hj)
                  have HM3 := Lib.hid hM3
                  have HM4 := Lib.hid hM4
                  obtain ⟨nj, hnj⟩ : ∃ z, z = (M2.rowOf j).length := ⟨_, rfl⟩
                  have hnj0 : 0 < nj := by rw [hnj]; exact q0
                  have HNJ := Lib.hid hnj
                  clear s1 s2 s3 s4 s5 q0 q1 hM3 hM4 hsm hsm2 hj hkb hnj
                  go_wp2_with fail
                  refine (bList w.heap.size noQ w13 g M2 H_95.out j).mono ?_
                  rw [S6.out, N1.out]
                  rintro e w14 ⟨v14, rfl, hl14, t14⟩
                  obtain ⟨A14, c14, hv14, -, -, -, -⟩ := (hl14.rk encI_len (Nat.le_refl _)).open_
                  rw [List.length_map, ← HNJ.out] at hv14
                  subst hv14
                  have H_105 := Lib.hid (H_95.out.below t14)
                  have T_106 := Lib.hid (T_96.out.trans (t14.mono T_96.out.size))
                  have X_107 := Lib.hid (X_97.out.below t14)
                  have Y_108 := Lib.hid (Y_98.out.below t14)
                  clear H_95 T_96 X_97 Y_98
                  have O_109 := Lib.hid (hl14)
                  clear hl14 t14
                  go_wp2_with fail
                  refine (bSame w.heap.size noQ w14 g M2 H_105.out i j).mono ?_
                  rw [SAB.out]
                  rintro e w15 ⟨rfl, h15⟩
                  subst w15
                  go_wp2_with fail
                  refine (bJoin w.heap.size noQ w14 g M2 H_105.out T_106.out.size i j).mono ?_
                  rw [S2.out, HM3.out]
                  rintro e w16 ⟨rfl, h16, t16⟩
                  have T_110 := Lib.hid (T_106.out.trans t16.below)
                  have X_111 := Lib.hid (t16.row (by decide) (by decide) X_107.out)
                  have Y_112 := Lib.hid (t16.row (by decide) (by decide) Y_108.out)
                  have O_113 := Lib.hid (t16.row (by decide) (by decide) O_109.out)
                  clear T_106 X_107 Y_108 O_109
                  clear H_105
                  have H_114 := Lib.hid (h16)
                  clear h16 t16
                  obtain ⟨bo, oo, rfl, hxo⟩ := O_113.out.cellRow (q := 0) (by rw [List.length_map]; exact S1.out)
                  have yo : w16.cell? ⟨bo, oo, none⟩ = some (.int .i64 (o : Int)) := by rw [List.getElem_map, S1'.out] at hxo; exact hxo
                  clear hxo
                  go_wp2_with fail
                  refine (bCut w.heap.size noQ w16 g M3 H_114.out T_110.out.size o).mono ?_
                  rw [S3.out, HM4.out]
                  rintro e w17 ⟨rfl, h17, t17⟩
                  clear yo
                  have T_115 := Lib.hid (T_110.out.trans t17.below)
                  have X_116 := Lib.hid (t17.row (by decide) (by decide) X_111.out)
                  have Y_117 := Lib.hid (t17.row (by decide) (by decide) Y_112.out)
                  have O_118 := Lib.hid (t17.row (by decide) (by decide) O_113.out)
                  clear T_110 X_111 Y_112 O_113
                  clear H_114
                  have H_119 := Lib.hid (h17)
                  clear h17 t17
                  go_wp2_with fail
                  refine (bList w.heap.size noQ w17 g M4 H_119.out i).mono ?_
                  rw [S4.out]
                  rintro e w18 ⟨vw18, rfl, hlw18, tw18⟩
                  obtain ⟨Aw18, cw18, hvw18, -, hcw18, -, -⟩ := (hlw18.rk encI_len (Nat.le_refl _)).open_
                  obtain ⟨nw18, hnw18⟩ : ∃ z, z = ((M.rowOf i).map natI).length := ⟨_, rfl⟩
                  rw [← hnw18] at hvw18
                  subst hvw18
                  have HNw18 := Lib.hid hnw18
                  clear hnw18 hcw18
                  have H_120 := Lib.hid (H_119.out.below tw18)
                  have T_121 := Lib.hid (T_115.out.trans (tw18.mono T_115.out.size))
                  have X_122 := Lib.hid (X_116.out.below tw18)
                  have Y_123 := Lib.hid (Y_117.out.below tw18)
                  have O_124 := Lib.hid (O_118.out.below tw18)
                  clear H_119 T_115 X_116 Y_117 O_118
                  have L_125 := Lib.hid (hlw18)
                  clear hlw18 tw18
                  go_wp2_with fail
                  refine (bList w.heap.size noQ w18 g M4 H_120.out j).mono ?_
                  rw [S5.out]
                  rintro e w19 ⟨vw19, rfl, hlw19, tw19⟩
                  obtain ⟨Aw19, cw19, hvw19, -, hcw19, -, -⟩ := (hlw19.rk encI_len (Nat.le_refl _)).open_
                  obtain ⟨nw19, hnw19⟩ : ∃ z, z = ((M2.rowOf j).map natI).length := ⟨_, rfl⟩
                  rw [← hnw19] at hvw19
                  subst hvw19
                  have HNw19 := Lib.hid hnw19
                  clear hnw19 hcw19
                  have H_126 := Lib.hid (H_120.out.below tw19)
                  have T_127 := Lib.hid (T_121.out.trans (tw19.mono T_121.out.size))
                  have X_128 := Lib.hid (X_122.out.below tw19)
                  have Y_129 := Lib.hid (Y_123.out.below tw19)
                  have O_130 := Lib.hid (O_124.out.below tw19)
                  have L_131 := Lib.hid (L_125.out.below tw19)
                  clear H_120 T_121 X_122 Y_123 O_124 L_125
                  have N_132 := Lib.hid (hlw19)
                  clear hlw19 tw19
                  go_wp2_with fail
                  refine (SameInts_yes _ _ ((M.rowOf i).map natI) w19 w19.heap.size w19.heap.size (L_131.out.rk encI_len (Nat.le_refl _)) (X_128.out.rk encI_len (Nat.le_refl _))).mono ?_
                  rintro e w20 ⟨rfl, qw20, hw20⟩
                  have tw20 : Below w19.heap.size w19 w20 := by rw [hw20]; exact below_drewN (Below.refl _ _) _
                  clear hw20
                  have H_133 := Lib.hid (H_126.out.below tw20)
                  have T_134 := Lib.hid (T_127.out.trans (tw20.mono T_127.out.size))
                  have X_135 := Lib.hid (X_128.out.below tw20)
                  have Y_136 := Lib.hid (Y_129.out.below tw20)
                  have O_137 := Lib.hid (O_130.out.below tw20)
                  have L_138 := Lib.hid (L_131.out.below tw20)
                  have N_139 := Lib.hid (N_132.out.below tw20)
                  clear H_126 T_127 X_128 Y_129 O_130 L_131 N_132
                  clear tw20
                  go_wp2_with fail
                  refine (SameInts_yes _ _ ((M2.rowOf j).map natI) w20 w20.heap.size w20.heap.size (N_139.out.rk encI_len (Nat.le_refl _)) (O_137.out.rk encI_len (Nat.le_refl _))).mono ?_
                  rintro e w21 ⟨rfl, q21, h21⟩
                  subst h21
                  have TE := Lib.hid (below_drewN T_134.out q21)
                  go_wp2_with fail
                  go_ret
                  exact ⟨rfl, TE.out⟩
              · have HX2 := Lib.hid (not_known (by simpa using hkb : M2.known qb = false))
                clear hkb
                go_wp2_with fail
                refine (bList w.heap.size noQ w13 g M2 H_95.out qb).mono ?_
                rw [HX2.out.1, HX2.out.2.1]
                rintro e w14 ⟨v14, rfl, hl14, t14⟩
                obtain ⟨A14, c14, hv14, -, -, -, -⟩ := (hl14.rk encI_len (Nat.le_refl _)).open_
                rw [List.map_nil, List.length_nil] at hv14
                subst hv14
                have H_140 := Lib.hid (H_95.out.below t14)
                have T_141 := Lib.hid (T_96.out.trans (t14.mono T_96.out.size))
                have X_142 := Lib.hid (X_97.out.below t14)
                have Y_143 := Lib.hid (Y_98.out.below t14)
                clear H_95 T_96 X_97 Y_98
                clear hl14 t14
                go_wp2_with fail
                refine (bSame w.heap.size noQ w14 g M2 H_140.out i qb).mono ?_
                rintro e w15 ⟨rfl, h15⟩
                subst w15
                go_wp2_with fail
                go_ret
                exact ⟨rfl, T_141.out⟩
      ·
        have HX1 := Lib.hid (not_known (by simpa using hka : M.known qa = false))
        clear hka
        have H_144 := Lib.hid (HTW.out.1)
        go_wp2_with fail
        refine (bList w.heap.size noQ wr g M H_144.out qa).mono ?_
        rw [HX1.out.1, HX1.out.2.1]
        rintro e w6 ⟨v6, rfl, hl6, t6⟩
        obtain ⟨A6, c6, hv6, -, -, -, -⟩ := (hl6.rk encI_len (Nat.le_refl _)).open_
        rw [List.map_nil, List.length_nil] at hv6
        subst hv6
        have T_145 := Lib.hid (HT.out.trans (t6.mono HT.out.size))
        have H_146 := Lib.hid (H_144.out.below t6)
        clear HT H_144
        clear hl6 t6
        go_wp2_with fail
        refine (bCut w.heap.size noQ w6 g M H_146.out T_145.out.size qa).mono ?_
        rw [HX1.out.2.1]
        rintro e w7 ⟨rfl, h7, t7⟩
        have T_147 := Lib.hid (T_145.out.trans t7.below)
        clear T_145
        clear h7 t7
        go_wp2_with fail
        go_ret
        exact ⟨rfl, T_147.out⟩

end Go.Proofs.Ytbbfnbnjaiimgaa
