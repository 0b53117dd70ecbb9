/-
  The walk of TreapSums.
-/
import Derived.Test.YtbbfnbnjaiimgaaRP36
import Derived.Test.YtbbfnbnjaiimgaaAQ
import Derived.Test.YtbbfnbnjaiimgaaRP27
namespace Go.Proofs.Ytbbfnbnjaiimgaa
open Go.RowKit
set_option linter.unusedVariables false

/-- What the first nodes of a row bear together, one after the other. -/
def RM.sumTo (M : RM SV) (xs : List Nat) : SV := xs.foldl (fun s j => SV.plus s (M.val j)) ⟨0, 0⟩

theorem sumTo_snoc (M : RM SV) (xs : List Nat) (j : Nat) : M.sumTo (xs ++ [j]) = SV.plus (M.sumTo xs) (M.val j) := by unfold RM.sumTo; rw [List.foldl_append]; rfl

theorem RpT.far {B : Nat} {w : World} {g p i : Nat} {M : RM SV} {t : TypeId} {cs : Array Value} (h : RpT B w g M) (hb : Blk w p t cs) (h1 : t ≠ 94) (h2 : t ≠ 108) (h3 : t ≠ 3) (u : Value) : RpT B (w.setCell ⟨p, i, none⟩ u) g M := ⟨h.1.far hb h1 h2 h3 u, h.2⟩

theorem OK.cellRow {w : World} {B n c : Nat} {A : Option Addr} {xs : List Int} (h : OK encI 1 3 w B (.slice A n c) xs) {q : Nat} (hq : q < xs.length) : ∃ b o, A = some ⟨b, o, none⟩ ∧ w.cell? ⟨b, o + q, none⟩ = some (.int .i64 xs[q]) := by
  obtain ⟨A', c', e, _, _, _, HC⟩ := (h.rk encI_len (Nat.le_refl _)).open_
  injection e with e1 e2 e3
  subst e1
  obtain ⟨b, o, e', _, hx⟩ := HC.out q hq
  exact ⟨b, o, e', cellI hx⟩

set_option maxRecDepth 100000 in
set_option maxHeartbeats 8000000 in
theorem treapSums_walk (w : World) (v0 : Value) (V0 : List Int) (v1 : Value) (os : List OpT) (qa qb qv : Int) (h0 : RI w w.heap.size v0 V0) (hs : ScrT w v1 os) (hqa : I64 qa) (hqb : I64 qb) (hqv : I64 qv) :
    Calls Try.prog 6 #[v0, v1, .int .i64 qa, .int .i64 qb, .int .i64 qv] w fun e w' => e = .returned (.bool true) ∧ Below w.heap.size w w' := by
  have HQV := Lib.hid hqv
  clear hqv hqa hqb
  obtain ⟨A, c, rfl, hc1, hc2, hc3, hC⟩ := hs.rk.open_
  have HC := hC
  have HS := Lib.hid hs
  have R0 := Lib.hid h0
  clear hs h0 hC
  go_enter Try.func6, Try.ntmps6
  go_wp2_with fail
  refine (tNew w _ V0 R0.out).mono ?_
  rintro e w1 ⟨g, rfl, h1, t1⟩
  have H1 := Lib.hid h1
  have T1 := Lib.hid t1
  clear h1 t1
  go_wp2_with fail
  refine (alive_any w1).mono ?_
  rintro e w3 ⟨rfl, t3⟩
  have H3 := Lib.hid (H1.out.below t3)
  have T3 := Lib.hid (T1.out.trans (t3.mono T1.out.size))
  clear t3
  go_wp2_with fail
  go_loopw [45] (fun i wr => ∃ k : Nat, k ≤ os.length ∧ i = .int .i64 k ∧ Hid (RpT w.heap.size wr g (RM.new.runsT (os.take k))) ∧ Hid (Below w.heap.size w wr)) (fun i _ => os.length - (intOf i).toNat)
  case atStart => exact ⟨0, Nat.zero_le _, rfl, H3, T3⟩
  case round =>
    obtain ⟨k, hk, rfl, HTW, HT⟩ := hrel
    by_cases hkl : k < os.length
    · obtain ⟨b1, o1, rfl, hb, hx⟩ := HC.out k hkl
      obtain ⟨hx1, hx2, hx3, hx4, hx5⟩ := cellOT hx
      have y1 : wr.cell? ⟨b1, o1 + k * 5, none⟩ = _ := (HT.out.cell (p := ⟨b1, o1 + k * 5, none⟩) hb).trans hx1
      have y2 : wr.cell? ⟨b1, o1 + k * 5 + 1, none⟩ = _ := (HT.out.cell (p := ⟨b1, o1 + k * 5 + 1, none⟩) hb).trans hx2
      have y3 : wr.cell? ⟨b1, o1 + k * 5 + 2, none⟩ = _ := (HT.out.cell (p := ⟨b1, o1 + k * 5 + 2, none⟩) hb).trans hx3
      have y4 : wr.cell? ⟨b1, o1 + k * 5 + 3, none⟩ = _ := (HT.out.cell (p := ⟨b1, o1 + k * 5 + 3, none⟩) hb).trans hx4
      have y5 : wr.cell? ⟨b1, o1 + k * 5 + 4, none⟩ = _ := (HT.out.cell (p := ⟨b1, o1 + k * 5 + 4, none⟩) hb).trans hx5
      have HOP := Lib.hid (HS.out.at_ os[k] (List.getElem_mem hkl))
      have HTK := Lib.hid (List.take_succ_eq_append_getElem hkl)
      clear hx hx1 hx2 hx3 hx4 hx5
      obtain ⟨x, hx⟩ : ∃ x, x = os[k] := ⟨_, rfl⟩
      rw [← hx] at y1 y2 y3 y4 y5 HOP HTK
      clear hx
      obtain ⟨M, hM⟩ : ∃ M, M = (RM.new : RM SV).runsT (os.take k) := ⟨_, rfl⟩
      rw [← hM] at HTW
      have HM := Lib.hid hM
      clear hM
      obtain ⟨kd, a, b, n, m⟩ := x
      dsimp only at y1 y2 y3 y4 y5
      obtain ⟨p, hp⟩ : ∃ p, p = wr.heap.size := ⟨_, rfl⟩
      obtain ⟨W, hW⟩ : ∃ x, x = wr.alloc (.cells #[.int .i64 kd, .int .i64 a, .int .i64 b, .int .i64 n, .int .u8 m] 34) := ⟨_, rfl⟩
      have hbW : Below wr.heap.size wr W := by rw [hW]; exact (Below.refl _ _).alloc (Nat.le_refl _) _
      have hkW : Blk W p 34 #[.int .i64 kd, .int .i64 a, .int .i64 b, .int .i64 n, .int .u8 m] := by rw [hW, hp]; exact Blk.new _ _ _
      have HPp := Lib.hid hp
      have HWW := Lib.hid hW
      clear hp hW
      have H_1 := Lib.hid (HTW.out.below hbW)
      have T_2 := Lib.hid (HT.out.trans (hbW.mono HT.out.size))
      clear HTW HT
      have K_3 := Lib.hid (hkW)
      clear hbW hkW
      go_upto_region 7 with fail
      rw [← HWW.out, ← HPp.out]
      clear y1 y2 y3 y4 y5
      have z0 := K_3.out.cell 0
      have z1 := K_3.out.cell 1
      have z2 := K_3.out.cell 2
      have z3 := K_3.out.cell 3
      have z4 := K_3.out.cell 4
      go_wp2_with fail
      refine (tChanges w.heap.size W g M H_1.out T_2.out.size kd a b n m HOP.out).mono ?_
      rintro e w4 ⟨⟨u4, x4, rfl⟩, h4, t4⟩
      have T_4 := Lib.hid (T_2.out.trans t4.below)
      clear z0
      clear z1
      clear z2
      clear z3
      clear z4
      have K_5 := Lib.hid (t4.blk (by decide) (by decide) K_3.out)
      have z0 := K_5.out.cell 0
      have z1 := K_5.out.cell 1
      have z2 := K_5.out.cell 2
      have z3 := K_5.out.cell 3
      have z4 := K_5.out.cell 4
      clear T_2 K_3
      have H_6 := Lib.hid (h4)
      clear h4 t4
      go_wp2_with fail
      go_roundw
      case rel => exact ⟨k + 1, by omega, by go_num, Lib.hid (by rw [HTK.out, runsT_snoc, ← HM.out]; exact H_6.out), T_4⟩
      case measure => simp [intOf]; omega
    · obtain rfl : k = os.length := by omega
      rw [List.take_length] at HTW
      obtain ⟨M, hM⟩ : ∃ M, M = (RM.new : RM SV).runsT os := ⟨_, rfl⟩
      rw [← hM] at HTW
      have HM := Lib.hid hM
      clear hM
      by_cases hka : M.known qa = true
      · obtain ⟨i, rfl, hi⟩ := known_nat hka
        have E1 := Lib.hid (errA_nat hi)
        have E2 := Lib.hid (rowA_nat hi)
        have E3 := Lib.hid (sums_set HTW.out.1.ok HTW.out.2 hi qv HQV.out)
        have E4 : Hid (M.sumTo (M.rowOf i) = M.allA (i : Int)) := Lib.hid (sums_all HTW.out.1.ok HTW.out.2 hi)
        have HI := Lib.hid hi
        have HOK := Lib.hid HTW.out.1.ok
        obtain ⟨n6, hn6⟩ : ∃ n6, n6 = (M.rowOf i).length := ⟨_, rfl⟩
        have HN6 := Lib.hid hn6
        have hl6 : n6 ≤ 65536 := by rw [hn6]; exact Nat.le_trans (row_len HTW.out.1.ok (row_mem HTW.out.1.ok hi).1) HTW.out.1.few
        clear hn6 hi hka
        obtain ⟨sn, sm, hsv⟩ : ∃ sn sm, M.allA (i : Int) = ⟨sn, sm⟩ := ⟨_, _, rfl⟩
        have HSV := Lib.hid hsv
        clear hsv
        go_wp2_with fail
        refine (bList w.heap.size noQ wr g M HTW.out.1 i).mono ?_
        rw [E1.out, E2.out]
        rintro e w6 ⟨v6, rfl, hl6', t6⟩
        obtain ⟨A6, c6, hv6, -, -, -, -⟩ := (hl6'.rk encI_len (Nat.le_refl _)).open_
        rw [List.length_map, ← HN6.out] at hv6
        subst hv6
        have H_7 := Lib.hid (HTW.out.below t6)
        have T_8 := Lib.hid (HT.out.trans (t6.mono HT.out.size))
        clear HTW HT
        have X_9 := Lib.hid (hl6')
        clear hl6' t6
        go_wp2_with fail
        refine (bAll w.heap.size noQ w6 g M H_7.out.1 i).mono ?_
        rw [E1.out, HSV.out, show (SV.v ⟨sn, sm⟩ : Value) = .agg #[.int .i64 sn, .int .i64 sm] by rfl]
        rintro e w7 ⟨rfl, t7⟩
        have H_10 := Lib.hid (H_7.out.below t7)
        have T_11 := Lib.hid (T_8.out.trans (t7.mono T_8.out.size))
        have X_12 := Lib.hid (X_9.out.below t7)
        clear H_7 T_8 X_9
        clear t7
        go_upto_region 11 with fail
        obtain ⟨p7, hp7⟩ : ∃ p, p = w7.heap.size := ⟨_, rfl⟩
        obtain ⟨W7, hW7⟩ : ∃ x, x = w7.alloc (.cells #[.int .i64 sn, .int .i64 sm] 27) := ⟨_, rfl⟩
        have hbW7 : Below w7.heap.size w7 W7 := by rw [hW7]; exact (Below.refl _ _).alloc (Nat.le_refl _) _
        have hkW7 : Blk W7 p7 27 #[.int .i64 sn, .int .i64 sm] := by rw [hW7, hp7]; exact Blk.new _ _ _
        have GEp7 : Hid (w.heap.size ≤ p7) := Lib.hid (by rw [hp7]; exact T_11.out.size)
        have HPp7 := Lib.hid hp7
        have HWW7 := Lib.hid hW7
        clear hp7 hW7
        have H_13 := Lib.hid (H_10.out.below hbW7)
        have T_14 := Lib.hid (T_11.out.trans (hbW7.mono T_11.out.size))
        have X_15 := Lib.hid (X_12.out.below hbW7)
        clear H_10 T_11 X_12
        have P_16 := Lib.hid (hkW7)
        clear hbW7 hkW7
        rw [← HWW7.out, ← HPp7.out]
        go_wp2_with fail
        refine (bSize w.heap.size noQ W7 g M H_13.out.1 i).mono ?_
        rw [E1.out, E2.out, ← HN6.out]
        rintro e w8 ⟨rfl, t8⟩
        have H_17 := Lib.hid (H_13.out.below t8)
        have T_18 := Lib.hid (T_14.out.trans (t8.mono T_14.out.size))
        have X_19 := Lib.hid (X_15.out.below t8)
        have P_20 := Lib.hid (P_16.out.below t8 P_16.out.lt)
        clear H_13 T_14 X_15 P_16
        clear t8
        go_upto_region 17 with fail
        obtain ⟨p8, hp8⟩ : ∃ p, p = w8.heap.size := ⟨_, rfl⟩
        obtain ⟨W8, hW8⟩ : ∃ x, x = w8.alloc (.cells #[.int .i64 0, .int .i64 0] 27) := ⟨_, rfl⟩
        have hbW8 : Below w8.heap.size w8 W8 := by rw [hW8]; exact (Below.refl _ _).alloc (Nat.le_refl _) _
        have hkW8 : Blk W8 p8 27 #[.int .i64 0, .int .i64 0] := by rw [hW8, hp8]; exact Blk.new _ _ _
        have GEp8 : Hid (w.heap.size ≤ p8) := Lib.hid (by rw [hp8]; exact T_18.out.size)
        have NEp7p8 : Hid (p7 ≠ p8) := Lib.hid (by rw [hp8]; exact Nat.ne_of_lt P_20.out.lt)
        have HPp8 := Lib.hid hp8
        have HWW8 := Lib.hid hW8
        clear hp8 hW8
        have H_21 := Lib.hid (H_17.out.below hbW8)
        have T_22 := Lib.hid (T_18.out.trans (hbW8.mono T_18.out.size))
        have X_23 := Lib.hid (X_19.out.below hbW8)
        have P_24 := Lib.hid (P_20.out.below hbW8 P_20.out.lt)
        clear H_17 T_18 X_19 P_20
        have Q_25 := Lib.hid (hkW8)
        clear hbW8 hkW8
        rw [← HWW8.out, ← HPp8.out]
        go_wp2_with fail
        obtain ⟨B6, hB6⟩ : ∃ B6, B6 = wr.heap.size := ⟨_, rfl⟩
        rw [← hB6] at X_23
        have HS0 : Hid (M.sumTo ((M.rowOf i).take 0) = ⟨0, 0⟩) := Lib.hid (by simp [RM.sumTo])
        clear hB6
        go_loopw [98] (fun j wx => ∃ (q : Nat) (an am : Int), q ≤ n6 ∧ j = .int .i64 q ∧ Hid (M.sumTo ((M.rowOf i).take q) = ⟨an, am⟩) ∧ Hid (RpT w.heap.size wx g M) ∧ Hid (Below w.heap.size w wx) ∧ Hid (OK encI 1 3 wx B6 (.slice A6 n6 c6) ((M.rowOf i).map natI)) ∧ Hid (Blk wx p7 27 #[.int .i64 sn, .int .i64 sm]) ∧ Hid (Blk wx p8 27 #[.int .i64 an, .int .i64 am])) (fun j _ => n6 - (intOf j).toNat)
        case atStart => exact ⟨0, 0, 0, Nat.zero_le _, rfl, HS0, H_21, T_22, X_23, P_24, Q_25⟩
        case round =>
          obtain ⟨q, an, am, hq, rfl, HSQ, HR, HTX, HX, HP7, HP8⟩ := hrel
          by_cases hqn : q < n6
          · have hqr : q < (M.rowOf i).length := by have := HN6.out; omega
            obtain ⟨bq, oq, rfl, hxq⟩ := HX.out.cellRow (q := q) (by rw [List.length_map]; exact hqr)
            obtain ⟨j, hj⟩ : ∃ j, j = (M.rowOf i)[q] := ⟨_, rfl⟩
            have hjk : 1 ≤ j ∧ j ≤ M.own.length := by rw [hj]; exact known_row HOK.out HI.out (List.getElem_mem hqr)
            have y1 : wr.cell? ⟨bq, oq + q, none⟩ = some (.int .i64 (j : Int)) := by rw [List.getElem_map, ← hj] at hxq; exact hxq
            obtain ⟨xn, xm, hxv⟩ : ∃ xn xm, M.val j = ⟨xn, xm⟩ := ⟨_, _, rfl⟩
            have F1 := Lib.hid (errA_nat hjk)
            have F2 : Hid (M.valA (j : Int) = ⟨xn, xm⟩) := Lib.hid (by rw [valA_nat hjk, hxv])
            have F3 : Hid (M.sumTo ((M.rowOf i).take (q + 1)) = SV.plus ⟨an, am⟩ ⟨xn, xm⟩) := Lib.hid (by rw [List.take_succ_eq_append_getElem hqr, sumTo_snoc, HSQ.out, ← hj, hxv])
            clear hxq hj hjk hxv
            go_wp2_with fail
            refine (bValue w.heap.size noQ wr g M HR.out.1 j).mono ?_
            rw [F1.out, F2.out, show (SV.v ⟨xn, xm⟩ : Value) = .agg #[.int .i64 xn, .int .i64 xm] by rfl]
            rintro e w9 ⟨rfl, t9⟩
            have H_26 := Lib.hid (HR.out.below t9)
            have T_27 := Lib.hid (HTX.out.trans (t9.mono HTX.out.size))
            have X_28 := Lib.hid (HX.out.below t9)
            have P_29 := Lib.hid (HP7.out.below t9 HP7.out.lt)
            have Q_30 := Lib.hid (HP8.out.below t9 HP8.out.lt)
            clear HR HTX HX HP7 HP8
            clear t9 y1
            go_upto_region 21 with fail
            obtain ⟨p9, hp9⟩ : ∃ p, p = w9.heap.size := ⟨_, rfl⟩
            obtain ⟨W9, hW9⟩ : ∃ x, x = w9.alloc (.cells #[.int .i64 xn, .int .i64 xm] 27) := ⟨_, rfl⟩
            have hbW9 : Below w9.heap.size w9 W9 := by rw [hW9]; exact (Below.refl _ _).alloc (Nat.le_refl _) _
            have hkW9 : Blk W9 p9 27 #[.int .i64 xn, .int .i64 xm] := by rw [hW9, hp9]; exact Blk.new _ _ _
            have NEp8p9 : Hid (p8 ≠ p9) := Lib.hid (by rw [hp9]; exact Nat.ne_of_lt Q_30.out.lt)
            have HPp9 := Lib.hid hp9
            have HWW9 := Lib.hid hW9
            clear hp9 hW9
            have H_31 := Lib.hid (H_26.out.below hbW9)
            have T_32 := Lib.hid (T_27.out.trans (hbW9.mono T_27.out.size))
            have X_33 := Lib.hid (X_28.out.below hbW9)
            have P_34 := Lib.hid (P_29.out.below hbW9 P_29.out.lt)
            have Q_35 := Lib.hid (Q_30.out.below hbW9 Q_30.out.lt)
            clear H_26 T_27 X_28 P_29 Q_30
            have Y_36 := Lib.hid (hkW9)
            clear hbW9 hkW9
            rw [← HWW9.out, ← HPp9.out]
            have x0 := Q_35.out.cell 0
            have x1 := Q_35.out.cell 1
            have x2 := Y_36.out.cell 0
            have x3 := Y_36.out.cell 1
            go_wp2_with fail
            refine (Plus_any ⟨an, am⟩ ⟨xn, xm⟩ W9).mono ?_
            obtain ⟨rn, rm, hr⟩ : ∃ rn rm, SV.plus ⟨an, am⟩ ⟨xn, xm⟩ = ⟨rn, rm⟩ := ⟨_, _, rfl⟩
            rw [hr, show (SV.v ⟨rn, rm⟩ : Value) = .agg #[.int .i64 rn, .int .i64 rm] by rfl]
            have F4 := Lib.hid (F3.out.trans hr)
            clear hr
            rintro e w10 ⟨rfl, t10⟩
            clear x0 x1 x2 x3
            have H_37 := Lib.hid (H_31.out.below t10)
            have T_38 := Lib.hid (T_32.out.trans (t10.mono T_32.out.size))
            have X_39 := Lib.hid (X_33.out.below t10)
            have P_40 := Lib.hid (P_34.out.below t10 P_34.out.lt)
            have Q_41 := Lib.hid (Q_35.out.below t10 Q_35.out.lt)
            have Y_42 := Lib.hid (Y_36.out.below t10 Y_36.out.lt)
            clear H_31 T_32 X_33 P_34 Q_35 Y_36
            clear t10
            have x0 := Q_41.out.cell 0
            have x1 := Q_41.out.cell 1
            have f0 := Q_41.out.frozen 0
            have f1 := Q_41.out.frozen 1
            have HQ11 := Lib.hid (Q_41.out.set_ 0 (.int .i64 rn))
            have HH := Lib.hid ((H_37.out.far Q_41.out (by decide) (by decide) (by decide) (.int .i64 rn)).far (i := 1) HQ11.out (by decide) (by decide) (by decide) (.int .i64 rm))
            have HTT := Lib.hid ((T_38.out.setCell (p := ⟨p8, 0, none⟩) GEp8.out (.int .i64 rn)).setCell (p := ⟨p8, 1, none⟩) GEp8.out (.int .i64 rm))
            have HXX := Lib.hid ((X_39.out.setBlk Q_41.out (by decide) 0 (.int .i64 rn)).setBlk HQ11.out (by decide) 1 (.int .i64 rm))
            have HPP := Lib.hid ((P_40.out.far (p := ⟨p8, 0, none⟩) NEp7p8.out (.int .i64 rn)).far (p := ⟨p8, 1, none⟩) NEp7p8.out (.int .i64 rm))
            have HQQ : Hid (Blk ((w10.setCell ⟨p8, 0, none⟩ (.int .i64 rn)).setCell ⟨p8, 1, none⟩ (.int .i64 rm)) p8 27 #[.int .i64 rn, .int .i64 rm]) := Lib.hid (HQ11.out.set_ 1 (.int .i64 rm))
            clear HQ11
            go_wp2_with fail
            go_roundw
            case rel => exact ⟨q + 1, rn, rm, by omega, by go_num, F4, HH, HTT, HXX, HPP, HQQ⟩
            case measure => simp [intOf]; omega
          · obtain rfl : q = n6 := by omega
            have hfin : an = sn ∧ am = sm := by
              have h1 := HSQ.out
              rw [HN6.out, List.take_length, E4.out, HSV.out] at h1
              injection h1 with h1 h2
              exact ⟨h1.symm, h2.symm⟩
            obtain ⟨rfl, rfl⟩ := hfin
            have x0 := HP8.out.cell 0
            have x1 := HP8.out.cell 1
            have x2 := HP7.out.cell 0
            have x3 := HP7.out.cell 1
            obtain ⟨on, om, hov⟩ : ∃ on om, M.allA qb = ⟨on, om⟩ := ⟨_, _, rfl⟩
            have HOV := Lib.hid hov
            obtain ⟨wn, wm, hwv⟩ : ∃ wn wm, M.valA (i : Int) = ⟨wn, wm⟩ := ⟨_, _, rfl⟩
            have HWV := Lib.hid hwv
            obtain ⟨M', hM'⟩ : ∃ M', M' = M.setA (i : Int) ⟨qv, wm⟩ := ⟨_, rfl⟩
            have HM' := Lib.hid hM'
            obtain ⟨nn, nm, hnv⟩ : ∃ nn nm, M'.allA (i : Int) = ⟨nn, nm⟩ := ⟨_, _, rfl⟩
            have HNV := Lib.hid hnv
            obtain ⟨ln, lm, hlv⟩ : ∃ ln lm, M'.allA qb = ⟨ln, lm⟩ := ⟨_, _, rfl⟩
            have HLV := Lib.hid hlv
            obtain ⟨sb, hsb⟩ : ∃ sb, sb = M.sameA (i : Int) qb := ⟨_, rfl⟩
            have HSB := Lib.hid hsb
            have hE3 := E3.out
            rw [hwv, HSV.out] at hE3
            dsimp only at hE3
            rw [← hM', hnv] at hE3
            obtain ⟨k1, k2, k3⟩ := hE3
            dsimp only at k1 k2
            subst k2
            have HK1 := Lib.hid k1.symm
            clear k1
            have G3 : Hid (sb = false → ln = on ∧ lm = om) := Lib.hid (fun h => by
              have := k3 qb (by rw [← hsb]; exact h)
              rw [hlv, hov] at this
              injection this with h1 h2
              exact ⟨h1, h2⟩)
            have E1' : Hid (M'.errA (i : Int) = 0) := Lib.hid (by rw [hM']; exact (by unfold RM.errA RM.known; rw [own_setA]; exact E1.out))
            clear hov hwv hM' hnv hlv hsb k3 HSQ
            go_wp2_with fail
            refine (bAll w.heap.size noQ wr g M HR.out.1 qb).mono ?_
            rw [HOV.out, show (SV.v ⟨on, om⟩ : Value) = .agg #[.int .i64 on, .int .i64 om] by rfl]
            rintro e w11 ⟨rfl, t11⟩
            clear x0 x1 x2 x3
            have H_43 := Lib.hid (HR.out.below t11)
            have T_44 := Lib.hid (HTX.out.trans (t11.mono HTX.out.size))
            have P_45 := Lib.hid (HP7.out.below t11 HP7.out.lt)
            clear HR HTX HP7
            clear t11 HP8 HX
            go_upto_region 28 with fail
            obtain ⟨p11, hp11⟩ : ∃ p, p = w11.heap.size := ⟨_, rfl⟩
            obtain ⟨W11, hW11⟩ : ∃ x, x = w11.alloc (.cells #[.int .i64 on, .int .i64 om] 27) := ⟨_, rfl⟩
            have hbW11 : Below w11.heap.size w11 W11 := by rw [hW11]; exact (Below.refl _ _).alloc (Nat.le_refl _) _
            have hkW11 : Blk W11 p11 27 #[.int .i64 on, .int .i64 om] := by rw [hW11, hp11]; exact Blk.new _ _ _
            have HPp11 := Lib.hid hp11
            have HWW11 := Lib.hid hW11
            clear hp11 hW11
            have H_46 := Lib.hid (H_43.out.below hbW11)
            have T_47 := Lib.hid (T_44.out.trans (hbW11.mono T_44.out.size))
            have P_48 := Lib.hid (P_45.out.below hbW11 P_45.out.lt)
            clear H_43 T_44 P_45
            have O_49 := Lib.hid (hkW11)
            clear hbW11 hkW11
            rw [← HWW11.out, ← HPp11.out]
            go_wp2_with fail
            refine (bSame w.heap.size noQ W11 g M H_46.out.1 i qb).mono ?_
            rw [← HSB.out]
            rintro e w12 ⟨rfl, h12⟩
            subst w12
            go_wp2_with fail
            refine (bValue w.heap.size noQ W11 g M H_46.out.1 i).mono ?_
            rw [HWV.out, E1.out, show (SV.v ⟨wn, wm⟩ : Value) = .agg #[.int .i64 wn, .int .i64 wm] by rfl]
            rintro e w13 ⟨rfl, t13⟩
            have H_50 := Lib.hid (H_46.out.below t13)
            have T_51 := Lib.hid (T_47.out.trans (t13.mono T_47.out.size))
            have P_52 := Lib.hid (P_48.out.below t13 P_48.out.lt)
            have O_53 := Lib.hid (O_49.out.below t13 O_49.out.lt)
            clear H_46 T_47 P_48 O_49
            clear t13
            go_upto_region 30 with fail
            obtain ⟨p13, hp13⟩ : ∃ p, p = w13.heap.size := ⟨_, rfl⟩
            obtain ⟨W13, hW13⟩ : ∃ x, x = w13.alloc (.cells #[.int .i64 wn, .int .i64 wm] 27) := ⟨_, rfl⟩
            have hbW13 : Below w13.heap.size w13 W13 := by rw [hW13]; exact (Below.refl _ _).alloc (Nat.le_refl _) _
            have hkW13 : Blk W13 p13 27 #[.int .i64 wn, .int .i64 wm] := by rw [hW13, hp13]; exact Blk.new _ _ _
            have HPp13 := Lib.hid hp13
            have HWW13 := Lib.hid hW13
            clear hp13 hW13
            have H_54 := Lib.hid (H_50.out.below hbW13)
            have T_55 := Lib.hid (T_51.out.trans (hbW13.mono T_51.out.size))
            have P_56 := Lib.hid (P_52.out.below hbW13 P_52.out.lt)
            have O_57 := Lib.hid (O_53.out.below hbW13 O_53.out.lt)
            clear H_50 T_51 P_52 O_53
            have U_58 := Lib.hid (hkW13)
            clear hbW13 hkW13
            rw [← HWW13.out, ← HPp13.out]
            have x1 := U_58.out.cell 1
            go_wp2_with fail
            refine (bSet w.heap.size noQ W13 g M H_54.out.1 T_55.out.size i ⟨qv, wm⟩).mono ?_
            rw [E1.out, ← HM'.out]
            rintro e w14 ⟨rfl, h14, t14⟩
            clear x1
            have T_59 := Lib.hid (T_55.out.trans t14.below)
            have P_60 := Lib.hid (t14.blk (by decide) (by decide) P_56.out)
            have O_61 := Lib.hid (t14.blk (by decide) (by decide) O_57.out)
            have U_62 := Lib.hid (t14.blk (by decide) (by decide) U_58.out)
            clear T_55 P_56 O_57 U_58
            clear H_54
            have H_63 := Lib.hid (h14)
            clear h14 t14
            go_wp2_with fail
            refine (bAll w.heap.size noQ w14 g M' H_63.out i).mono ?_
            rw [E1'.out, HNV.out, show (SV.v ⟨nn, nm⟩ : Value) = .agg #[.int .i64 nn, .int .i64 nm] by rfl]
            rintro e w15 ⟨rfl, t15⟩
            have H_64 := Lib.hid (H_63.out.below t15)
            have T_65 := Lib.hid (T_59.out.trans (t15.mono T_59.out.size))
            have P_66 := Lib.hid (P_60.out.below t15 P_60.out.lt)
            have O_67 := Lib.hid (O_61.out.below t15 O_61.out.lt)
            have U_68 := Lib.hid (U_62.out.below t15 U_62.out.lt)
            clear H_63 T_59 P_60 O_61 U_62
            clear t15
            go_upto_region 33 with fail
            obtain ⟨p15, hp15⟩ : ∃ p, p = w15.heap.size := ⟨_, rfl⟩
            obtain ⟨W15, hW15⟩ : ∃ x, x = w15.alloc (.cells #[.int .i64 nn, .int .i64 nm] 27) := ⟨_, rfl⟩
            have hbW15 : Below w15.heap.size w15 W15 := by rw [hW15]; exact (Below.refl _ _).alloc (Nat.le_refl _) _
            have hkW15 : Blk W15 p15 27 #[.int .i64 nn, .int .i64 nm] := by rw [hW15, hp15]; exact Blk.new _ _ _
            have HPp15 := Lib.hid hp15
            have HWW15 := Lib.hid hW15
            clear hp15 hW15
            have H_69 := Lib.hid (H_64.out.below hbW15)
            have T_70 := Lib.hid (T_65.out.trans (hbW15.mono T_65.out.size))
            have P_71 := Lib.hid (P_66.out.below hbW15 P_66.out.lt)
            have O_72 := Lib.hid (O_67.out.below hbW15 O_67.out.lt)
            have U_73 := Lib.hid (U_68.out.below hbW15 U_68.out.lt)
            clear H_64 T_65 P_66 O_67 U_68
            have N_74 := Lib.hid (hkW15)
            clear hbW15 hkW15
            rw [← HWW15.out, ← HPp15.out]
            go_wp2_with fail
            refine (bAll w.heap.size noQ W15 g M' H_69.out qb).mono ?_
            rw [HLV.out, show (SV.v ⟨ln, lm⟩ : Value) = .agg #[.int .i64 ln, .int .i64 lm] by rfl]
            rintro e w16 ⟨rfl, t16⟩
            have H_75 := Lib.hid (H_69.out.below t16)
            have T_76 := Lib.hid (T_70.out.trans (t16.mono T_70.out.size))
            have P_77 := Lib.hid (P_71.out.below t16 P_71.out.lt)
            have O_78 := Lib.hid (O_72.out.below t16 O_72.out.lt)
            have U_79 := Lib.hid (U_73.out.below t16 U_73.out.lt)
            have N_80 := Lib.hid (N_74.out.below t16 N_74.out.lt)
            clear H_69 T_70 P_71 O_72 U_73 N_74
            clear t16
            go_upto_region 34 with fail
            obtain ⟨p16, hp16⟩ : ∃ p, p = w16.heap.size := ⟨_, rfl⟩
            obtain ⟨W16, hW16⟩ : ∃ x, x = w16.alloc (.cells #[.int .i64 ln, .int .i64 lm] 27) := ⟨_, rfl⟩
            have hbW16 : Below w16.heap.size w16 W16 := by rw [hW16]; exact (Below.refl _ _).alloc (Nat.le_refl _) _
            have hkW16 : Blk W16 p16 27 #[.int .i64 ln, .int .i64 lm] := by rw [hW16, hp16]; exact Blk.new _ _ _
            have HPp16 := Lib.hid hp16
            have HWW16 := Lib.hid hW16
            clear hp16 hW16
            have H_81 := Lib.hid (H_75.out.below hbW16)
            have T_82 := Lib.hid (T_76.out.trans (hbW16.mono T_76.out.size))
            have P_83 := Lib.hid (P_77.out.below hbW16 P_77.out.lt)
            have O_84 := Lib.hid (O_78.out.below hbW16 O_78.out.lt)
            have U_85 := Lib.hid (U_79.out.below hbW16 U_79.out.lt)
            have N_86 := Lib.hid (N_80.out.below hbW16 N_80.out.lt)
            clear H_75 T_76 P_77 O_78 U_79 N_80
            have L_87 := Lib.hid (hkW16)
            clear hbW16 hkW16
            rw [← HWW16.out, ← HPp16.out]
            have a0 := P_83.out.cell 0
            have a1 := P_83.out.cell 1
            have b0 := O_84.out.cell 0
            have b1 := O_84.out.cell 1
            have c0 := U_85.out.cell 0
            have c1 := U_85.out.cell 1
            have d0 := N_86.out.cell 0
            have d1 := N_86.out.cell 1
            have e0 := L_87.out.cell 0
            have e1 := L_87.out.cell 1
            have hk1 : wrap64 (wrap64 (an - wn) + qv) = nn := by rw [← HK1.out]; simp only [wrap64, IntKind.wrap_i64]
            cases sb with
            | false =>
              obtain ⟨rfl, rfl⟩ := G3.out rfl
              go_wp2_with fail
              go_ret
              exact ⟨rfl, T_82.out⟩
            | true =>
              go_wp2_with fail
              go_ret
              exact ⟨rfl, T_82.out⟩
      · have hka' : M.known qa = false := by simpa using hka
        obtain ⟨e1, e2, e3, e4, -⟩ := not_known hka'
        have E1 := Lib.hid e1
        have E2 := Lib.hid e2
        have E4 := Lib.hid e4
        clear e1 e2 e3 e4 hka hka'
        go_wp2_with fail
        refine (bList w.heap.size noQ wr g M HTW.out.1 qa).mono ?_
        rw [E1.out, E2.out]
        rintro e w6 ⟨v6, rfl, hl6', t6⟩
        obtain ⟨A6, c6, hv6, -, -, -, -⟩ := (hl6'.rk encI_len (Nat.le_refl _)).open_
        rw [List.map_nil, List.length_nil] at hv6
        subst hv6
        have H_88 := Lib.hid (HTW.out.below t6)
        have T_89 := Lib.hid (HT.out.trans (t6.mono HT.out.size))
        clear HTW HT
        clear hl6' t6
        go_wp2_with fail
        refine (bAll w.heap.size noQ w6 g M H_88.out.1 qa).mono ?_
        rw [E2.out, E4.out, show (SV.v ⟨0, 0⟩ : Value) = .agg #[.int .i64 0, .int .i64 0] by rfl]
        rintro e w7 ⟨rfl, t7⟩
        have H_90 := Lib.hid (H_88.out.below t7)
        have T_91 := Lib.hid (T_89.out.trans (t7.mono T_89.out.size))
        clear H_88 T_89
        clear t7
        go_upto_region 11 with fail
        obtain ⟨p7, hp7⟩ : ∃ p, p = w7.heap.size := ⟨_, rfl⟩
        obtain ⟨W7, hW7⟩ : ∃ x, x = w7.alloc (.cells #[.int .i64 0, .int .i64 0] 27) := ⟨_, rfl⟩
        have hbW7 : Below w7.heap.size w7 W7 := by rw [hW7]; exact (Below.refl _ _).alloc (Nat.le_refl _) _
        have hkW7 : Blk W7 p7 27 #[.int .i64 0, .int .i64 0] := by rw [hW7, hp7]; exact Blk.new _ _ _
        have HPp7 := Lib.hid hp7
        have HWW7 := Lib.hid hW7
        clear hp7 hW7
        have H_92 := Lib.hid (H_90.out.below hbW7)
        have T_93 := Lib.hid (T_91.out.trans (hbW7.mono T_91.out.size))
        clear H_90 T_91
        have P_94 := Lib.hid (hkW7)
        clear hbW7 hkW7
        rw [← HWW7.out, ← HPp7.out]
        go_wp2_with fail
        refine (bSize w.heap.size noQ W7 g M H_92.out.1 qa).mono ?_
        rw [E1.out, E2.out]
        rintro e w8 ⟨rfl, t8⟩
        have H_95 := Lib.hid (H_92.out.below t8)
        have T_96 := Lib.hid (T_93.out.trans (t8.mono T_93.out.size))
        have P_97 := Lib.hid (P_94.out.below t8 P_94.out.lt)
        clear H_92 T_93 P_94
        clear t8
        have a0 := P_97.out.cell 0
        have a1 := P_97.out.cell 1
        go_wp2_with fail
        go_ret
        exact ⟨rfl, T_96.out⟩

end Go.Proofs.Ytbbfnbnjaiimgaa
