/-
  The walk of TreapSeeds: two ropes side by side.
-/
import Derived.Test.YtbbfnbnjaiimgaaRP36
import Derived.Test.YtbbfnbnjaiimgaaAQ
import Derived.Test.YtbbfnbnjaiimgaaRP27
namespace Go.Proofs.Ytbbfnbnjaiimgaa
open Go.RowKit
set_option linter.unusedVariables false

set_option maxRecDepth 100000 in
set_option maxHeartbeats 4000000 in
theorem treapSeeds_walk (w : World) (v0 : Value) (V0 : List Int) (v1 : Value) (V1 : List Int) (v2 : Value) (os : List OpT) (h0 : RI w w.heap.size v0 V0) (h1 : RI w w.heap.size v1 V1) (hs : ScrT w v2 os) :
    Calls Try.prog 4 #[v0, v1, v2] w fun e w' => e = .returned (.bool true) ∧ Below w.heap.size w w' := by
  obtain ⟨A, c, rfl, hc1, hc2, hc3, HC⟩ := hs.rk.open_
  have HS := Lib.hid hs
  have R0 := Lib.hid h0
  have R1 := Lib.hid h1
  clear hs h0 h1
  go_enter Try.func4, Try.ntmps4
  go_wp2_with fail
  refine (tNew w _ V0 R0.out).mono ?_
  rintro e w1 ⟨g1, rfl, h1, t1⟩
  have H1 := Lib.hid h1
  have T1 := Lib.hid t1
  clear h1 t1
  go_wp2_with fail
  refine (tNew w1 _ V1 ((R1.out.below T1.out).more T1.out.size)).mono ?_
  rintro e w2 ⟨g2, rfl, h2, t2⟩
  have H2 : Hid (Two w.heap.size w2 g1 g2 RM.new RM.new) := Lib.hid (Two.made H1.out T1.out.size h2 t2)
  have T2 := Lib.hid (T1.out.trans (t2.mono T1.out.size))
  clear h2 t2
  go_wp2_with fail
  refine (alive_any w2).mono ?_
  rintro e w3 ⟨rfl, t3⟩
  have H3 := Lib.hid (H2.out.below t3)
  have T3 := Lib.hid (T2.out.trans (t3.mono T2.out.size))
  clear t3
  go_wp2_with fail
  go_loopw [39] (fun i wr => ∃ k : Nat, k ≤ os.length ∧ i = .int .i64 k ∧ Hid (Two w.heap.size wr g1 g2 (RM.new.runsT (os.take k)) (RM.new.runsT (os.take k))) ∧ Hid (Below w.heap.size w wr)) (fun i _ => os.length - (intOf i).toNat)
  case atStart => exact ⟨0, Nat.zero_le _, rfl, H3, T3⟩
  case round =>
    obtain ⟨k, hk, rfl, HTW, HT⟩ := hrel
    by_cases hkl : k < os.length
    · obtain ⟨b1, o1, rfl, hb, hx⟩ := HC.out k hkl
      obtain ⟨hx1, hx2, hx3, hx4, hx5⟩ := cellOT hx
      have y1 : wr.cell? ⟨b1, o1 + k * 5, none⟩ = _ := (HT.out.cell (p := ⟨b1, o1 + k * 5, none⟩) hb).trans hx1
      have y2 : wr.cell? ⟨b1, o1 + k * 5 + 1, none⟩ = _ := (HT.out.cell (p := ⟨b1, o1 + k * 5 + 1, none⟩) hb).trans hx2
      have y3 : wr.cell? ⟨b1, o1 + k * 5 + 2, none⟩ = _ := (HT.out.cell (p := ⟨b1, o1 + k * 5 + 2, none⟩) hb).trans hx3
      have y4 : wr.cell? ⟨b1, o1 + k * 5 + 3, none⟩ = _ := (HT.out.cell (p := ⟨b1, o1 + k * 5 + 3, none⟩) hb).trans hx4
      have y5 : wr.cell? ⟨b1, o1 + k * 5 + 4, none⟩ = _ := (HT.out.cell (p := ⟨b1, o1 + k * 5 + 4, none⟩) hb).trans hx5
      have HOP := Lib.hid (HS.out.at_ os[k] (List.getElem_mem hkl))
      have HTK := Lib.hid (List.take_succ_eq_append_getElem hkl)
      clear hx hx1 hx2 hx3 hx4 hx5
      obtain ⟨x, hx⟩ : ∃ x, x = os[k] := ⟨_, rfl⟩
      rw [← hx] at y1 y2 y3 y4 y5 HOP HTK
      clear hx
      obtain ⟨M, hM⟩ : ∃ M, M = (RM.new : RM SV).runsT (os.take k) := ⟨_, rfl⟩
      rw [← hM] at HTW
      have HM := Lib.hid hM
      clear hM
      obtain ⟨kd, a, b, n, m⟩ := x
      dsimp only at y1 y2 y3 y4 y5
      obtain ⟨M', hM'⟩ : ∃ M', M' = M.runT ⟨kd, a, b, n, m⟩ := ⟨_, rfl⟩
      have HM' := Lib.hid hM'
      clear hM'
      obtain ⟨s, hs⟩ : ∃ s, s = M'.allA b := ⟨_, rfl⟩
      have HSV := Lib.hid hs
      clear hs
      obtain ⟨sn, sm⟩ := s
      obtain ⟨p, hp⟩ : ∃ p, p = wr.heap.size := ⟨_, rfl⟩
      obtain ⟨W, hW⟩ : ∃ x, x = wr.alloc (.cells #[.int .i64 kd, .int .i64 a, .int .i64 b, .int .i64 n, .int .u8 m] 34) := ⟨_, rfl⟩
      have hbW : Below wr.heap.size wr W := by rw [hW]; exact (Below.refl _ _).alloc (Nat.le_refl _) _
      have hkW : Blk W p 34 #[.int .i64 kd, .int .i64 a, .int .i64 b, .int .i64 n, .int .u8 m] := by rw [hW, hp]; exact Blk.new _ _ _
      have HPp := Lib.hid hp
      have HWW := Lib.hid hW
      clear hp hW
      have H_1 := Lib.hid (HTW.out.below hbW)
      have T_2 := Lib.hid (HT.out.trans (hbW.mono HT.out.size))
      clear HTW HT
      have K_3 := Lib.hid (hkW)
      clear hbW hkW
      go_upto_region 7 with fail
      rw [← HWW.out, ← HPp.out]
      clear y1 y2 y3 y4 y5
      have z0 := K_3.out.cell 0
      have z1 := K_3.out.cell 1
      have z2 := K_3.out.cell 2
      have z3 := K_3.out.cell 3
      have z4 := K_3.out.cell 4
      go_wp2_with fail
      refine (H_1.out.changes T_2.out.size kd a b n m HOP.out).mono ?_
      rintro e w4 ⟨⟨u4, x4, rfl⟩, h4, t4⟩
      rw [← HM'.out] at h4
      have T_4 := Lib.hid (T_2.out.trans t4.below)
      clear z0
      clear z1
      clear z2
      clear z3
      clear z4
      have K_5 := Lib.hid (t4.blk (by decide) (by decide) K_3.out)
      have z0 := K_5.out.cell 0
      have z1 := K_5.out.cell 1
      have z2 := K_5.out.cell 2
      have z3 := K_5.out.cell 3
      have z4 := K_5.out.cell 4
      clear T_2 K_3
      have H_6 := Lib.hid (h4)
      clear h4 t4
      go_wp2_with fail
      refine (H_6.out.symm.changes T_4.out.size kd a b n m HOP.out).mono ?_
      rintro e w5 ⟨⟨u5, x5, rfl⟩, h5, t5⟩
      rw [← HM'.out] at h5
      clear z0
      clear z1
      clear z2
      clear z3
      clear z4
      have T_7 := Lib.hid (T_4.out.trans t5.below)
      have K_8 := Lib.hid (t5.blk (by decide) (by decide) K_5.out)
      clear T_4 K_5
      have H_9 := Lib.hid (h5.symm)
      clear h5 t5
      have z1 := K_8.out.cell 1
      have z2 := K_8.out.cell 2
      go_wp2_with fail
      refine (bList w.heap.size noQ w5 g1 M' H_9.out.fst.1 a).mono ?_
      rintro e w6 ⟨v6, rfl, hl6, t6⟩
      obtain ⟨A6, c6, hv6, -, -, -, -⟩ := (hl6.rk encI_len (Nat.le_refl _)).open_
      obtain ⟨n6, hn6⟩ : ∃ n6, n6 = ((M'.rowA a).map natI).length := ⟨_, rfl⟩
      rw [← hn6] at hv6
      subst hv6
      have HN6 := Lib.hid hn6
      clear hn6
      have H_10 := Lib.hid (H_9.out.below t6)
      have T_11 := Lib.hid (T_7.out.trans (t6.mono T_7.out.size))
      clear z1
      clear z2
      have K_12 := Lib.hid (K_8.out.below t6 K_8.out.lt)
      have z1 := K_12.out.cell 1
      have z2 := K_12.out.cell 2
      clear H_9 T_7 K_8
      have X_13 := Lib.hid (hl6)
      clear hl6 t6
      go_wp2_with fail
      refine (bList w.heap.size noQ w6 g2 M' H_10.out.snd.1 a).mono ?_
      rintro e w7 ⟨v7, rfl, hl7, t7⟩
      obtain ⟨A7, c7, hv7, -, -, -, -⟩ := (hl7.rk encI_len (Nat.le_refl _)).open_
      rw [← HN6.out] at hv7
      subst hv7
      have H_14 := Lib.hid (H_10.out.below t7)
      have T_15 := Lib.hid (T_11.out.trans (t7.mono T_11.out.size))
      clear z1
      clear z2
      have K_16 := Lib.hid (K_12.out.below t7 K_12.out.lt)
      have z1 := K_16.out.cell 1
      have z2 := K_16.out.cell 2
      have X_17 := Lib.hid (X_13.out.below t7)
      clear H_10 T_11 K_12 X_13
      have Y_18 := Lib.hid (hl7)
      clear hl7 t7
      go_wp2_with fail
      refine (bAll w.heap.size noQ w7 g1 M' H_14.out.fst.1 b).mono ?_
      rw [← HSV.out, show (SV.v ⟨sn, sm⟩ : Value) = .agg #[.int .i64 sn, .int .i64 sm] by rfl]
      rintro e w8 ⟨rfl, t8⟩
      have H_19 := Lib.hid (H_14.out.below t8)
      have T_20 := Lib.hid (T_15.out.trans (t8.mono T_15.out.size))
      clear z1
      clear z2
      have K_21 := Lib.hid (K_16.out.below t8 K_16.out.lt)
      have z1 := K_21.out.cell 1
      have z2 := K_21.out.cell 2
      have X_22 := Lib.hid (X_17.out.below t8)
      have Y_23 := Lib.hid (Y_18.out.below t8)
      clear H_14 T_15 K_16 X_17 Y_18
      clear t8
      go_upto_region 12 with fail
      obtain ⟨p8, hp8⟩ : ∃ p, p = w8.heap.size := ⟨_, rfl⟩
      obtain ⟨W8, hW8⟩ : ∃ x, x = w8.alloc (.cells #[.int .i64 sn, .int .i64 sm] 27) := ⟨_, rfl⟩
      have hbW8 : Below w8.heap.size w8 W8 := by rw [hW8]; exact (Below.refl _ _).alloc (Nat.le_refl _) _
      have hkW8 : Blk W8 p8 27 #[.int .i64 sn, .int .i64 sm] := by rw [hW8, hp8]; exact Blk.new _ _ _
      have HPp8 := Lib.hid hp8
      have HWW8 := Lib.hid hW8
      clear hp8 hW8
      have H_24 := Lib.hid (H_19.out.below hbW8)
      have T_25 := Lib.hid (T_20.out.trans (hbW8.mono T_20.out.size))
      clear z1
      clear z2
      have K_26 := Lib.hid (K_21.out.below hbW8 K_21.out.lt)
      have z1 := K_26.out.cell 1
      have z2 := K_26.out.cell 2
      have X_27 := Lib.hid (X_22.out.below hbW8)
      have Y_28 := Lib.hid (Y_23.out.below hbW8)
      clear H_19 T_20 K_21 X_22 Y_23
      have P_29 := Lib.hid (hkW8)
      clear hbW8 hkW8
      rw [← HWW8.out, ← HPp8.out]
      go_wp2_with fail
      refine (bAll w.heap.size noQ W8 g2 M' H_24.out.snd.1 b).mono ?_
      rw [← HSV.out, show (SV.v ⟨sn, sm⟩ : Value) = .agg #[.int .i64 sn, .int .i64 sm] by rfl]
      rintro e w9 ⟨rfl, t9⟩
      have H_30 := Lib.hid (H_24.out.below t9)
      have T_31 := Lib.hid (T_25.out.trans (t9.mono T_25.out.size))
      clear z1
      clear z2
      have K_32 := Lib.hid (K_26.out.below t9 K_26.out.lt)
      have z1 := K_32.out.cell 1
      have z2 := K_32.out.cell 2
      have X_33 := Lib.hid (X_27.out.below t9)
      have Y_34 := Lib.hid (Y_28.out.below t9)
      have P_35 := Lib.hid (P_29.out.below t9 P_29.out.lt)
      clear H_24 T_25 K_26 X_27 Y_28 P_29
      clear t9
      go_upto_region 13 with fail
      obtain ⟨p9, hp9⟩ : ∃ p, p = w9.heap.size := ⟨_, rfl⟩
      obtain ⟨W9, hW9⟩ : ∃ x, x = w9.alloc (.cells #[.int .i64 sn, .int .i64 sm] 27) := ⟨_, rfl⟩
      have hbW9 : Below w9.heap.size w9 W9 := by rw [hW9]; exact (Below.refl _ _).alloc (Nat.le_refl _) _
      have hkW9 : Blk W9 p9 27 #[.int .i64 sn, .int .i64 sm] := by rw [hW9, hp9]; exact Blk.new _ _ _
      have HPp9 := Lib.hid hp9
      have HWW9 := Lib.hid hW9
      clear hp9 hW9
      have H_36 := Lib.hid (H_30.out.below hbW9)
      have T_37 := Lib.hid (T_31.out.trans (hbW9.mono T_31.out.size))
      clear z1
      clear z2
      have K_38 := Lib.hid (K_32.out.below hbW9 K_32.out.lt)
      have z1 := K_38.out.cell 1
      have z2 := K_38.out.cell 2
      have X_39 := Lib.hid (X_33.out.below hbW9)
      have Y_40 := Lib.hid (Y_34.out.below hbW9)
      have P_41 := Lib.hid (P_35.out.below hbW9 P_35.out.lt)
      clear H_30 T_31 K_32 X_33 Y_34 P_35
      have Q_42 := Lib.hid (hkW9)
      clear hbW9 hkW9
      rw [← HWW9.out, ← HPp9.out]
      go_wp2_with fail
      refine (bSeek w.heap.size noQ W9 g1 M' H_36.out.fst.1 H_36.out.fst.2.fit a).mono ?_
      rintro e w10 ⟨rfl, t10⟩
      have H_43 := Lib.hid (H_36.out.below t10)
      have T_44 := Lib.hid (T_37.out.trans (t10.mono T_37.out.size))
      clear z1
      clear z2
      have K_45 := Lib.hid (K_38.out.below t10 K_38.out.lt)
      have z1 := K_45.out.cell 1
      have z2 := K_45.out.cell 2
      have X_46 := Lib.hid (X_39.out.below t10)
      have Y_47 := Lib.hid (Y_40.out.below t10)
      have P_48 := Lib.hid (P_41.out.below t10 P_41.out.lt)
      have Q_49 := Lib.hid (Q_42.out.below t10 Q_42.out.lt)
      clear H_36 T_37 K_38 X_39 Y_40 P_41 Q_42
      clear t10
      go_wp2_with fail
      refine (bSeek w.heap.size noQ w10 g2 M' H_43.out.snd.1 H_43.out.snd.2.fit a).mono ?_
      rintro e w11 ⟨rfl, t11⟩
      clear z1
      clear z2
      have H_50 := Lib.hid (H_43.out.below t11)
      have T_51 := Lib.hid (T_44.out.trans (t11.mono T_44.out.size))
      have K_52 := Lib.hid (K_45.out.below t11 K_45.out.lt)
      have X_53 := Lib.hid (X_46.out.below t11)
      have Y_54 := Lib.hid (Y_47.out.below t11)
      have P_55 := Lib.hid (P_48.out.below t11 P_48.out.lt)
      have Q_56 := Lib.hid (Q_49.out.below t11 Q_49.out.lt)
      clear H_43 T_44 K_45 X_46 Y_47 P_48 Q_49
      clear t11
      have p0 := P_55.out.cell 0
      have p1 := P_55.out.cell 1
      have q0 := Q_56.out.cell 0
      have q1 := Q_56.out.cell 1
      go_wp2_with fail
      refine (SameInts_yes _ _ ((M'.rowA a).map natI) w11 w11.heap.size w11.heap.size (X_53.out.rk encI_len (Nat.le_refl _)) (Y_54.out.rk encI_len (Nat.le_refl _))).mono ?_
      rintro e w12 ⟨rfl, q, rfl⟩
      have hb12 : Below w11.heap.size w11 (w11.drewN q) := below_drewN (Below.refl _ _) q
      have HE := Lib.hid (H_50.out.below hb12)
      have TE := Lib.hid (T_51.out.trans (hb12.mono T_51.out.size))
      clear hb12
      go_wp2_with fail
      go_roundw
      case rel => exact ⟨k + 1, by omega, by go_num, Lib.hid (by rw [HTK.out, runsT_snoc, ← HM.out, ← HM'.out]; exact HE.out), TE⟩
      case measure => simp [intOf]; omega
    · go_wp2_with fail
      go_ret
      exact ⟨rfl, HT.out⟩

end Go.Proofs.Ytbbfnbnjaiimgaa
