/-
  The walk of TreapPlays.
-/
import Derived.Test.YtbbfnbnjaiimgaaZRQ9
import Derived.Test.YtbbfnbnjaiimgaaRP27
import Derived.Test.YtbbfnbnjaiimgaaRP38
namespace Go.Proofs.Ytbbfnbnjaiimgaa
open Go.RowKit
set_option linter.unusedVariables false

theorem doc_new (w : World) (B : Nat) : DocAt w B (.agg #[.slice none 0 0, .slice none 0 0, .slice none 0 0]) (RM.new : RM SV) := ⟨none, 0, 0, none, 0, 0, none, 0, 0, [], rfl, ⟨OK.nil _ _, RowsOf.nil _ _, OK.nil _ _, OK.nil _ _⟩⟩

theorem blk3 {w : World} {p : Nat} {t : TypeId} {a b c : Value} (h : Blk w p t #[a, b, c]) (x y z : Value) : Blk (((w.setCell ⟨p, 0, none⟩ x).setCell ⟨p, 1, none⟩ y).setCell ⟨p, 2, none⟩ z) p t #[x, y, z] := by
  have := ((h.set_ 0 x).set_ 1 y).set_ 2 z
  simpa using this

theorem blk_far3 {w : World} {p q : Nat} {t : TypeId} {cs : Array Value} (h : Blk w q t cs) (hne : q ≠ p) (x y z : Value) : Blk (((w.setCell ⟨p, 0, none⟩ x).setCell ⟨p, 1, none⟩ y).setCell ⟨p, 2, none⟩ z) q t cs :=
  ((h.far (p := ⟨p, 0, none⟩) hne x).far (p := ⟨p, 1, none⟩) hne y).far (p := ⟨p, 2, none⟩) hne z

set_option maxRecDepth 100000 in
set_option maxHeartbeats 8000000 in
theorem treapPlays_walk (w : World) (v0 : Value) (V0 : List Int) (v1 : Value) (os : List OpT) (h0 : RI w w.heap.size v0 V0) (hs : ScrT w v1 os) :
    Calls Try.prog 3 #[v0, v1] w fun e w' => e = .returned (.bool true) ∧ Below w.heap.size w w' := by
  obtain ⟨A, c, rfl, hc1, hc2, hc3, hC⟩ := hs.rk.open_
  have HC := hC
  have HS := Lib.hid hs
  have R0 := Lib.hid h0
  clear hs h0 hC
  go_enter Try.func3, Try.ntmps3
  go_wp2_with fail
  refine (tNew w _ V0 R0.out).mono ?_
  rintro e w1 ⟨g, rfl, h1, t1⟩
  have H1 := Lib.hid h1
  have T1 := Lib.hid t1
  clear h1 t1
  go_wp2_with fail
  refine (alive_any w1).mono ?_
  rintro e w3 ⟨rfl, t3⟩
  have H3 := Lib.hid (H1.out.below t3)
  have T3 := Lib.hid (T1.out.trans (t3.mono T1.out.size))
  clear t3
  go_upto_region 5 with fail
  obtain ⟨p6, hp6⟩ : ∃ p, p = w3.heap.size := ⟨_, rfl⟩
  obtain ⟨W3, hW3⟩ : ∃ x, x = w3.alloc (.cells #[.slice none 0 0, .slice none 0 0, .slice none 0 0] 32) := ⟨_, rfl⟩
  have hb3 : Below w3.heap.size w3 W3 := by rw [hW3]; exact (Below.refl _ _).alloc (Nat.le_refl _) _
  have HB3 : Hid (Blk W3 p6 32 #[.slice none 0 0, .slice none 0 0, .slice none 0 0]) := Lib.hid (by rw [hW3, hp6]; exact Blk.new _ _ _)
  have GE6 : Hid (w.heap.size ≤ p6) := Lib.hid (by rw [hp6]; exact T3.out.size)
  have HP6 := Lib.hid hp6
  have HW3 := Lib.hid hW3
  have HQ4 : Hid (Both w.heap.size W3 g (.agg #[.slice none 0 0, .slice none 0 0, .slice none 0 0]) (RM.new : RM SV) ∧ (RM.new : RM SV).Tame) := Lib.hid ⟨⟨(H3.out.below hb3).1, doc_new _ _⟩, tame_new⟩
  have T4 := Lib.hid (T3.out.trans (hb3.mono T3.out.size))
  clear hb3 hp6 hW3 H3 T3
  rw [← HW3.out, ← HP6.out]
  go_wp2_with fail
  go_loopw [24] (fun i wr => ∃ (k : Nat) (rA : Option Addr) (rn rc : Nat) (nA : Option Addr) (nn nc : Nat) (mA : Option Addr) (mn mc : Nat), k ≤ os.length ∧ i = .int .i64 k ∧ Hid (Both w.heap.size wr g (.agg #[.slice rA rn rc, .slice nA nn nc, .slice mA mn mc]) ((RM.new : RM SV).runsT (os.take k)) ∧ ((RM.new : RM SV).runsT (os.take k)).Tame) ∧ Hid (Below w.heap.size w wr) ∧ Hid (Blk wr p6 32 #[.slice rA rn rc, .slice nA nn nc, .slice mA mn mc])) (fun i _ => os.length - (intOf i).toNat)
  case atStart => exact ⟨0, none, 0, 0, none, 0, 0, none, 0, 0, Nat.zero_le _, rfl, HQ4, T4, HB3⟩
  case round =>
    obtain ⟨k, rA, rn, rc, nA, nn, nc, mA, mn, mc, hk, rfl, HTW, HT, HP⟩ := hrel
    by_cases hkl : k < os.length
    · obtain ⟨b1, o1, rfl, hb, hx⟩ := HC.out k hkl
      obtain ⟨hx1, hx2, hx3, hx4, hx5⟩ := cellOT hx
      have y1 : wr.cell? ⟨b1, o1 + k * 5, none⟩ = _ := (HT.out.cell (p := ⟨b1, o1 + k * 5, none⟩) hb).trans hx1
      have y2 : wr.cell? ⟨b1, o1 + k * 5 + 1, none⟩ = _ := (HT.out.cell (p := ⟨b1, o1 + k * 5 + 1, none⟩) hb).trans hx2
      have y3 : wr.cell? ⟨b1, o1 + k * 5 + 2, none⟩ = _ := (HT.out.cell (p := ⟨b1, o1 + k * 5 + 2, none⟩) hb).trans hx3
      have y4 : wr.cell? ⟨b1, o1 + k * 5 + 3, none⟩ = _ := (HT.out.cell (p := ⟨b1, o1 + k * 5 + 3, none⟩) hb).trans hx4
      have y5 : wr.cell? ⟨b1, o1 + k * 5 + 4, none⟩ = _ := (HT.out.cell (p := ⟨b1, o1 + k * 5 + 4, none⟩) hb).trans hx5
      have HOP := Lib.hid (HS.out.at_ os[k] (List.getElem_mem hkl))
      have HTK := Lib.hid (List.take_succ_eq_append_getElem hkl)
      clear hx hx1 hx2 hx3 hx4 hx5
      obtain ⟨x, hx⟩ : ∃ x, x = os[k] := ⟨_, rfl⟩
      rw [← hx] at y1 y2 y3 y4 y5 HOP HTK
      clear hx
      obtain ⟨M, hM⟩ : ∃ M, M = (RM.new : RM SV).runsT (os.take k) := ⟨_, rfl⟩
      rw [← hM] at HTW
      have HM := Lib.hid hM
      clear hM
      obtain ⟨kd, a, b, n, m⟩ := x
      dsimp only at y1 y2 y3 y4 y5
      have HTM := Lib.hid HTW.out.2
      have HBO := Lib.hid HTW.out.1
      clear HTW
      have HNE : Hid (p6 ≠ wr.heap.size) := Lib.hid (Nat.ne_of_lt HP.out.lt)
      obtain ⟨p, hp⟩ : ∃ p, p = wr.heap.size := ⟨_, rfl⟩
      obtain ⟨W, hW⟩ : ∃ x, x = wr.alloc (.cells #[.int .i64 kd, .int .i64 a, .int .i64 b, .int .i64 n, .int .u8 m] 34) := ⟨_, rfl⟩
      have hbW : Below wr.heap.size wr W := by rw [hW]; exact (Below.refl _ _).alloc (Nat.le_refl _) _
      have hkW : Blk W p 34 #[.int .i64 kd, .int .i64 a, .int .i64 b, .int .i64 n, .int .u8 m] := by rw [hW, hp]; exact Blk.new _ _ _
      have HPp := Lib.hid hp
      have HWW := Lib.hid hW
      clear hp hW
      have H_1 := Lib.hid (HBO.out.below hbW)
      have T_2 := Lib.hid (HT.out.trans (hbW.mono HT.out.size))
      have P_3 := Lib.hid (HP.out.below hbW HP.out.lt)
      clear HBO HT HP
      have K_4 := Lib.hid (hkW)
      clear hbW hkW
      rw [← HPp.out] at HNE
      go_upto_region 8 with fail
      rw [← HWW.out, ← HPp.out]
      clear y1 y2 y3 y4 y5
      have z0 := K_4.out.cell 0
      have z1 := K_4.out.cell 1
      have z2 := K_4.out.cell 2
      have z3 := K_4.out.cell 3
      have z4 := K_4.out.cell 4
      have c0 := P_3.out.cell 0
      have c1 := P_3.out.cell 1
      have c2 := P_3.out.cell 2
      go_wp2_with fail
      refine (docChanges w.heap.size W g _ M H_1.out T_2.out.size kd a b n m HOP.out.m0 HOP.out.m1).mono ?_
      rintro e w4 ⟨v', rfl, h4, t4⟩
      obtain ⟨M', hM'⟩ : ∃ M', M' = M.stepA kd a b n m := ⟨_, rfl⟩
      have HTM' : Hid M'.Tame := Lib.hid (by rw [hM']; exact tame_step (o := ⟨kd, a, b, n, m⟩) HTM.out HOP.out)
      rw [← hM'] at h4
      have HM' := Lib.hid hM'
      clear hM' 
      have T_5 := Lib.hid (T_2.out.trans t4.below)
      clear c0
      clear c1
      clear c2
      have P_6 := Lib.hid (t4.blk (by decide) (by decide) P_3.out)
      have c0 := P_6.out.cell 0
      have c1 := P_6.out.cell 1
      have c2 := P_6.out.cell 2
      clear z0
      clear z1
      clear z2
      clear z3
      clear z4
      have K_7 := Lib.hid (t4.blk (by decide) (by decide) K_4.out)
      have z0 := K_7.out.cell 0
      have z1 := K_7.out.cell 1
      have z2 := K_7.out.cell 2
      have z3 := K_7.out.cell 3
      have z4 := K_7.out.cell 4
      clear T_2 P_3 K_4
      have H_8 := Lib.hid (h4)
      clear h4 t4
      obtain ⟨rA', rn', rc', nA', nn', nc', mA', mn', mc', xs', rfl, hx6⟩ := H_8.out.doc
      clear hx6
      clear z0
      clear z1
      clear z2
      clear z3
      clear z4
      clear c0
      clear c1
      clear c2
      go_upto_region 9 with fail
      obtain ⟨p9, hp9⟩ : ∃ p, p = w4.heap.size := ⟨_, rfl⟩
      obtain ⟨W5, hW5⟩ : ∃ x, x = w4.alloc (.cells #[.slice rA' rn' rc', .slice nA' nn' nc', .slice mA' mn' mc'] 32) := ⟨_, rfl⟩
      have hbW5 : Below w4.heap.size w4 W5 := by rw [hW5]; exact (Below.refl _ _).alloc (Nat.le_refl _) _
      have hkW5 : Blk W5 p9 32 #[.slice rA' rn' rc', .slice nA' nn' nc', .slice mA' mn' mc'] := by rw [hW5, hp9]; exact Blk.new _ _ _
      have HPp9 := Lib.hid hp9
      have HWW5 := Lib.hid hW5
      clear hp9 hW5
      have H_9 := Lib.hid (H_8.out.below hbW5)
      have T_10 := Lib.hid (T_5.out.trans (hbW5.mono T_5.out.size))
      have P_11 := Lib.hid (P_6.out.below hbW5 P_6.out.lt)
      have K_12 := Lib.hid (K_7.out.below hbW5 K_7.out.lt)
      clear H_8 T_5 P_6 K_7
      have N_13 := Lib.hid (hkW5)
      clear hbW5 hkW5
      rw [← HWW5.out, ← HPp9.out]
      have e0 := N_13.out.cell 0
      have e1 := N_13.out.cell 1
      have e2 := N_13.out.cell 2
      have s0 := P_11.out.cell 0
      have s1 := P_11.out.cell 1
      have s2 := P_11.out.cell 2
      have f0 := P_11.out.frozen 0
      have f1 := P_11.out.frozen 1
      have f2 := P_11.out.frozen 2
      go_upto_region 10 with fail
      obtain ⟨W6, hW6⟩ : ∃ x, x = ((W5.setCell ⟨p6, 0, none⟩ (.slice rA' rn' rc')).setCell ⟨p6, 1, none⟩ (.slice nA' nn' nc')).setCell ⟨p6, 2, none⟩ (.slice mA' mn' mc') := ⟨_, rfl⟩
      have hf := fin4 H_9.out P_11.out (TameR.of_below (B := w.heap.size) (Q := noQ) T_10.out (Nat.le_refl _)) (Nat.le_refl _) GE6.out (.slice rA' rn' rc') (.slice nA' nn' nc') (.slice mA' mn' mc')
      rw [← hW6] at hf
      have H6 := Lib.hid hf.1
      have T6 := Lib.hid hf.2.below
      have P6 : Hid (Blk W6 p6 32 #[.slice rA' rn' rc', .slice nA' nn' nc', .slice mA' mn' mc']) := Lib.hid (by rw [hW6]; exact blk3 P_11.out _ _ _)
      have K6 : Hid (Blk W6 p 34 #[.int .i64 kd, .int .i64 a, .int .i64 b, .int .i64 n, .int .u8 m]) := Lib.hid (by rw [hW6]; exact blk_far3 K_12.out HNE.out.symm _ _ _)
      have HW6 := Lib.hid hW6
      clear hf hW6 e0 e1 e2 s0 s1 s2 f0 f1 f2
      rw [← HW6.out]
      clear H_9 T_10 K_12 P_11 N_13
      have z0 := K6.out.cell 0
      have z1 := K6.out.cell 1
      have z2 := K6.out.cell 2
      have z3 := K6.out.cell 3
      have z4 := K6.out.cell 4
      have c0 := P6.out.cell 0
      have c1 := P6.out.cell 1
      have c2 := P6.out.cell 2
      go_wp2_with fail
      refine (docTells w.heap.size W6 g _ M' H6.out HTM'.out kd a b n m).mono ?_
      rintro e w7 ⟨rfl, t7⟩
      clear z0
      clear z1
      clear z2
      clear z3
      clear z4
      clear c0
      clear c1
      clear c2
      have H_14 := Lib.hid (H6.out.below t7)
      have T_15 := Lib.hid (T6.out.trans (t7.mono T6.out.size))
      have K_16 := Lib.hid (K6.out.below t7 K6.out.lt)
      have P_17 := Lib.hid (P6.out.below t7 P6.out.lt)
      clear H6 T6 K6 P6
      clear t7
      go_wp2_with fail
      go_roundw
      case rel => exact ⟨k + 1, rA', rn', rc', nA', nn', nc', mA', mn', mc', by omega, by go_num, Lib.hid (by rw [HTK.out, runsT_snoc, ← HM.out, show M.runT ⟨kd, a, b, n, m⟩ = M' from HM'.out.symm]; exact ⟨H_14.out, HTM'.out⟩), T_15, P_17⟩
      case measure => simp [intOf]; omega
    · obtain rfl : k = os.length := by omega
      rw [List.take_length] at HTW
      obtain ⟨M, hM⟩ : ∃ M, M = (RM.new : RM SV).runsT os := ⟨_, rfl⟩
      rw [← hM] at HTW
      have HTM := Lib.hid HTW.out.2
      have HBO := Lib.hid HTW.out.1
      have HM := Lib.hid hM
      have hnn : nn ≤ 65536 := by
        obtain ⟨rA', rn', rc', nA', nn', nc', mA', mn', mc', xs', e9, hx9⟩ := HBO.out.doc
        injection e9 with e9
        injection e9 with e9
        injection e9 with f1 f2
        injection f2 with f2 f3
        injection f2 with f8 f9 g0
        subst f9
        rw [hx9.lens.2.1]
        exact HBO.out.rope.few
      clear hM HTW
      have c0 := HP.out.cell 0
      have c1 := HP.out.cell 1
      have c2 := HP.out.cell 2
      go_wp2_with fail
      clear c0 c1 c2
      go_loopw [49] (fun i wx => ∃ q : Nat, q ≤ nn ∧ i = .int .i64 q ∧ Hid (Both w.heap.size wx g (.agg #[.slice rA rn rc, .slice nA nn nc, .slice mA mn mc]) M) ∧ Hid (Below w.heap.size w wx) ∧ Hid (Blk wx p6 32 #[.slice rA rn rc, .slice nA nn nc, .slice mA mn mc])) (fun i _ => nn - (intOf i).toNat)
      case atStart => exact ⟨0, Nat.zero_le _, rfl, HBO, HT, HP⟩
      case round =>
        obtain ⟨q, hq, rfl, HB7, HT7, HP7⟩ := hrel
        by_cases hqn : q < nn
        · go_wp2_with fail
          go_loopw [12] (fun i wy => ∃ z : Nat, 5 ≤ z ∧ z ≤ 12 ∧ i = .int .i64 z ∧ Hid (Both w.heap.size wy g (.agg #[.slice rA rn rc, .slice nA nn nc, .slice mA mn mc]) M) ∧ Hid (Below w.heap.size w wy) ∧ Hid (Blk wy p6 32 #[.slice rA rn rc, .slice nA nn nc, .slice mA mn mc])) (fun i _ => 12 - (intOf i).toNat)
          case atStart => exact ⟨5, by omega, by omega, rfl, HB7, HT7, HP7⟩
          case round =>
            obtain ⟨z, hz5, hz12, rfl, HB8, HT8, HP8⟩ := hrel
            by_cases hzl : z ≤ 11
            · have c0 := HP8.out.cell 0
              have c1 := HP8.out.cell 1
              have c2 := HP8.out.cell 2
              have hz11 : (z : Int) ≤ 11 := by omega
              go_wp2_with fail
              refine (docTells w.heap.size _ g _ M HB8.out HTM.out _ _ _ _ _).mono ?_
              rintro e w9 ⟨rfl, t9⟩
              have HB9 := Lib.hid (HB8.out.below t9)
              have HT9 := Lib.hid (HT8.out.trans (t9.mono HT8.out.size))
              have HP9 := Lib.hid (HP8.out.below t9 HP8.out.lt)
              clear t9 c0 c1 c2
              go_wp2_with fail
              go_roundw
              case rel => exact ⟨z + 1, by omega, by omega, by go_num, HB9, HT9, HP9⟩
              case measure => simp [intOf]; omega
            · obtain rfl : z = 12 := by omega
              go_wp2_with fail
              go_roundw
              case rel => exact ⟨q + 1, by omega, by go_num, HB8, HT8, HP8⟩
              case measure => simp [intOf]; omega
        · obtain rfl : q = nn := by omega
          go_wp2_with fail
          go_ret
          exact ⟨rfl, HT7.out⟩

end Go.Proofs.Ytbbfnbnjaiimgaa
