/-
  The walk of LinkcutOrder.
-/
import Derived.Test.YtlhkajlkapoabaaZLN10b
namespace Go.Proofs.Ytlhkajlkapoabaa
open Go.RowKit Go.Maps
set_option linter.unusedVariables false

attribute [local go_sem] run_storeCz

set_option maxRecDepth 100000 in
set_option maxHeartbeats 4000000 in
theorem filled_all (w : World) (v1 : Value) (os : List OpL) (hs : ScrL w v1 os) :
    Calls Try.prog 15 #[v1] w fun e w' => ∃ f, e = .returned (.pointer (some ⟨f, 0, none⟩)) ∧ LB w.heap.size noQ w' f (LF.none0.runsL os) ∧ Below w.heap.size w w' ∧ ∀ j, (LF.none0.runsL (os.take j)).Ok := by
  obtain ⟨A, c, rfl, hc1, hc2, hc3, HC⟩ := hs.rk.open_
  obtain ⟨n, hn⟩ : ∃ n, n = os.length := ⟨_, rfl⟩
  rw [← hn] at hc1 hc3 ⊢
  have HS := Lib.hid hs.at_
  have HN := Lib.hid hn
  clear hs hn
  go_enter Try.func15, Try.ntmps15
  go_wp2_with fail
  refine (bNew w noQ noQ_lt).mono ?_
  rintro e w1 ⟨f, rfl, h1, b1⟩
  have H1 : Hid (LB w.heap.size noQ w1 f LF.none0) := Lib.hid h1
  have B1 := Lib.hid b1
  clear h1 b1
  go_wp2_with fail
  go_loopw [4] (fun i wr => ∃ k : Nat, k ≤ n ∧ i = .int .i64 k ∧ Hid (LB w.heap.size noQ wr f (LF.none0.runsL (os.take k))) ∧ Hid (Below w.heap.size w wr) ∧ Hid (∀ j, j ≤ k → (LF.none0.runsL (os.take j)).Ok)) (fun i _ => n - (intOf i).toNat)
  case atStart => exact ⟨0, Nat.zero_le _, rfl, H1, B1, Lib.hid fun j hj => by rw [Nat.le_zero.1 hj]; exact H1.out.ok⟩
  case round =>
    obtain ⟨k, hk, rfl, HF, HT, HJ⟩ := hrel
    by_cases hkl : k < n
    · have hko : k < os.length := by have := HN.out; omega
      obtain ⟨b1, o1, rfl, hb, hx⟩ := HC.out k hko
      obtain ⟨hx1, hx2, hx3, hx4, hx5⟩ := cellOp hx
      have y1 := (HT.out.cell (p := ⟨b1, o1 + k * 5, none⟩) hb).trans hx1
      have y2 := (HT.out.cell (p := ⟨b1, o1 + k * 5 + 1, none⟩) hb).trans hx2
      have y3 := (HT.out.cell (p := ⟨b1, o1 + k * 5 + 2, none⟩) hb).trans hx3
      have y4 := (HT.out.cell (p := ⟨b1, o1 + k * 5 + 3, none⟩) hb).trans hx4
      have y5 := (HT.out.cell (p := ⟨b1, o1 + k * 5 + 4, none⟩) hb).trans hx5
      have HOP := Lib.hid (HS.out os[k] (List.getElem_mem hko))
      have HTK := Lib.hid (List.take_succ_eq_append_getElem hko)
      clear hx hx1 hx2 hx3 hx4 hx5
      obtain ⟨x, hx⟩ : ∃ x, x = os[k] := ⟨_, rfl⟩
      rw [← hx] at y1 y2 y3 y4 y5 HOP HTK
      clear hx
      obtain ⟨kd, id, u, v, wt⟩ := x
      dsimp only at y1 y2 y3 y4 y5
      have hkn : (k : Int) < (n : Int) := by omega
      have hkd : decide ((k : Int) < (n : Int)) = true := by simpa using hkl
      go_wp2_with fail
      refine (does0 w.heap.size noQ wr f _ HF.out HT.out.size kd id u v wt HOP.out).mono ?_
      rintro e w4 ⟨⟨u4, x4, rfl⟩, h4, t4⟩
      have H4 : Hid (LB w.heap.size noQ w4 f (LF.none0.runsL (os.take (k + 1)))) := Lib.hid (by rw [HTK.out, runsL_snoc]; exact h4)
      have T4 := Lib.hid (HT.out.trans t4.below)
      clear h4 t4 y1 y2 y3 y4 y5
      go_wp2_with fail
      go_roundw
      case rel => exact ⟨k + 1, by omega, by go_num, H4, T4, Lib.hid fun j hj => by
        by_cases hjk : j ≤ k
        · exact HJ.out j hjk
        · obtain rfl : j = k + 1 := by omega
          exact H4.out.ok⟩
      case measure => simp [intOf]; omega
    · obtain rfl : k = n := by omega
      have hkd : decide ((k : Int) < (k : Int)) = false := by simp
      have HF2 : Hid (LB w.heap.size noQ wr f (LF.none0.runsL os)) := Lib.hid (by
        have := HF.out
        rw [List.take_of_length_le (by have := HN.out; omega)] at this
        exact this)
      go_wp2_with fail
      go_ret
      refine ⟨_, rfl, HF2.out, HT.out, fun j => ?_⟩
      by_cases hj : j ≤ k
      · exact HJ.out j hj
      · rw [List.take_of_length_le (by have := HN.out; omega)]
        exact HF2.out.ok


theorem stepL_1 (d : DF) (id u v wt : Int) : d.stepL ⟨1, id, u, v, wt⟩ = d.addA u := by unfold DF.stepL; simp

theorem stepL_2 (d : DF) (id u v wt : Int) : d.stepL ⟨2, id, u, v, wt⟩ = d.delA u := by unfold DF.stepL; simp

theorem stepL_3 (d : DF) (id u v wt : Int) : d.stepL ⟨3, id, u, v, wt⟩ = d.linkWA id u v wt := by unfold DF.stepL; simp

theorem stepL_4 (d : DF) (id u v wt : Int) : d.stepL ⟨4, id, u, v, wt⟩ = d.cutA id := by unfold DF.stepL; simp

theorem stepL_0 (d : DF) {kd id u v wt : Int} (h1 : kd ≠ 1) (h2 : kd ≠ 2) (h3 : kd ≠ 3) (h4 : kd ≠ 4) : d.stepL ⟨kd, id, u, v, wt⟩ = d := by unfold DF.stepL; simp [h1, h2, h3, h4]

set_option maxRecDepth 100000 in
set_option maxHeartbeats 8000000 in
theorem linkcutOrder_walk (w : World) (sv : Value) (os : List OpL) (u v : Int) (hs : ScrL w sv os) (hu : I64 u) (hv : I64 v) :
    Calls Try.prog 6 #[sv, .int .i64 u, .int .i64 v] w fun e w' => e = .returned (.bool true) ∧ Below w.heap.size w w' := by
  have hf := filled_all w sv os hs
  obtain ⟨A, c, rfl, hc1, hc2, hc3, HC⟩ := hs.rk.open_
  obtain ⟨n, hn⟩ : ∃ n, n = os.length := ⟨_, rfl⟩
  rw [← hn] at hc1 hc3 hf ⊢
  have HN := Lib.hid hn
  have HA := Lib.hid hs.at_
  have HFL := Lib.hid hf
  have HU := Lib.hid hu
  have HV := Lib.hid hv
  clear hs hn hf hu hv
  go_enter Try.func6, Try.ntmps6
  go_wp2_with fail
  refine HFL.out.mono ?_
  rintro e w1 ⟨f, rfl, h1, b1, oks⟩
  obtain ⟨Sf, f1, f2, -⟩ := h1.split
  have OKS := Lib.hid oks
  have FQ := Lib.hid f1
  have F2 := Lib.hid f2
  have B1 := Lib.hid b1
  have HFO := Lib.hid h1.ok
  clear f1 f2 b1 oks h1
  obtain ⟨F, hF⟩ : ∃ F, F = LF.none0.runsL os := ⟨_, rfl⟩
  rw [← hF] at FQ HFO
  have HFE := Lib.hid hF
  clear hF
  go_wp2_with fail
  refine (bNew w1 Sf (fun k hk => FQ.out.lt hk)).mono ?_
  rintro e w2 ⟨g, rfl, g1, b2⟩
  have G2 : Hid (LB w.heap.size Sf w2 g LF.none0) := Lib.hid (g1.weak B1.out.size fun _ h => h)
  have FR2 := Lib.hid (FQ.out.below b2)
  have B2 := Lib.hid (B1.out.trans (b2.mono B1.out.size))
  clear g1 b2
  go_wp2_with fail
  refine (alive_any w2).mono ?_
  rintro e w3 ⟨rfl, b3⟩
  obtain ⟨W3, hW3⟩ : ∃ W3, W3 = w3.alloc (.cells #[.slice none 0 0, .slice none 0 0, .slice none 0 0, .slice none 0 0] 31) := ⟨_, rfl⟩
  obtain ⟨p, hp⟩ : ∃ p, p = w3.heap.size := ⟨_, rfl⟩
  have hb3 : Below w2.heap.size w2 W3 := by rw [hW3]; exact b3.alloc b3.size _
  have hlo : w.heap.size ≤ p := by rw [hp]; exact Nat.le_trans B2.out.size b3.size
  have hord : Ord w W3 f F g LF.none0 p ⟨[], [], [], []⟩ (.slice none 0 0) (.slice none 0 0) (.slice none 0 0) (.slice none 0 0) :=
    ⟨Sf, Sf, G2.out.below hb3, FR2.out.below hb3, fun k hk => hk, fun k hk => (F2.out k hk).1, B2.out.trans (hb3.mono B2.out.size), ⟨RK.nil _ _, RK.nil _ _, RK.nil _ _, RK.nil _ _⟩, fun h => absurd rfl h, fun h => absurd rfl h, fun h => absurd rfl h, fun h => absurd rfl h, by rw [hW3, hp]; exact Blk.new _ _ _, hlo, fun h => absurd rfl h, fun h => absurd rfl h, fun h => absurd rfl h, fun h => absurd rfl h⟩
  have HW3 := Lib.hid hW3
  have HP := Lib.hid hp
  have OR := Lib.hid hord
  clear hW3 hp hb3 hlo hord b3
  go_upto_region 6 with fail
  rw [← HW3.out]
  try simp only [← HP.out]
  clear HW3 HP HFL FQ F2 G2 FR2 B1 B2
  go_wp2_with fail
  go_loopw [41] (fun i wr => ∃ (k : Nat) (d : DF) (X0 : Option Addr) (n0 m0 : Nat) (X1 : Option Addr) (n1 m1 : Nat) (X2 : Option Addr) (n2 m2 : Nat) (X3 : Option Addr) (n3 m3 : Nat), k ≤ n ∧ i = .int .i64 k ∧ Hid (Ord w wr f F g LF.none0 p d (.slice X0 n0 m0) (.slice X1 n1 m1) (.slice X2 n2 m2) (.slice X3 n3 m3)) ∧ Hid (BesL (LF.none0.runsL (os.take k)) d)) (fun i _ => n - (intOf i).toNat)
  case atStart => exact ⟨0, _, _, _, _, _, _, _, _, _, _, _, _, _, Nat.zero_le _, rfl, OR, Lib.hid besL_new⟩
  case round =>
    clear OR
    obtain ⟨k, d, X0, n0, m0, X1, n1, m1, X2, n2, m2, X3, n3, m3, hk, rfl, OR, SH⟩ := hrel
    by_cases hkl : k < n
    · have hko : k < os.length := by have := HN.out; omega
      have LRW := Lib.hid OR.out.low
      obtain ⟨b1, o1, rfl, hb, hx⟩ := HC.out k hko
      obtain ⟨hx1, hx2, hx3, hx4, hx5⟩ := cellOp hx
      have y1 := (LRW.out.cell (p := ⟨b1, o1 + k * 5, none⟩) hb).trans hx1
      have y2 := (LRW.out.cell (p := ⟨b1, o1 + k * 5 + 1, none⟩) hb).trans hx2
      have y3 := (LRW.out.cell (p := ⟨b1, o1 + k * 5 + 2, none⟩) hb).trans hx3
      have y4 := (LRW.out.cell (p := ⟨b1, o1 + k * 5 + 3, none⟩) hb).trans hx4
      have y5 := (LRW.out.cell (p := ⟨b1, o1 + k * 5 + 4, none⟩) hb).trans hx5
      have HTK := Lib.hid (List.take_succ_eq_append_getElem hko)
      clear hx hx1 hx2 hx3 hx4 hx5
      obtain ⟨x, hx⟩ : ∃ x, x = os[k] := ⟨_, rfl⟩
      rw [← hx] at y1 y2 y3 y4 y5 HTK
      clear hx
      obtain ⟨kd, id, eu, ev, wt⟩ := x
      dsimp only at y1 y2 y3 y4 y5
      have hkn : (k : Int) < (n : Int) := by omega
      have hkd : decide ((k : Int) < (n : Int)) = true := by simpa using hkl
      have SN : Hid (BesL (LF.none0.runsL (os.take (k + 1))) (d.stepL ⟨kd, id, eu, ev, wt⟩)) := Lib.hid (by rw [HTK.out, runsL_snoc]; exact SH.out.step (OKS.out k) _)
      have FT := Lib.hid (SH.out.fit (OKS.out k))
      obtain ⟨W1, hW1⟩ : ∃ W1, W1 = wr.alloc (.cells #[.int .i64 kd, .int .i64 id, .int .i64 eu, .int .i64 ev, .int .i64 wt] 35) := ⟨_, rfl⟩
      obtain ⟨q, hq⟩ : ∃ q, q = wr.heap.size := ⟨_, rfl⟩
      have hbw : Below wr.heap.size wr W1 := by rw [hW1]; exact (Below.refl _ _).alloc (Nat.le_refl _) _
      have O1 : Hid (Blk W1 q 35 #[.int .i64 kd, .int .i64 id, .int .i64 eu, .int .i64 ev, .int .i64 wt]) := Lib.hid (by rw [hW1, hq]; exact Blk.new _ _ _)
      have HW1 := Lib.hid hW1
      have HQ := Lib.hid hq
      obtain ⟨c0, c1, c2, c3⟩ := (OR.out.below hbw).four
      obtain ⟨W2, hW2⟩ : ∃ W2, W2 = W1.alloc (.cells #[.slice X0 n0 m0, .slice X1 n1 m1, .slice X2 n2 m2, .slice X3 n3 m3] 31) := ⟨_, rfl⟩
      obtain ⟨q2, hq2⟩ : ∃ q2, q2 = W1.heap.size := ⟨_, rfl⟩
      have hbw2 : Below W1.heap.size W1 W2 := by rw [hW2]; exact (Below.refl _ _).alloc (Nat.le_refl _) _
      have N2 : Hid (Blk W2 q2 31 #[.slice X0 n0 m0, .slice X1 n1 m1, .slice X2 n2 m2, .slice X3 n3 m3]) := Lib.hid (by rw [hW2, hq2]; exact Blk.new _ _ _)
      have O2 := Lib.hid (O1.out.below hbw2 O1.out.lt)
      have hbr : Below wr.heap.size wr W2 := hbw.trans (hbw2.mono hbw.size)
      have BR := Lib.hid hbr
      have P2 := Lib.hid (OR.out.below hbr)
      have HQ2 : Hid (wr.heap.size ≤ q2 ∧ q2 < W2.heap.size ∧ p < wr.heap.size) := Lib.hid ⟨by rw [hq2]; exact hbw.size, N2.out.lt, OR.out.box.lt⟩
      have HW2 := Lib.hid hW2
      have HQE := Lib.hid hq2
      clear hW1 hq hbw hW2 hq2 hbw2 hbr
      go_upto_region 9 with fail
      rw [← HW1.out]
      try simp only [← HQ.out]
      go_upto_region 10 with fail
      rw [← HW2.out]
      try simp only [← HQE.out]
      clear y1 y2 y3 y4 y5 hb HTK SH c0 c1 c2 c3
      have HKN := Lib.hid hkl
      clear hko hkn hkd hkl
      obtain ⟨c0, c1, c2, c3⟩ := P2.out.four
      have s0 := O2.out.cell 0
      have s1 := O2.out.cell 1
      have s2 := O2.out.cell 2
      have s3 := O2.out.cell 3
      have s4 := O2.out.cell 4
      by_cases hk1 : kd = 1
      · subst hk1
        rw [stepL_1] at SN
        go_wp2_with fail
        refine (refAddV_any W2 _ _ _ _ d eu P2.out.doc FT.out.1).mono ?_
        generalize d.addE eu = ez
        rintro r w4 ⟨a', b', c', e', rfl, t2, b2, u1, u2, u3, u4⟩
        obtain ⟨Y0, i0, j0, Y1, i1, j1, Y2, i2, j2, Y3, i3, j3, rfl, rfl, rfl, rfl⟩ := t2.sl4
        have DB := Lib.hid (OR.out.docBox (r := .returned (.bool true)) (n := 0) BR.out HQ2.out.1 HQ2.out.2.1 t2 b2 u1 u2 u3 u4)
        have N4 := N2.out.below b2 N2.out.lt
        have x0 := N4.cell 0
        have x1 := N4.cell 1
        have x2 := N4.cell 2
        have x3 := N4.cell 3
        have l0 := N4.frozen 0
        have l1 := N4.frozen 1
        have l2 := N4.frozen 2
        have l3 := N4.frozen 3
        obtain ⟨w5, hw5⟩ : ∃ w5, w5 = ((((w4.setCell ⟨q2, 0, none⟩ (.slice Y0 i0 j0)).setCell ⟨q2, 1, none⟩ (.slice Y1 i1 j1)).setCell ⟨q2, 2, none⟩ (.slice Y2 i2 j2)).setCell ⟨q2, 3, none⟩ (.slice Y3 i3 j3)) := ⟨_, rfl⟩
        have N5 : Hid (Blk w5 q2 31 #[.slice Y0 i0 j0, .slice Y1 i1 j1, .slice Y2 i2 j2, .slice Y3 i3 j3]) := Lib.hid (by
          rw [hw5]
          exact (((N4.set_ 0 _).set_ 1 _).set_ 2 _).set_ 3 _)
        rw [← hw5] at DB
        have HW5 := Lib.hid hw5
        clear hw5 N4 t2 b2 u1 u2 u3 u4 c0 c1 c2 c3 s0 s1 s2 s3 s4
        go_upto_region 19 with fail
        rw [← HW5.out]
        clear x0 x1 x2 x3 l0 l1 l2 l3
        have z0 := N5.out.cell 0
        have z1 := N5.out.cell 1
        have z2 := N5.out.cell 2
        have z3 := N5.out.cell 3
        have bx := OR.out.box.below DB.out.2.1 OR.out.box.lt
        have c0 := bx.cell 0
        have c1 := bx.cell 1
        have c2 := bx.cell 2
        have c3 := bx.cell 3
        have g0 := bx.frozen 0
        have g1 := bx.frozen 1
        have g2 := bx.frozen 2
        have g3 := bx.frozen 3
        have FIN := Lib.hid (OR.out.docTurn DB.out.2.1 DB.out.1 DB.out.2.2.1 DB.out.2.2.2.1 DB.out.2.2.2.2.1 DB.out.2.2.2.2.2)
        clear bx
        go_wp2_with fail
        go_roundw
        case rel => exact ⟨k + 1, _, _, _, _, _, _, _, _, _, _, _, _, _, by have := HKN.out; omega, by go_num, FIN, SN⟩
        case measure => have := HKN.out; simp [intOf]; omega
      have k1 : (kd == 1) = false := by simpa using hk1
      by_cases hk2 : kd = 2
      · subst hk2
        rw [stepL_2] at SN
        go_wp2_with fail
        refine (refDelV_any W2 _ _ _ _ d eu P2.out.doc FT.out.1 FT.out.2.1).mono ?_
        generalize d.delE eu = ez
        rintro r w4 ⟨a', b', c', e', rfl, t2, b2, u1, u2, u3, u4⟩
        obtain ⟨Y0, i0, j0, Y1, i1, j1, Y2, i2, j2, Y3, i3, j3, rfl, rfl, rfl, rfl⟩ := t2.sl4
        have DB := Lib.hid (OR.out.docBox (r := .returned (.bool true)) (n := 0) BR.out HQ2.out.1 HQ2.out.2.1 t2 b2 u1 u2 u3 u4)
        have N4 := N2.out.below b2 N2.out.lt
        have x0 := N4.cell 0
        have x1 := N4.cell 1
        have x2 := N4.cell 2
        have x3 := N4.cell 3
        have l0 := N4.frozen 0
        have l1 := N4.frozen 1
        have l2 := N4.frozen 2
        have l3 := N4.frozen 3
        obtain ⟨w5, hw5⟩ : ∃ w5, w5 = ((((w4.setCell ⟨q2, 0, none⟩ (.slice Y0 i0 j0)).setCell ⟨q2, 1, none⟩ (.slice Y1 i1 j1)).setCell ⟨q2, 2, none⟩ (.slice Y2 i2 j2)).setCell ⟨q2, 3, none⟩ (.slice Y3 i3 j3)) := ⟨_, rfl⟩
        have N5 : Hid (Blk w5 q2 31 #[.slice Y0 i0 j0, .slice Y1 i1 j1, .slice Y2 i2 j2, .slice Y3 i3 j3]) := Lib.hid (by
          rw [hw5]
          exact (((N4.set_ 0 _).set_ 1 _).set_ 2 _).set_ 3 _)
        rw [← hw5] at DB
        have HW5 := Lib.hid hw5
        clear hw5 N4 t2 b2 u1 u2 u3 u4 c0 c1 c2 c3 s0 s1 s2 s3 s4
        go_upto_region 19 with fail
        rw [← HW5.out]
        clear x0 x1 x2 x3 l0 l1 l2 l3
        have z0 := N5.out.cell 0
        have z1 := N5.out.cell 1
        have z2 := N5.out.cell 2
        have z3 := N5.out.cell 3
        have bx := OR.out.box.below DB.out.2.1 OR.out.box.lt
        have c0 := bx.cell 0
        have c1 := bx.cell 1
        have c2 := bx.cell 2
        have c3 := bx.cell 3
        have g0 := bx.frozen 0
        have g1 := bx.frozen 1
        have g2 := bx.frozen 2
        have g3 := bx.frozen 3
        have FIN := Lib.hid (OR.out.docTurn DB.out.2.1 DB.out.1 DB.out.2.2.1 DB.out.2.2.2.1 DB.out.2.2.2.2.1 DB.out.2.2.2.2.2)
        clear bx
        go_wp2_with fail
        go_roundw
        case rel => exact ⟨k + 1, _, _, _, _, _, _, _, _, _, _, _, _, _, by have := HKN.out; omega, by go_num, FIN, SN⟩
        case measure => have := HKN.out; simp [intOf]; omega
      have k2 : (kd == 2) = false := by simpa using hk2
      by_cases hk3 : kd = 3
      · subst hk3
        rw [stepL_3] at SN
        go_wp2_with fail
        refine (refLinkW_any W2 _ _ _ _ d id eu ev wt P2.out.doc FT.out.1).mono ?_
        generalize d.linkWE id eu ev wt = ez
        rintro r w4 ⟨a', b', c', e', rfl, t2, b2, u1, u2, u3, u4⟩
        obtain ⟨Y0, i0, j0, Y1, i1, j1, Y2, i2, j2, Y3, i3, j3, rfl, rfl, rfl, rfl⟩ := t2.sl4
        have DB := Lib.hid (OR.out.docBox (r := .returned (.bool true)) (n := 0) BR.out HQ2.out.1 HQ2.out.2.1 t2 b2 u1 u2 u3 u4)
        have N4 := N2.out.below b2 N2.out.lt
        have x0 := N4.cell 0
        have x1 := N4.cell 1
        have x2 := N4.cell 2
        have x3 := N4.cell 3
        have l0 := N4.frozen 0
        have l1 := N4.frozen 1
        have l2 := N4.frozen 2
        have l3 := N4.frozen 3
        obtain ⟨w5, hw5⟩ : ∃ w5, w5 = ((((w4.setCell ⟨q2, 0, none⟩ (.slice Y0 i0 j0)).setCell ⟨q2, 1, none⟩ (.slice Y1 i1 j1)).setCell ⟨q2, 2, none⟩ (.slice Y2 i2 j2)).setCell ⟨q2, 3, none⟩ (.slice Y3 i3 j3)) := ⟨_, rfl⟩
        have N5 : Hid (Blk w5 q2 31 #[.slice Y0 i0 j0, .slice Y1 i1 j1, .slice Y2 i2 j2, .slice Y3 i3 j3]) := Lib.hid (by
          rw [hw5]
          exact (((N4.set_ 0 _).set_ 1 _).set_ 2 _).set_ 3 _)
        rw [← hw5] at DB
        have HW5 := Lib.hid hw5
        clear hw5 N4 t2 b2 u1 u2 u3 u4 c0 c1 c2 c3 s0 s1 s2 s3 s4
        go_upto_region 19 with fail
        rw [← HW5.out]
        clear x0 x1 x2 x3 l0 l1 l2 l3
        have z0 := N5.out.cell 0
        have z1 := N5.out.cell 1
        have z2 := N5.out.cell 2
        have z3 := N5.out.cell 3
        have bx := OR.out.box.below DB.out.2.1 OR.out.box.lt
        have c0 := bx.cell 0
        have c1 := bx.cell 1
        have c2 := bx.cell 2
        have c3 := bx.cell 3
        have g0 := bx.frozen 0
        have g1 := bx.frozen 1
        have g2 := bx.frozen 2
        have g3 := bx.frozen 3
        have FIN := Lib.hid (OR.out.docTurn DB.out.2.1 DB.out.1 DB.out.2.2.1 DB.out.2.2.2.1 DB.out.2.2.2.2.1 DB.out.2.2.2.2.2)
        clear bx
        go_wp2_with fail
        go_roundw
        case rel => exact ⟨k + 1, _, _, _, _, _, _, _, _, _, _, _, _, _, by have := HKN.out; omega, by go_num, FIN, SN⟩
        case measure => have := HKN.out; simp [intOf]; omega
      have k3 : (kd == 3) = false := by simpa using hk3
      by_cases hk4 : kd = 4
      · subst hk4
        rw [stepL_4] at SN
        go_wp2_with fail
        refine (refCut_any W2 _ _ _ _ d id P2.out.doc FT.out.1 FT.out.2.2).mono ?_
        generalize d.cutE id = ez
        rintro r w4 ⟨a', b', c', e', rfl, t2, b2, u1, u2, u3, u4⟩
        obtain ⟨Y0, i0, j0, Y1, i1, j1, Y2, i2, j2, Y3, i3, j3, rfl, rfl, rfl, rfl⟩ := t2.sl4
        have DB := Lib.hid (OR.out.docBox (r := .returned (.bool true)) (n := 0) BR.out HQ2.out.1 HQ2.out.2.1 t2 b2 u1 u2 u3 u4)
        have N4 := N2.out.below b2 N2.out.lt
        have x0 := N4.cell 0
        have x1 := N4.cell 1
        have x2 := N4.cell 2
        have x3 := N4.cell 3
        have l0 := N4.frozen 0
        have l1 := N4.frozen 1
        have l2 := N4.frozen 2
        have l3 := N4.frozen 3
        obtain ⟨w5, hw5⟩ : ∃ w5, w5 = ((((w4.setCell ⟨q2, 0, none⟩ (.slice Y0 i0 j0)).setCell ⟨q2, 1, none⟩ (.slice Y1 i1 j1)).setCell ⟨q2, 2, none⟩ (.slice Y2 i2 j2)).setCell ⟨q2, 3, none⟩ (.slice Y3 i3 j3)) := ⟨_, rfl⟩
        have N5 : Hid (Blk w5 q2 31 #[.slice Y0 i0 j0, .slice Y1 i1 j1, .slice Y2 i2 j2, .slice Y3 i3 j3]) := Lib.hid (by
          rw [hw5]
          exact (((N4.set_ 0 _).set_ 1 _).set_ 2 _).set_ 3 _)
        rw [← hw5] at DB
        have HW5 := Lib.hid hw5
        clear hw5 N4 t2 b2 u1 u2 u3 u4 c0 c1 c2 c3 s0 s1 s2 s3 s4
        go_upto_region 19 with fail
        rw [← HW5.out]
        clear x0 x1 x2 x3 l0 l1 l2 l3
        have z0 := N5.out.cell 0
        have z1 := N5.out.cell 1
        have z2 := N5.out.cell 2
        have z3 := N5.out.cell 3
        have bx := OR.out.box.below DB.out.2.1 OR.out.box.lt
        have c0 := bx.cell 0
        have c1 := bx.cell 1
        have c2 := bx.cell 2
        have c3 := bx.cell 3
        have g0 := bx.frozen 0
        have g1 := bx.frozen 1
        have g2 := bx.frozen 2
        have g3 := bx.frozen 3
        have FIN := Lib.hid (OR.out.docTurn DB.out.2.1 DB.out.1 DB.out.2.2.1 DB.out.2.2.2.1 DB.out.2.2.2.2.1 DB.out.2.2.2.2.2)
        clear bx
        go_wp2_with fail
        go_roundw
        case rel => exact ⟨k + 1, _, _, _, _, _, _, _, _, _, _, _, _, _, by have := HKN.out; omega, by go_num, FIN, SN⟩
        case measure => have := HKN.out; simp [intOf]; omega
      have k4 : (kd == 4) = false := by simpa using hk4
      rw [stepL_0 d hk1 hk2 hk3 hk4] at SN
      have DB : Hid (DocR W2 W2.heap.size (.slice X0 n0 m0) (.slice X1 n1 m1) (.slice X2 n2 m2) (.slice X3 n3 m3) d ∧ Below wr.heap.size wr W2 ∧ OldNew wr (.slice X0 n0 m0) (.slice X0 n0 m0) ∧ OldNew wr (.slice X1 n1 m1) (.slice X1 n1 m1) ∧ OldNew wr (.slice X2 n2 m2) (.slice X2 n2 m2) ∧ OldNew wr (.slice X3 n3 m3) (.slice X3 n3 m3)) := Lib.hid ⟨P2.out.doc, BR.out, .old _ _, .old _ _, .old _ _, .old _ _⟩
      have N5 := N2
      clear c0 c1 c2 c3
      go_upto_region 19 with fail
      clear s0 s1 s2 s3 s4
      have z0 := N5.out.cell 0
      have z1 := N5.out.cell 1
      have z2 := N5.out.cell 2
      have z3 := N5.out.cell 3
      have bx := OR.out.box.below DB.out.2.1 OR.out.box.lt
      have c0 := bx.cell 0
      have c1 := bx.cell 1
      have c2 := bx.cell 2
      have c3 := bx.cell 3
      have g0 := bx.frozen 0
      have g1 := bx.frozen 1
      have g2 := bx.frozen 2
      have g3 := bx.frozen 3
      have FIN := Lib.hid (OR.out.docTurn DB.out.2.1 DB.out.1 DB.out.2.2.1 DB.out.2.2.2.1 DB.out.2.2.2.2.1 DB.out.2.2.2.2.2)
      clear bx
      go_wp2_with fail
      go_roundw
      case rel => exact ⟨k + 1, _, _, _, _, _, _, _, _, _, _, _, _, _, by have := HKN.out; omega, by go_num, FIN, SN⟩
      case measure => have := HKN.out; simp [intOf]; omega
    · obtain rfl : k = n := by omega
      have hkd : decide ((k : Int) < (k : Int)) = false := by simp
      have BS : Hid (BesL F d) := Lib.hid (by
        have := SH.out
        rw [List.take_of_length_le (by have := HN.out; omega), ← HFE.out] at this
        exact this)
      clear SH
      have HD := Lib.hid OR.out.doc
      obtain ⟨A0, e0, h0, -, -, -, -⟩ := HD.out.vs.open_
      obtain ⟨A1, e1, h1, -, -, -, -⟩ := HD.out.es.open_
      injection h0 with i1 i2 i3
      injection h1 with j1 j2 j3
      obtain ⟨nv, hnv⟩ : ∃ n, n = d.vs.length := ⟨_, rfl⟩
      obtain ⟨ne, hne⟩ : ∃ n, n = d.es.length := ⟨_, rfl⟩
      rw [← hnv] at i2
      rw [← hne] at j2
      subst i1 i2 i3 j1 j2 j3
      have HNV := Lib.hid hnv
      have HNE := Lib.hid hne
      have hfit := BS.out.fit HFO.out
      have hnv2 : n0 ≤ 4096 := by have := hfit.1.nv; omega
      have hne2 : n1 ≤ 8192 := by have := hfit.1.ne; omega
      have OV : Hid (Ord w wr f F g (gV d.vs n0) p d (.slice X0 n0 m0) (.slice X1 n1 m1) (.slice X2 n2 m2) (.slice X3 n3 m3)) := Lib.hid (by
        rw [HNV.out, (g_start d.vs d.es).1]
        have := OR.out
        rw [HNV.out] at this
        exact this)
      obtain ⟨c0, c1, c2, c3⟩ := OV.out.four
      clear OR HD hnv hne hfit
      go_wp2_with fail
      clear c0 c1 c2 c3
      go_loopw [13] (fun i wr => ∃ (j : Nat) (x : Int), j ≤ n0 ∧ i = .int .i64 x ∧ x = (j : Int) - 1 ∧ Hid (Ord w wr f F g (gV d.vs j) p d (.slice X0 n0 m0) (.slice X1 n1 m1) (.slice X2 n2 m2) (.slice X3 n3 m3))) (fun i _ => (intOf i + 1).toNat)
      case atStart => exact ⟨n0, (n0 : Int) - 1, Nat.le_refl _, by go_num, rfl, OV⟩
      case round =>
        clear OV
        obtain ⟨j, x, hj, rfl, hx, OV⟩ := hrel
        obtain ⟨c0, c1, c2, c3⟩ := OV.out.four
        cases j with
        | succ j =>
          have hx2 : x = (j : Int) := by omega
          clear hx
          subst hx2
          have hjv : j < d.vs.length := by have := HNV.out; omega
          obtain ⟨Az, cz, h0, -, -, -, HCV⟩ := OV.out.doc.vs.open_
          injection h0 with h0 hl2 hl3
          clear hl2 hl3
          obtain ⟨b1, o1, e1, hb, hy⟩ := HCV j hjv
          have e1 : X0 = some ⟨b1, o1, none⟩ := h0.trans e1
          subst e1
          have y0 := hy 0 _ rfl
          rw [Nat.add_zero, Nat.mul_one] at y0
          have hin : 1 ≤ d.vs[j] ∧ d.vs[j] ≤ 2147483647 := HFO.out.ids _ ((BS.out.vm _).1 (List.getElem_mem hjv))
          obtain ⟨z1, z2⟩ := gV_step hjv BS.out.vnd (by have := (BS.out.vperm HFO.out).length_eq; have := HFO.out.few; omega) hin
          have ca := oAdd OV.out d.vs[j] (I64_of hin)
          rw [z1, z2] at ca
          obtain ⟨y, hyy⟩ : ∃ y, y = d.vs[j] := ⟨_, rfl⟩
          rw [← hyy] at ca y0
          have CA := Lib.hid ca
          have hjn : (j : Int) < (n0 : Int) := by omega
          have hge : decide ((0 : Int) ≤ (j : Int)) = true := by simp
          
          clear h0 HCV hb hy hin z1 z2 ca hyy hjv
          go_wp2_with fail
          refine CA.out.mono ?_
          rintro r w5 ⟨rfl, o5⟩
          have O5 := Lib.hid o5
          clear o5 y0
          go_wp2_with fail
          go_roundw
          case rel => exact ⟨j, (j : Int) - 1, by omega, by go_num, rfl, O5⟩
          case measure => simp [intOf]
        | zero =>
          have hx2 : x = -1 := by omega
          clear hx
          subst hx2
          have OE : Hid (Ord w wr f F g (gE d.vs d.es n1) p d (.slice X0 n0 m0) (.slice X1 n1 m1) (.slice X2 n2 m2) (.slice X3 n3 m3)) := Lib.hid (by
            have := OV.out
            rw [(g_start d.vs d.es).2, ← HNE.out] at this
            exact this)
          clear OV
          go_wp2_with fail
          clear c0 c1 c2 c3
          go_loopw [14] (fun i wr => ∃ (j : Nat) (x : Int), j ≤ n1 ∧ i = .int .i64 x ∧ x = (j : Int) - 1 ∧ Hid (Ord w wr f F g (gE d.vs d.es j) p d (.slice X0 n0 m0) (.slice X1 n1 m1) (.slice X2 n2 m2) (.slice X3 n3 m3))) (fun i _ => (intOf i + 1).toNat)
          case atStart => exact ⟨n1, (n1 : Int) - 1, Nat.le_refl _, by go_num, rfl, OE⟩
          case round =>
            clear OE
            obtain ⟨j, x, hj, rfl, hx, OE⟩ := hrel
            obtain ⟨c0, c1, c2, c3⟩ := OE.out.four
            cases j with
            | succ j =>
              have hx2 : x = (j : Int) := by omega
              clear hx
              subst hx2
              have hje : j < d.es.length := by have := HNE.out; omega
              obtain ⟨Az, cz, h0, -, -, -, HCE⟩ := OE.out.doc.es.open_
              injection h0 with h0 hl2 hl3
              clear hl2 hl3
              obtain ⟨b1, o1, e1, hb, hy⟩ := HCE j hje
              have e1 : X1 = some ⟨b1, o1, none⟩ := h0.trans e1
              subst e1
              obtain ⟨z1, z2⟩ := gE_step HFO.out BS.out.vm BS.out.em BS.out.idn hje
              have hm := (BS.out.em _).1 (List.getElem_mem hje)
              obtain ⟨k1, k2, -⟩ := HFO.out.ends _ hm
              obtain ⟨l1, l2, l3⟩ := HFO.out.eids _ hm
              have i1 := I64_of ⟨l1, l2⟩
              have i2 := I64_of (HFO.out.ids _ k1)
              have i3 := I64_of (HFO.out.ids _ k2)
              obtain ⟨y, hyy⟩ : ∃ y, y = d.es[j] := ⟨_, rfl⟩
              rw [← hyy] at hy z1 z2 i1 i2 i3 l3
              obtain ⟨yi, yu, yv, yw⟩ := y
              obtain ⟨y0, y1, y2, y3⟩ := cellD hy
              dsimp only at y0 y1 y2 y3 z1 z2 i1 i2 i3 l3
              have HZ := Lib.hid (And.intro z1 z2)
              have HI1 := Lib.hid i1
              have HI2 := Lib.hid i2
              have HI3 := Lib.hid i3
              have HI4 : Hid (I64 (yw : Int)) := Lib.hid (by unfold I64; omega)
              have hjn : (j : Int) < (n1 : Int) := by omega
              have hge : decide ((0 : Int) ≤ (j : Int)) = true := by simp
              
              obtain ⟨W1, hW1⟩ : ∃ W1, W1 = wr.alloc (.cells #[.int .i64 yi, .int .i64 yu, .int .i64 yv, .int .i64 (yw : Int)] 33) := ⟨_, rfl⟩
              obtain ⟨q, hq⟩ : ∃ q, q = wr.heap.size := ⟨_, rfl⟩
              have hbw : Below wr.heap.size wr W1 := by rw [hW1]; exact (Below.refl _ _).alloc (Nat.le_refl _) _
              have N1 : Hid (Blk W1 q 33 #[.int .i64 yi, .int .i64 yu, .int .i64 yv, .int .i64 (yw : Int)]) := Lib.hid (by rw [hW1, hq]; exact Blk.new _ _ _)
              obtain ⟨W2, hW2⟩ : ∃ W2, W2 = W1.alloc (.cells #[.int .i64 yi, .int .i64 yv, .int .i64 yu, .int .i64 (yw : Int)] 33) := ⟨_, rfl⟩
              obtain ⟨q2, hq2⟩ : ∃ q2, q2 = W1.heap.size := ⟨_, rfl⟩
              have hbw2 : Below W1.heap.size W1 W2 := by rw [hW2]; exact (Below.refl _ _).alloc (Nat.le_refl _) _
              have N2 : Hid (Blk W2 q2 33 #[.int .i64 yi, .int .i64 yv, .int .i64 yu, .int .i64 (yw : Int)]) := Lib.hid (by rw [hW2, hq2]; exact Blk.new _ _ _)
              have N12 := Lib.hid (N1.out.below hbw2 N1.out.lt)
              have P2 := Lib.hid (OE.out.below (hbw.trans (hbw2.mono hbw.size)))
              have HW1 := Lib.hid hW1
              have HQ := Lib.hid hq
              have HW2 := Lib.hid hW2
              have HQ2 := Lib.hid hq2
              have z0 := N1.out.cell 0
              have z1 := N1.out.cell 1
              have z2 := N1.out.cell 2
              have z3 := N1.out.cell 3
              clear h0 HCE hb hy hm k1 k2 l1 l2 l3 i1 i2 i3 hyy hje hW1 hq hbw hW2 hq2 hbw2 OE
              go_upto_region 30 with fail
              rw [← HW1.out]
              try simp only [← HQ.out]
              go_upto_region 31 with fail
              rw [← HW2.out]
              try simp only [← HQ2.out]
              clear z0 z1 z2 z3 y0 y1 y2 y3 c0 c1 c2 c3
              have v0 := N2.out.cell 0
              have v1 := N2.out.cell 1
              have v2 := N2.out.cell 2
              have v3 := N2.out.cell 3
              have CL := oLink P2.out yi yv yu (yw : Int) HI1.out HI3.out HI2.out HI4.out
              rw [HZ.out.1, HZ.out.2] at CL
              have HCL := Lib.hid CL
              clear CL
              go_wp2_with fail
              refine HCL.out.mono ?_
              rintro r w5 ⟨rfl, o5, t5⟩
              have N5 := Lib.hid (t5.blk N12.out notL_E)
              have O5 := Lib.hid o5
              have u1 := N5.out.cell 1
              clear o5 t5 v0 v1 v2 v3
              go_wp2_with fail
              refine (oAlong O5.out yu u HI2.out HU.out).mono ?_
              rintro r w6 ⟨rfl, o6⟩
              have O6 := Lib.hid o6
              clear o6 u1
              go_wp2_with fail
              go_roundw
              case rel => exact ⟨j, (j : Int) - 1, by omega, by go_num, rfl, O6⟩
              case measure => simp [intOf]
            | zero =>
              have hx2 : x = -1 := by omega
              clear hx
              subst hx2
              have DU := Lib.hid OE.out.duo
              obtain ⟨G, hG⟩ : ∃ G, G = gE d.vs d.es 0 := ⟨_, rfl⟩
              rw [← hG] at DU
              have hGok := DU.out.ok.2
              obtain ⟨a1, a2, a3, a4⟩ := flip_along HFO.out hGok (fun x => by rw [hG]; unfold gE; simp only [List.mem_reverse]; exact (BS.out.vm x).symm) (fun x => by
                rw [hG]
                unfold gE
                simp only [List.mem_reverse, List.drop_zero, List.mem_map]
                exact ⟨fun hx => ⟨x, (BS.out.em x).2 hx, rfl⟩, fun ⟨y, hy, hxy⟩ => by rw [← flip_inj hxy]; exact (BS.out.em y).1 hy⟩) u v
              obtain ⟨m0, s0, k0, em0, es0, ek0, ls0, lk0, ev0⟩ := HFO.out.along_open u v
              have evG : G.alongV u v = .agg #[.int .i64 m0.id, .int .i64 m0.v, .int .i64 m0.u, .int .i64 (m0.w : Int), .complex .f64 (fl s0) (fl k0)] := by
                unfold LF.alongV
                rw [a2, a3, a4, ← em0, ← es0, ← ek0]
                rfl
              obtain ⟨g0, hg0⟩ : ∃ g, g = F.alongX u v := ⟨_, rfl⟩
              have egx := a1.trans hg0.symm
              have lv : (G.vs.length : Int) = (F.vs.length : Int) := by
                have := (BS.out.vperm HFO.out).length_eq
                rw [hG]; unfold gE
                rw [List.length_reverse, this]
              have le : (G.es.length : Int) = (F.es.length : Int) := by
                have := (BS.out.eperm HFO.out).length_eq
                rw [hG]; unfold gE
                rw [List.length_reverse, List.length_map, List.drop_zero, this]
              have E0 := Lib.hid ev0
              have EG := Lib.hid evG
              have X0' := Lib.hid hg0
              have XG := Lib.hid egx
              have LV := Lib.hid lv
              have LE := Lib.hid le
              have hec := run_eqCC (a := s0) (b := k0) (by omega) (by omega)
              obtain ⟨nF, hnF⟩ : ∃ n : Nat, n = F.vs.length := ⟨_, rfl⟩
              obtain ⟨nG, hnG⟩ : ∃ n : Nat, n = F.es.length := ⟨_, rfl⟩
              have NF := Lib.hid hnF
              have NG := Lib.hid hnG
              clear OE hG hGok a1 a2 a3 a4 em0 es0 ek0 ev0 evG hg0 egx lv le hnF hnG c0 c1 c2 c3
              go_wp2_with fail
              refine (DU.out.along u v HU.out HV.out).mono ?_
              rw [E0.out, ← X0'.out]
              rintro r w5 ⟨rfl, d5, t5⟩
              obtain ⟨pA, hp⟩ : ∃ p, p = w5.heap.size := ⟨_, rfl⟩
              obtain ⟨w6, hw⟩ : ∃ W, W = w5.alloc (.cells #[.int .i64 m0.id, .int .i64 m0.u, .int .i64 m0.v, .int .i64 (m0.w : Int), .complex .f64 (fl s0) (fl k0)] 48) := ⟨_, rfl⟩
              have hb6 : Below w5.heap.size w5 w6 := by rw [hw]; exact (Below.refl _ _).alloc (Nat.le_refl _) _
              have K6 : Hid (Blk w6 pA 48 #[.int .i64 m0.id, .int .i64 m0.u, .int .i64 m0.v, .int .i64 (m0.w : Int), .complex .f64 (fl s0) (fl k0)]) := Lib.hid (by rw [hw, hp]; exact Blk.new _ _ _)
              have D6 := Lib.hid (d5.below hb6).symm
              have HPA := Lib.hid hp
              have HWA := Lib.hid hw
              clear d5 t5 hp hw hb6
              go_wp2_with fail
              rw [← HWA.out]
              try simp only [← HPA.out]
              refine (D6.out.along u v HU.out HV.out).mono ?_
              rw [EG.out, XG.out]
              rintro r w7 ⟨rfl, d7, t7⟩
              obtain ⟨pB, hp⟩ : ∃ p, p = w7.heap.size := ⟨_, rfl⟩
              obtain ⟨w8, hw⟩ : ∃ W, W = w7.alloc (.cells #[.int .i64 m0.id, .int .i64 m0.v, .int .i64 m0.u, .int .i64 (m0.w : Int), .complex .f64 (fl s0) (fl k0)] 48) := ⟨_, rfl⟩
              have hb8 : Below w7.heap.size w7 w8 := by rw [hw]; exact (Below.refl _ _).alloc (Nat.le_refl _) _
              have KA7 := t7.blk K6.out notL_A
              have KA8 := Lib.hid (KA7.below hb8 KA7.lt)
              have KB8 : Hid (Blk w8 pB 48 #[.int .i64 m0.id, .int .i64 m0.v, .int .i64 m0.u, .int .i64 (m0.w : Int), .complex .f64 (fl s0) (fl k0)]) := Lib.hid (by rw [hw, hp]; exact Blk.new _ _ _)
              have D8 := Lib.hid (d7.below hb8)
              have HPB := Lib.hid hp
              have HWB := Lib.hid hw
              clear d7 t7 hp hw hb8 KA7
              go_wp2_with fail
              rw [← HWB.out]
              try simp only [← HPB.out]
              refine D8.out.symm.len.mono ?_
              rw [← NF.out, ← NG.out]
              rintro r w9 ⟨rfl, b9⟩
              have D9 := Lib.hid (D8.out.below b9)
              have KA9 := Lib.hid (KA8.out.below b9 KA8.out.lt)
              have KB9 := Lib.hid (KB8.out.below b9 KB8.out.lt)
              clear b9
              go_wp2_with fail
              refine D9.out.len.mono ?_
              rw [LV.out, LE.out, ← NF.out, ← NG.out]
              rintro r w10 ⟨rfl, b10⟩
              have KA := KA9.out.below b10 KA9.out.lt
              have KB := KB9.out.below b10 KB9.out.lt
              have TE := Lib.hid (D9.out.below b10).low
              have p0 := KA.cell 0
              have p1 := KA.cell 1
              have p2 := KA.cell 2
              have p3 := KA.cell 3
              have p4 := KA.cell 4
              have r0 := KB.cell 0
              have r1 := KB.cell 1
              have r2 := KB.cell 2
              have r3 := KB.cell 3
              have r4 := KB.cell 4
              clear b10 KA KB
              go_wp2_with fail
              go_ret
              exact ⟨rfl, TE.out⟩

end Go.Proofs.Ytlhkajlkapoabaa
