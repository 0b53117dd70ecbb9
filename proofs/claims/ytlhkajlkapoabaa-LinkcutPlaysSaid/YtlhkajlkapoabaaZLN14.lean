/-
  The walk of LinkcutOrder.
-/
import Derived.Test.YtlhkajlkapoabaaZLN10b
namespace Go.Proofs.Ytlhkajlkapoabaa
open Go.RowKit Go.Maps
set_option linter.unusedVariables false

attribute [local go_sem] run_storeCz

set_option maxRecDepth 100000 in
set_option maxHeartbeats 4000000 in
theorem filled_all (w : World) (v1 : Value) (os : List OpL) (hs : ScrL w v1 os) :
    Calls Try.prog 15 #[v1] w fun e w' => ∃ f, e = .returned (.pointer (some ⟨f, 0, none⟩)) ∧ LB w.heap.size noQ w' f (LF.none0.runsL os) ∧ Below w.heap.size w w' ∧ ∀ j, (LF.none0.runsL (os.take j)).Ok := by
  obtain ⟨A, c, rfl, hc1, hc2, hc3, HC⟩ := hs.rk.open_
  obtain ⟨n, hn⟩ : ∃ n, n = os.length := ⟨_, rfl⟩
  rw [← hn] at hc1 hc3 ⊢
  have HS := Lib.hid hs.at_
  have HN := Lib.hid hn
  clear hs hn
  go_enter Try.func15, Try.ntmps15
  go_wp2_with fail
  refine (bNew w noQ noQ_lt).mono ?_
  rintro e w1 ⟨f, rfl, h1, b1⟩
  have H1 : Hid (LB w.heap.size noQ w1 f LF.none0) := Lib.hid h1
  have B1 := Lib.hid b1
  clear h1 b1
  go_wp2_with fail
  go_loopw [4] (fun i wr => ∃ k : Nat, k ≤ n ∧ i = .int .i64 k ∧ Hid (LB w.heap.size noQ wr f (LF.none0.runsL (os.take k))) ∧ Hid (Below w.heap.size w wr) ∧ Hid (∀ j, j ≤ k → (LF.none0.runsL (os.take j)).Ok)) (fun i _ => n - (intOf i).toNat)
  case atStart => exact ⟨0, Nat.zero_le _, rfl, H1, B1, Lib.hid fun j hj => by rw [Nat.le_zero.1 hj]; exact H1.out.ok⟩
  case round =>
    obtain ⟨k, hk, rfl, HF, HT, HJ⟩ := hrel
    by_cases hkl : k < n
    · have hko : k < os.length := by have := HN.out; omega
      obtain ⟨b1, o1, rfl, hb, hx⟩ := HC.out k hko
      obtain ⟨hx1, hx2, hx3, hx4, hx5⟩ := cellOp hx
      have y1 := (HT.out.cell (p := ⟨b1, o1 + k * 5, none⟩) hb).trans hx1
      have y2 := (HT.out.cell (p := ⟨b1, o1 + k * 5 + 1, none⟩) hb).trans hx2
      have y3 := (HT.out.cell (p := ⟨b1, o1 + k * 5 + 2, none⟩) hb).trans hx3
      have y4 := (HT.out.cell (p := ⟨b1, o1 + k * 5 + 3, none⟩) hb).trans hx4
      have y5 := (HT.out.cell (p := ⟨b1, o1 + k * 5 + 4, none⟩) hb).trans hx5
      have HOP := Lib.hid (HS.out os[k] (List.getElem_mem hko))
      have HTK := Lib.hid (List.take_succ_eq_append_getElem hko)
      clear hx hx1 hx2 hx3 hx4 hx5
      obtain ⟨x, hx⟩ : ∃ x, x = os[k] := ⟨_, rfl⟩
      rw [← hx] at y1 y2 y3 y4 y5 HOP HTK
      clear hx
      obtain ⟨kd, id, u, v, wt⟩ := x
      dsimp only at y1 y2 y3 y4 y5
      have hkn : (k : Int) < (n : Int) := by omega
      have hkd : decide ((k : Int) < (n : Int)) = true := by simpa using hkl
      go_wp2_with fail
      refine (does0 w.heap.size noQ wr f _ HF.out HT.out.size kd id u v wt HOP.out).mono ?_
      rintro e w4 ⟨⟨u4, x4, rfl⟩, h4, t4⟩
      have H4 : Hid (LB w.heap.size noQ w4 f (LF.none0.runsL (os.take (k + 1)))) := Lib.hid (by rw [HTK.out, runsL_snoc]; exact h4)
      have T4 := Lib.hid (HT.out.trans t4.below)
      clear h4 t4 y1 y2 y3 y4 y5
      go_wp2_with fail
      go_roundw
      case rel => exact ⟨k + 1, by omega, by go_num, H4, T4, Lib.hid fun j hj => by
        by_cases hjk : j ≤ k
        · exact HJ.out j hjk
        · obtain rfl : j = k + 1 := by omega
          exact H4.out.ok⟩
      case measure => simp [intOf]; omega
    · obtain rfl : k = n := by omega
      have hkd : decide ((k : Int) < (k : Int)) = false := by simp
      have HF2 : Hid (LB w.heap.size noQ wr f (LF.none0.runsL os)) := Lib.hid (by
        have := HF.out
        rw [List.take_of_length_le (by have := HN.out; omega)] at this
        exact this)
      go_wp2_with fail
      go_ret
      refine ⟨_, rfl, HF2.out, HT.out, fun j => ?_⟩
      by_cases hj : j ≤ k
      · exact HJ.out j hj
      · rw [List.take_of_length_le (by have := HN.out; omega)]
        exact HF2.out.ok


theorem stepL_1 (d : DF) (id u v wt : Int) : d.stepL ⟨1, id, u, v, wt⟩ = d.addA u := by unfold DF.stepL; simp

theorem stepL_2 (d : DF) (id u v wt : Int) : d.stepL ⟨2, id, u, v, wt⟩ = d.delA u := by unfold DF.stepL; simp

theorem stepL_3 (d : DF) (id u v wt : Int) : d.stepL ⟨3, id, u, v, wt⟩ = d.linkWA id u v wt := by unfold DF.stepL; simp

theorem stepL_4 (d : DF) (id u v wt : Int) : d.stepL ⟨4, id, u, v, wt⟩ = d.cutA id := by unfold DF.stepL; simp

theorem stepL_0 (d : DF) {kd id u v wt : Int} (h1 : kd ≠ 1) (h2 : kd ≠ 2) (h3 : kd ≠ 3) (h4 : kd ≠ 4) : d.stepL ⟨kd, id, u, v, wt⟩ = d := by unfold DF.stepL; simp [h1, h2, h3, h4]

set_option maxRecDepth 100000 in
set_option maxHeartbeats 8000000 in
theorem linkcutOrder_walk (w : World) (sv : Value) (os : List OpL) (u v : Int) (hs : ScrL w sv os) (hu : I64 u) (hv : I64 v) :
    Calls Try.prog 6 #[sv, .int .i64 u, .int .i64 v] w fun e w' => e = .returned (.bool true) ∧ Below w.heap.size w w' := by
  have hf := filled_all w sv os hs
  obtain ⟨A, c, rfl, hc1, hc2, hc3, HC⟩ := hs.rk.open_
  obtain ⟨n, hn⟩ : ∃ n, n = os.length := ⟨_, rfl⟩
  rw [← hn] at hc1 hc3 hf ⊢
  have HN := Lib.hid hn
  have HA := Lib.hid hs.at_
  have HFL := Lib.hid hf
  have HU := Lib.hid hu
  have HV := Lib.hid hv
  clear hs hn hf hu hv
  go_enter Try.func6, Try.ntmps6
  go_wp2_with fail
  refine HFL.out.mono ?_
  rintro e w1 ⟨f, rfl, h1, b1, oks⟩
  obtain ⟨Sf, f1, f2, -⟩ := h1.split
  have OKS := Lib.hid oks
  have FQ := Lib.hid f1
  have F2 := Lib.hid f2
  have B1 := Lib.hid b1
  have HFO := Lib.hid h1.ok
  clear f1 f2 b1 oks h1
  obtain ⟨F, hF⟩ : ∃ F, F = LF.none0.runsL os := ⟨_, rfl⟩
  rw [← hF] at FQ HFO
  have HFE := Lib.hid hF
  clear hF
  go_wp2_with fail
  refine (bNew w1 Sf (fun k hk => FQ.out.lt hk)).mono ?_
  rintro e w2 ⟨g, rfl, g1, b2⟩
  have G2 : Hid (LB w.heap.size Sf w2 g LF.none0) := Lib.hid (g1.weak B1.out.size fun _ h => h)
  have FR2 := Lib.hid (FQ.out.below b2)
  have B2 := Lib.hid (B1.out.trans (b2.mono B1.out.size))
  clear g1 b2
  go_wp2_with fail
  refine (alive_any w2).mono ?_
  rintro e w3 ⟨rfl, b3⟩
  obtain ⟨W3, hW3⟩ : ∃ W3, W3 = w3.alloc (.cells #[.slice none 0 0, .slice none 0 0, .slice none 0 0, .slice none 0 0] 31) := ⟨_, rfl⟩
  obtain ⟨p, hp⟩ : ∃ p, p = w3.heap.size := ⟨_, rfl⟩
  have hb3 : Below w2.heap.size w2 W3 := by rw [hW3]; exact b3.alloc b3.size _
  have hlo : w.heap.size ≤ p := by rw [hp]; exact Nat.le_trans B2.out.size b3.size
  have hord : Ord w W3 f F g LF.none0 p ⟨[], [], [], []⟩ (.slice none 0 0) (.slice none 0 0) (.slice none 0 0) (.slice none 0 0) :=
    ⟨Sf, Sf, G2.out.below hb3, FR2.out.below hb3, fun k hk => hk, fun k hk => (F2.out k hk).1, B2.out.trans (hb3.mono B2.out.size), ⟨RK.nil _ _, RK.nil _ _, RK.nil _ _, RK.nil _ _⟩, fun h => absurd rfl h, fun h => absurd rfl h, fun h => absurd rfl h, fun h => absurd rfl h, by rw [hW3, hp]; exact Blk.new _ _ _, hlo, fun h => absurd rfl h, fun h => absurd rfl h, fun h => absurd rfl h, fun h => absurd rfl h⟩
  have HW3 := Lib.hid hW3
  have HP := Lib.hid hp
  have OR := Lib.hid hord
  clear hW3 hp hb3 hlo hord b3
  go_upto_region 6 with fail
  rw [← HW3.out]
  try simp only [← HP.out]
  clear HW3 HP HFL FQ F2 G2 FR2 B1 B2
  go_wp2_with fail
  go_loopw [41] (fun i wr => ∃ (k : Nat) (d : DF) (X0 : Option Addr) (n0 m0 : Nat) (X1 : Option Addr) (n1 m1 : Nat) (X2 : Option Addr) (n2 m2 : Nat) (X3 : Option Addr) (n3 m3 : Nat), k ≤ n ∧ i = .int .i64 k ∧ Hid (Ord w wr f F g LF.none0 p d (.slice X0 n0 m0) (.slice X1 n1 m1) (.slice X2 n2 m2) (.slice X3 n3 m3)) ∧ Hid (BesL (LF.none0.runsL (os.take k)) d)) (fun i _ => n - (intOf i).toNat)
  case atStart => exact ⟨0, _, _, _, _, _, _, _, _, _, _, _, _, _, Nat.zero_le _, rfl, OR, Lib.hid besL_new⟩
  case round =>
    clear OR
    obtain ⟨k, d, X0, n0, m0, X1, n1, m1, X2, n2, m2, X3, n3, m3, hk, rfl, OR, SH⟩ := hrel
    by_cases hkl : k < n
    · have hko : k < os.length := by have := HN.out; omega
      have LRW := Lib.hid OR.out.low
      obtain ⟨b1, o1, rfl, hb, hx⟩ := HC.out k hko
      obtain ⟨hx1, hx2, hx3, hx4, hx5⟩ := cellOp hx
      have y1 := (LRW.out.cell (p := ⟨b1, o1 + k * 5, none⟩) hb).trans hx1
      have y2 := (LRW.out.cell (p := ⟨b1, o1 + k * 5 + 1, none⟩) hb).trans hx2
      have y3 := (LRW.out.cell (p := ⟨b1, o1 + k * 5 + 2, none⟩) hb).trans hx3
      have y4 := (LRW.out.cell (p := ⟨b1, o1 + k * 5 + 3, none⟩) hb).trans hx4
      have y5 := (LRW.out.cell (p := ⟨b1, o1 + k * 5 + 4, none⟩) hb).trans hx5
      have HTK := Lib.hid (List.take_succ_eq_append_getElem hko)
      clear hx hx1 hx2 hx3 hx4 hx5
      obtain ⟨x, hx⟩ : ∃ x, x = os[k] := ⟨_, rfl⟩
      rw [← hx] at y1 y2 y3 y4 y5 HTK
      clear hx
      obtain ⟨kd, id, eu, ev, wt⟩ := x
      dsimp only at y1 y2 y3 y4 y5
      have hkn : (k : Int) < (n : Int) := by omega
      have hkd : decide ((k : Int) < (n : Int)) = true := by simpa using hkl
      have SN : Hid (BesL (LF.none0.runsL (os.take (k + 1))) (d.stepL ⟨kd, id, eu, ev, wt⟩)) := Lib.hid (by rw [HTK.out, runsL_snoc]; exact SH.out.step (OKS.out k) _)
      have FT := Lib.hid (SH.out.fit (OKS.out k))
      obtain ⟨W1, hW1⟩ : ∃ W1, W1 = wr.alloc (.cells #[.int .i64 kd, .int .i64 id, .int .i64 eu, .int .i64 ev, .int .i64 wt] 35) := ⟨_, rfl⟩
      obtain ⟨q, hq⟩ : ∃ q, q = wr.heap.size := ⟨_, rfl⟩
      have hbw : Below wr.heap.size wr W1 := by rw [hW1]; exact (Below.refl _ _).alloc (Nat.le_refl _) _
      have O1 : Hid (Blk W1 q 35 #[.int .i64 kd, .int .i64 id, .int .i64 eu, .int .i64 ev, .int .i64 wt]) := Lib.hid (by rw [hW1, hq]; exact Blk.new _ _ _)
      have HW1 := Lib.hid hW1
      have HQ := Lib.hid hq
      obtain ⟨c0, c1, c2, c3⟩ := (OR.out.below hbw).four
      obtain ⟨W2, hW2⟩ : ∃ W2, W2 = W1.alloc (.cells #[.slice X0 n0 m0, .slice X1 n1 m1, .slice X2 n2 m2, .slice X3 n3 m3] 31) := ⟨_, rfl⟩
      obtain ⟨q2, hq2⟩ : ∃ q2, q2 = W1.heap.size := ⟨_, rfl⟩
      have hbw2 : Below W1.heap.size W1 W2 := by rw [hW2]; exact (Below.refl _ _).alloc (Nat.le_refl _) _
      have N2 : Hid (Blk W2 q2 31 #[.slice X0 n0 m0, .slice X1 n1 m1, .slice X2 n2 m2, .slice X3 n3 m3]) := Lib.hid (by rw [hW2, hq2]; exact Blk.new _ _ _)
      have O2 := Lib.hid (O1.out.below hbw2 O1.out.lt)
      have hbr : Below wr.heap.size wr W2 := hbw.trans (hbw2.mono hbw.size)
      have BR := Lib.hid hbr
      have P2 := Lib.hid (OR.out.below hbr)
      have HQ2 : Hid (wr.heap.size ≤ q2 ∧ q2 < W2.heap.size ∧ p < wr.heap.size) := Lib.hid ⟨by rw [hq2]; exact hbw.size, N2.out.lt, OR.out.box.lt⟩
      have HW2 := Lib.hid hW2
      have HQE := Lib.hid hq2
      clear hW1 hq hbw hW2 hq2 hbw2 hbr
      go_upto_region 9 with fail
      rw [← HW1.out]
      try simp only [← HQ.out]
      go_upto_region 10 with fail
      rw [← HW2.out]
      try simp only [← HQE.out]
      clear y1 y2 y3 y4 y5 hb HTK SH c0 c1 c2 c3
      have HKN := Lib.hid hkl
      clear hko hkn hkd hkl
      obtain ⟨c0, c1, c2, c3⟩ := P2.out.four
      have s0 := O2.out.cell 0
      have s1 := O2.out.cell 1
      have s2 := O2.out.cell 2
      have s3 := O2.out.cell 3
      have s4 := O2.out.cell 4
      by_cases hk1 : kd = 1
      · subst hk1
        rw [stepL_1] at SN
        go_wp2_with fail
        refine (refAddV_any W2 _ _ _ _ d eu P2.out.doc FT.out.1).mono ?_
        generalize d.addE eu = ez
        rintro r w4 ⟨a', b', c', e', rfl, t2, b2, u1, u2, u3, u4⟩
        obtain ⟨Y0, i0, j0, Y1, i1, j1, Y2, i2, j2, Y3, i3, j3, rfl, rfl, rfl, rfl⟩ := t2.sl4
        have DB := Lib.hid (OR.out.docBox (r := .returned (.bool true)) (n := 0) BR.out HQ2.out.1 HQ2.out.2.1 t2 b2 u1 u2 u3 u4)
        have N4 := N2.out.below b2 N2.out.lt
        have x0 := N4.cell 0
        have x1 := N4.cell 1
        have x2 := N4.cell 2
        have x3 := N4.cell 3
        have l0 := N4.frozen 0
        have l1 := N4.frozen 1
        have l2 := N4.frozen 2
        have l3 := N4.frozen 3
        obtain ⟨w5, hw5⟩ : ∃ w5, w5 = ((((w4.setCell ⟨q2, 0, none⟩ (.slice Y0 i0 j0)).setCell ⟨q2, 1, none⟩ (.slice Y1 i1 j1)).setCell ⟨q2, 2, none⟩ (.slice Y2 i2 j2)).setCell ⟨q2, 3, none⟩ (.slice Y3 i3 j3)) := ⟨_, rfl⟩
        have N5 : Hid (Blk w5 q2 31 #[.slice Y0 i0 j0, .slice Y1 i1 j1, .slice Y2 i2 j2, .slice Y3 i3 j3]) := Lib.hid (by
          rw [hw5]
          exact (((N4.set_ 0 _).set_ 1 _).set_ 2 _).set_ 3 _)
        rw [← hw5] at DB
        have HW5 := Lib.hid hw5
        clear hw5 N4 t2 b2 u1 u2 u3 u4 c0 c1 c2 c3 s0 s1 s2 s3 s4
        go_upto_region 19 with fail
        rw [← HW5.out]
        clear x0 x1 x2 x3 l0 l1 l2 l3
        have z0 := N5.out.cell 0
        have z1 := N5.out.cell 1
        have z2 := N5.out.cell 2
        have z3 := N5.out.cell 3
        have bx := OR.out.box.below DB.out.2.1 OR.out.box.lt
        have c0 := bx.cell 0
        have c1 := bx.cell 1
        have c2 := bx.cell 2
        have c3 := bx.cell 3
        have g0 := bx.frozen 0
        have g1 := bx.frozen 1
        have g2 := bx.frozen 2
        have g3 := bx.frozen 3
        have FIN := Lib.hid (OR.out.docTurn DB.out.2.1 DB.out.1 DB.out.2.2.1 DB.out.2.2.2.1 DB.out.2.2.2.2.1 DB.out.2.2.2.2.2)
        clear bx
        go_wp2_with fail
        go_roundw
        case rel => exact ⟨k + 1, _, _, _, _, _, _, _, _, _, _, _, _, _, by have := HKN.out; omega, by go_num, FIN, SN⟩
        case measure => have := HKN.out; simp [intOf]; omega
      have k1 : (kd == 1) = false := by simpa using hk1
      by_cases hk2 : kd = 2
      · subst hk2
        rw [stepL_2] at SN
        go_wp2_with fail
        refine (refDelV_any W2 _ _ _ _ d eu P2.out.doc FT.out.1 FT.out.2.1).mono ?_
        generalize d.delE eu = ez
        rintro r w4 ⟨a', b', c', e', rfl, t2, b2, u1, u2, u3, u4⟩
        obtain ⟨Y0, i0, j0, Y1, i1, j1, Y2, i2, j2, Y3, i3, j3, rfl, rfl, rfl, rfl⟩ := t2.sl4
        have DB := Lib.hid (OR.out.docBox (r := .returned (.bool true)) (n := 0) BR.out HQ2.out.1 HQ2.out.2.1 t2 b2 u1 u2 u3 u4)
        have N4 := N2.out.below b2 N2.out.lt
        have x0 := N4.cell 0
        have x1 := N4.cell 1
        have x2 := N4.cell 2
        have x3 := N4.cell 3
        have l0 := N4.frozen 0
        have l1 := N4.frozen 1
        have l2 := N4.frozen 2
        have l3 := N4.frozen 3
        obtain ⟨w5, hw5⟩ : ∃ w5, w5 = ((((w4.setCell ⟨q2, 0, none⟩ (.slice Y0 i0 j0)).setCell ⟨q2, 1, none⟩ (.slice Y1 i1 j1)).setCell ⟨q2, 2, none⟩ (.slice Y2 i2 j2)).setCell ⟨q2, 3, none⟩ (.slice Y3 i3 j3)) := ⟨_, rfl⟩
        have N5 : Hid (Blk w5 q2 31 #[.slice Y0 i0 j0, .slice Y1 i1 j1, .slice Y2 i2 j2, .slice Y3 i3 j3]) := Lib.hid (by
          rw [hw5]
          exact (((N4.set_ 0 _).set_ 1 _).set_ 2 _).set_ 3 _)
        rw [← hw5] at DB
        have HW5 := Lib.hid hw5
        clear hw5 N4 t2 b2 u1 u2 u3 u4 c0 c1 c2 c3 s0 s1 s2 s3 s4
        go_upto_region 19 with fail
        rw [← HW5.out]
        clear x0 x1 x2 x3 l0 l1 l2 l3
        have z0 := N5.out.cell 0
        have z1 := N5.out.cell 1
        have z2 := N5.out.cell 2
        have z3 := N5.out.cell 3
        have bx := OR.out.box.below DB.out.2.1 OR.out.box.lt
        have c0 := bx.cell 0
        have c1 := bx.cell 1
        have c2 := bx.cell 2
        have c3 := bx.cell 3
        have g0 := bx.frozen 0
        have g1 := bx.frozen 1
        have g2 := bx.frozen 2
        have g3 := bx.frozen 3
        have FIN := Lib.hid (OR.out.docTurn DB.out.2.1 DB.out.1 DB.out.2.2.1 DB.out.2.2.2.1 DB.out.2.2.2.2.1 DB.out.2.2.2.2.2)
        clear bx
        go_wp2_with fail
        go_roundw
        case rel => exact ⟨k + 1, _, _, _, _, _, _, _, _, _, _, _, _, _, by have := HKN.out; omega, by go_num, FIN, SN⟩
        case measure => have := HKN.out; simp [intOf]; omega
      have k2 : (kd == 2) = false := by simpa using hk2
      by_cases hk3 : kd = 3
      · subst hk3
        rw [stepL_3] at SN
        go_wp2_with fail
        refine (refLinkW_any W2 _ _ _ _ d id eu ev wt P2.out.doc FT.out.1).mono ?_
        generalize d.linkWE id eu ev wt = ez
        rintro r w4 ⟨a', b', c', e', rfl, t2, b2, u1, u2, u3, u4⟩
        obtain ⟨Y0, i0, j0, Y1, i1, j1, Y2, i2, j2, Y3, i3, j3, rfl, rfl, rfl, rfl⟩ := t2.sl4
        have DB := Lib.hid (OR.out.docBox (r := .returned (.bool true)) (n := 0) BR.out HQ2.out.1 HQ2.out.2.1 t2 b2 u1 u2 u3 u4)
        have N4 := N2.out.below b2 N2.out.lt
        have x0 := N4.cell 0
        have x1 := N4.cell 1
        have x2 := N4.cell 2
        have x3 := N4.cell 3
        have l0 := N4.frozen 0
        have l1 := N4.frozen 1
        have l2 := N4.frozen 2
        have l3 := N4.frozen 3
        obtain ⟨w5, hw5⟩ : ∃ w5, w5 = ((((w4.setCell ⟨q2, 0, none⟩ (.slice Y0 i0 j0)).setCell ⟨q2, 1, none⟩ (.slice Y1 i1 j1)).setCell ⟨q2, 2, none⟩ (.slice Y2 i2 j2)).setCell ⟨q2, 3, none⟩ (.slice Y3 i3 j3)) := ⟨_, rfl⟩
        have N5 : Hid (Blk w5 q2 31 #[.slice Y0 i0 j0, .slice Y1 i1 j1, .slice Y2 i2 j2, .slice Y3 i3 j3]) := Lib.hid (by
          rw [hw5]
          exact (((N4.set_ 0 _).set_ 1 _).set_ 2 _).set_ 3 _)
        rw [← hw5] at DB
        have HW5 := Lib.hid hw5
        clear hw5 N4 t2 b2 u1 u2 u3 u4 c0 c1 c2 c3 s0 s1 s2 s3 s4
        go_upto_region 19 with fail
        rw [← HW5.out]
        clear x0 x1 x2 x3 l0 l1 l2 l3
        have z0 := N5.out.cell 0
        have z1 := N5.out.cell 1
        have z2 := N5.out.cell 2
        have z3 := N5.out.cell 3
        have bx := OR.out.box.below DB.out.2.1 OR.out.box.lt
        have c0 := bx.cell 0
        have c1 := bx.cell 1
        have c2 := bx.cell 2
        have c3 := bx.cell 3
        have g0 := bx.frozen 0
        have g1 := bx.frozen 1
        have g2 := bx.frozen 2
        have g3 := bx.frozen 3
        have FIN := Lib.hid (OR.out.docTurn DB.out.2.1 DB.out.1 DB.out.2.2.1 DB.out.2.2.2.1 DB.out.2.2.2.2.1 DB.out.2.2.2.2.2)
        clear bx
        go_wp2_with fail
        go_roundw
        case rel => exact ⟨k + 1, _, _, _, _, _, _, _, _, _, _, _, _, _, by have := HKN.out; omega, by go_num, FIN, SN⟩
        case measure => have := HKN.out; simp [intOf]; omega
      have k3 : (kd == 3) = false := by simpa using hk3
      by_cases hk4 : kd = 4
      · subst hk4
        rw [stepL_4] at SN
        go_wp2_with fail
        refine (refCut_any W2 _ _ _ _ d id P2.out.doc FT.out.1 FT.out.2.2).mono ?_
        generalize d.cutE id = ez
        rintro r w4 ⟨a', b', c', e', rfl, t2, b2, u1, u2, u3, u4⟩
        obtain ⟨Y0, i0, j0, Y1, i1, j1, Y2, i2, j2, Y3, i3, j3, rfl, rfl, rfl, rfl⟩ := t2.sl4
        have DB := Lib.hid (OR.out.docBox (r := .returned (.bool true)) (n := 0) BR.out HQ2.out.1 HQ2.out.2.1 t2 b2 u1 u2 u3 u4)
        have N4 := N2.out.below b2 N2.out.lt
        have x0 := N4.cell 0
        have x1 := N4.cell 1
        have x2 := N4.cell 2
        have x3 := N4.cell 3
        have l0 := N4.frozen 0
        have l1 := N4.frozen 1
        have l2 := N4.frozen 2
        have l3 := N4.frozen 3
        obtain ⟨w5, hw5⟩ : ∃ w5, w5 = ((((w4.setCell ⟨q2, 0, none⟩ (.slice Y0 i0 j0)).setCell ⟨q2, 1, none⟩ (.slice Y1 i1 j1)).setCell ⟨q2, 2, none⟩ (.slice Y2 i2 j2)).setCell ⟨q2, 3, none⟩ (.slice Y3 i3 j3)) := ⟨_, rfl⟩
        have N5 : Hid (Blk w5 q2 31 #[.slice Y0 i0 j0, .slice Y1 i1 j1, .slice Y2 i2 j2, .slice Y3 i3 j3]) := Lib.hid (by
          rw [hw5]
          exact (((N4.set_ 0 _).set_ 1 _).set_ 2 _).set_ 3 _)
        rw [← hw5] at DB
        have HW5 := Lib.hid hw5
        clear hw5 N4 t2 b2 u1 u2 u3 u4 c0 c1 c2 c3 s0 s1 s2 s3 s4
        go_upto_region 19 with fail
        rw [← HW5.out]
        clear x0 x1 x2 x3 l0 l1 l2 l3
        have z0 := N5.out.cell 0
        have z1 := N5.out.cell 1
        have z2 := N5.out.cell 2
        have z3 := N5.out.cell 3
        have bx := OR.out.box.below DB.out.2.1 OR.out.box.lt
        have c0 := bx.cell 0
        have c1 := bx.cell 1
        have c2 := bx.cell 2
        have c3 := bx.cell 3
        have g0 := bx.frozen 0
        have g1 := bx.frozen 1
        have g2 := bx.frozen 2
        have g3 := bx.frozen 3
        have FIN := Lib.hid (OR.out.docTurn DB.out.2.1 DB.out.1 DB.out.2.2.1 DB.out.2.2.2.1 DB.out.2.2.2.2.1 DB.out.2.2.2.2.2)
        clear bx
        go_wp2_with fail
        go_roundw
        case rel => exact ⟨k + 1, _, _, _, _, _, _, _, _, _, _, _, _, _, by have := HKN.out; omega, by go_num, FIN, SN⟩
        case measure => have := HKN.out; simp [intOf]; omega
      have k4 : (kd == 4) = false := by simpa using hk4
      rw [stepL_0 d hk1 hk2 hk3 hk4] at SN
      have DB : Hid (DocR W2 W2.heap.size (.slice X0 n0 m0) (.slice X1 n1 m1) (.slice X2 n2 m2) (.slice X3 n3 m3) d ∧ Below wr.heap.size wr W2 ∧ OldNew wr (.slice X0 n0 m0) (.slice X0 n0 m0) ∧ OldNew wr (.slice X1 n1 m1) (.slice X1 n1 m1) ∧ OldNew wr (.slice X2 n2 m2) (.slice X2 n2 m2) ∧ OldNew wr (.slice X3 n3 m3) (.slice X3 n3 m3)) := Lib.hid ⟨P2.out.doc, BR.out, .old _ _, .old _ _, .old _ _, .old _ _⟩
      have N5 := N2
      clear c0 c1 c2 c3
      go_upto_region 19 with fail
      clear s0 s1 s2 s3 s4
      have z0 := N5.out.cell 0
      have z1 := N5.out.cell 1
      have z2 := N5.out.cell 2
      have z3 := N5.out.cell 3
      have bx := OR.out.box.below DB.out.2.1 OR.out.box.lt
      have c0 := bx.cell 0
      have c1 := bx.cell 1
      have c2 := bx.cell 2
      have c3 := bx.cell 3
      have g0 := bx.frozen 0
      have g1 := bx.frozen 1
      have g2 := bx.frozen 2
      have g3 := bx.frozen 3
      have FIN := Lib.hid (OR.out.docTurn DB.out.2.1 DB.out.1 DB.out.2.2.1 DB.out.2.2.2.1 DB.out.2.2.2.2.1 DB.out.2.2.2.2.2)
      clear bx
      go_wp2_with fail
      go_roundw
      case rel => exact ⟨k + 1, _, _, _, _, _, _, _, _, _, _, _, _, _, by have := HKN.out; omega, by go_num, FIN, SN⟩
      case measure => have := HKN.out; simp [intOf]; omega
    · obtain rfl : k = n := by omega
      have hkd : decide ((k : Int) < (k : Int)) = false := by simp
      have BS : Hid (BesL F d) := Lib.hid (by
        have := SH.out
        rw [List.take_of_length_le (by have := HN.out; omega), ← HFE.out] at this
        exact this)
      clear SH
      have HD := Lib.hid OR.out.doc
      obtain ⟨A0, e0, h0, -, -, -, -⟩ := HD.out.vs.open_
      obtain ⟨A1, e1, h1, -, -, -, -⟩ := HD.out.es.open_
      injection h0 with i1 i2 i3
      injection h1 with j1 j2 j3
      obtain ⟨nv, hnv⟩ : ∃ n, n = d.vs.length := ⟨_, rfl⟩
      obtain ⟨ne, hne⟩ : ∃ n, n = d.es.length := ⟨_, rfl⟩
      rw [← hnv] at i2
      rw [← hne] at j2
      subst i1 i2 i3 j1 j2 j3
      have HNV := Lib.hid hnv
      have HNE := Lib.hid hne
      have hfit := BS.out.fit HFO.out
      have hnv2 : n0 ≤ 4096 := by have := hfit.1.nv; omega
      have hne2 : n1 ≤ 8192 := by have := hfit.1.ne; omega
      have OV : Hid (Ord w wr f F g (gV d.vs n0) p d (.slice X0 n0 m0) (.slice X1 n1 m1) (.slice X2 n2 m2) (.slice X3 n3 m3)) := Lib.hid (by
        rw [HNV.out, (g_start d.vs d.es).1]
        have := OR.out
        rw [HNV.out] at this
        exact this)
      obtain ⟨c0, c1, c2, c3⟩ := OV.out.four
      clear OR HD hnv hne hfit
      go_wp2_with fail
      clear c0 c1 c2 c3
      go_loopw [13] (fun i wr => ∃ (j : Nat) (x : Int), j ≤ n0 ∧ i = .int .i64 x ∧ x = (j : Int) - 1 ∧ Hid (Ord w wr f F g (gV d.vs j) p d (.slice X0 n0 m0) (.slice X1 n1 m1) (.slice X2 n2 m2) (.slice X3 n3 m3))) (fun i _ => (intOf i + 1).toNat)
      case atStart => exact ⟨n0, (n0 : Int) - 1, Nat.le_refl _, by go_num, rfl, OV⟩
      case round =>
        clear OV
        obtain ⟨j, x, hj, rfl, hx, OV⟩ := hrel
        obtain ⟨c0, c1, c2, c3⟩ := OV.out.four
        cases j with
        | succ j =>
          have hx2 : x = (j : Int) := by omega
          clear hx
          subst hx2
          have hjv : j < d.vs.length := by have := HNV.out; omega
          obtain ⟨Az, cz, h0, -, -, -, HCV⟩ := OV.out.doc.vs.open_
          injection h0 with h0 hl2 hl3
          clear hl2 hl3
          obtain ⟨b1, o1, e1, hb, hy⟩ := HCV j hjv
          have e1 : X0 = some ⟨b1, o1, none⟩ := h0.trans e1
          subst e1
          have y0 := hy 0 _ rfl
          rw [Nat.add_zero, Nat.mul_one] at y0
          have hin : 1 ≤ d.vs[j] ∧ d.vs[j] ≤ 2147483647 := HFO.out.ids _ ((BS.out.vm _).1 (List.getElem_mem hjv))
          obtain ⟨z1, z2⟩ := gV_step hjv BS.out.vnd (by have := (BS.out.vperm HFO.out).length_eq; have := HFO.out.few; omega) hin
          have ca := oAdd OV.out d.vs[j] (I64_of hin)
          rw [z1, z2] at ca
          obtain ⟨y, hyy⟩ : ∃ y, y = d.vs[j] := ⟨_, rfl⟩
          rw [← hyy] at ca y0
          have CA := Lib.hid ca
          have hjn : (j : Int) < (n0 : Int) := by omega
          have hge : decide ((0 : Int) ≤ (j : Int)) = true := by simp
          
          clear h0 HCV hb hy hin z1 z2 ca hyy hjv
          go_wp2_with fail
          refine CA.out.mono ?_
          rintro r w5 ⟨rfl, o5⟩
          have O5 := Lib.hid o5
          clear o5 y0
          go_wp2_with fail
          go_roundw
          case rel => exact ⟨j, (j : Int) - 1, by omega, by go_num, rfl, O5⟩
          case measure => simp [intOf]
        | zero =>
          have hx2 : x = -1 := by omega
          clear hx
          subst hx2
          have OE : Hid (Ord w wr f F g (gE d.vs d.es n1) p d (.slice X0 n0 m0) (.slice X1 n1 m1) (.slice X2 n2 m2) (.slice X3 n3 m3)) := Lib.hid (by
            have := OV.out
            rw [(g_start d.vs d.es).2, ← HNE.out] at this
            exact this)
          clear OV
          go_wp2_with fail
          clear c0 c1 c2 c3
          go_loopw [14] (fun i wr => ∃ (j : Nat) (x : Int), j ≤ n1 ∧ i = .int .i64 x ∧ x = (j : Int) - 1 ∧ Hid (Ord w wr f F g (gE d.vs d.es j) p d (.slice X0 n0 m0) (.slice X1 n1 m1) (.slice X2 n2 m2) (.slice X3 n3 m3))) (fun i _ => (intOf i + 1).toNat)
          case atStart => exact ⟨n1, (n1 : Int) - 1, Nat.le_refl _, by go_num, rfl, OE⟩
          case round =>
            clear OE
            obtain ⟨j, x, hj, rfl, hx, OE⟩ := hrel
            obtain ⟨c0, c1, c2, c3⟩ := OE.out.four
            cases j with
            | succ j =>
              have hx2 : x = (j : Int) := by omega
              clear hx
              subst hx2
              have hje : j < d.es.length := by have := HNE.out; omega
              obtain ⟨Az, cz, h0, -, -, -, HCE⟩ := OE.out.doc.es.open_
              injection h0 with h0 hl2 hl3
              clear hl2 hl3
              obtain ⟨b1, o1, e1, hb, hy⟩ := HCE j hje
              have e1 : X1 = some ⟨b1, o1, none⟩ := h0.trans e1
              subst e1
              obtain ⟨z1, z2⟩ := gE_step HFO.out BS.out.vm BS.out.em BS.out.idn hje
              have hm := (BS.out.em _).1 (List.getElem_mem hje)
              obtain ⟨k1, k2, -⟩ := HFO.out.ends _ hm
              obtain ⟨l1, l2, l3⟩ := HFO.out.eids _ hm
              have i1 := I64_of ⟨l1, l2⟩
              have i2 := I64_of (HFO.out.ids _ k1)
              have i3 := I64_of (HFO.out.ids _ k2)
              obtain ⟨y, hyy⟩ : ∃ y, y = d.es[j] := ⟨_, rfl⟩
              rw [← hyy] at hy z1 z2 i1 i2 i3 l3
              obtain ⟨yi, yu, yv, yw⟩ := y
              obtain ⟨y0, y1, y2, y3⟩ := cellD hy
              dsimp only at y0 y1 y2 y3 z1 z2 i1 i2 i3 l3
              have HZ := Lib.hid (And.intro z1 z2)
              have HI1 := Lib.hid i1
              have HI2 := Lib.hid i2
              have HI3 := Lib.hid i3
              have HI4 : Hid (I64 (yw : Int)) := Lib.hid (by unfold I64; omega)
              have hjn : (j : Int) < (n1 : Int) := by omega
              have hge : decide ((0 : Int) ≤ (j : Int)) = true := by simp
              
              obtain ⟨W1, hW1⟩ : ∃ W1, W1 = wr.alloc (.cells #[.int .i64 yi, .int .i64 yu, .int .i64 yv, .int .i64 (yw : Int)] 33) := ⟨_, rfl⟩
              obtain ⟨q, hq⟩ : ∃ q, q = wr.heap.size := ⟨_, rfl⟩
              have hbw : Below wr.heap.size wr W1 := by rw [hW1]; exact (Below.refl _ _).alloc (Nat.le_refl _) _
              have N1 : Hid (Blk W1 q 33 #[.int .i64 yi, .int .i64 yu, .int .i64 yv, .int .i64 (yw : Int)]) := Lib.hid (by rw [hW1, hq]; exact Blk.new _ _ _)
              obtain ⟨W2, hW2⟩ : ∃ W2, W2 = W1.alloc (.cells #[.int .i64 yi, .int .i64 yv, .int .i64 yu, .int .i64 (yw : Int)] 33) := ⟨_, rfl⟩
              obtain ⟨q2, hq2⟩ : ∃ q2, q2 = W1.heap.size := ⟨_, rfl⟩
              have hbw2 : Below W1.heap.size W1 W2 := by rw [hW2]; exact (Below.refl _ _).alloc (Nat.le_refl _) _
              have N2 : Hid (Blk W2 q2 33 #[.int .i64 yi, .int .i64 yv, .int .i64 yu, .int .i64 (yw : Int)]) := Lib.hid (by rw [hW2, hq2]; exact Blk.new _ _ _)
              have N12 := Lib.hid (N1.out.below hbw2 N1.out.lt)
              have P2 := Lib.hid (OE.out.below (hbw.trans (hbw2.mono hbw.size)))
              have HW1 := Lib.hid hW1
              have HQ := Lib.hid hq
              have HW2 := Lib.hid hW2
              have HQ2 := Lib.hid hq2
              have z0 := N1.out.cell 0
              have z1 := N1.out.cell 1
              have z2 := N1.out.cell 2
              have z3 := N1.out.cell 3
              clear h0 HCE hb hy hm k1 k2 l1 l2 l3 i1 i2 i3 hyy hje hW1 hq hbw hW2 hq2 hbw2 OE
              go_upto_region 30 with fail
              rw [← HW1.out]
              try simp only [← HQ.out]
              go_upto_region 31 with fail
              rw [← HW2.out]
              try simp only [← HQ2.out]
              clear z0 z1 z2 z3 y0 y1 y2 y3 c0 c1 c2 c3
              have v0 := N2.out.cell 0
              have v1 := N2.out.cell 1
              have v2 := N2.out.cell 2
              have v3 := N2.out.cell 3
              have CL := oLink P2.out yi yv yu (yw : Int) HI1.out HI3.out HI2.out HI4.out
              rw [HZ.out.1, HZ.out.2] at CL
              have HCL := Lib.hid CL
              clear CL
              go_wp2_with fail
              refine HCL.out.mono ?_
              rintro r w5 ⟨rfl, o5, t5⟩
              have N5 := Lib.hid (t5.blk N12.out notL_E)
              have O5 := Lib.hid o5
              have u1 := N5.out.cell 1
              clear o5 t5 v0 v1 v2 v3
              go_wp2_with fail
              refine (oAlong O5.out yu u HI2.out HU.out).mono ?_
              rintro r w6 ⟨rfl, o6⟩
              have O6 := Lib.hid o6
              clear o6 u1
              go_wp2_with fail
              go_roundw
              case rel => exact ⟨j, (j : Int) - 1, by omega, by go_num, rfl, O6⟩
              case measure => simp [intOf]
            | zero =>
              have hx2 : x = -1 := by omega
              clear hx
              subst hx2
              have DU := Lib.hid OE.out.duo
              obtain ⟨G, hG⟩ : ∃ G, G = gE d.vs d.es 0 := ⟨_, rfl⟩
              rw [← hG] at DU
              have hGok := DU.out.ok.2
              obtain ⟨a1, a2, a3, a4⟩ := flip_along HFO.out hGok (fun x => by rw [hG]; unfold gE; simp only [List.mem_reverse]; exact (BS.out.vm x).symm) (fun x => by
                rw [hG]
                unfold gE
                simp only [List.mem_reverse, List.drop_zero, List.mem_map]
                exact ⟨fun hx => ⟨x, (BS.out.em x).2 hx, rfl⟩, fun ⟨y, hy, hxy⟩ => by rw [← flip_inj hxy]; exact (BS.out.em y).1 hy⟩) u v
              obtain ⟨m0, s0, k0, em0, es0, ek0, ls0, lk0, ev0⟩ := HFO.out.along_open u v
              have evG : G.alongV u v = .agg #[.int .i64 m0.id, .int .i64 m0.v, .int .i64 m0.u, .int .i64 (m0.w : Int), .complex .f64 (fl s0) (fl k0)] := by
                unfold LF.alongV
                rw [a2, a3, a4, ← em0, ← es0, ← ek0]
                rfl
              obtain ⟨g0, hg0⟩ : ∃ g, g = F.alongX u v := ⟨_, rfl⟩
              have egx := a1.trans hg0.symm
              have lv : (G.vs.length : Int) = (F.vs.length : Int) := by
                have := (BS.out.vperm HFO.out).length_eq
                rw [hG]; unfold gE
                rw [List.length_reverse, this]
              have le : (G.es.length : Int) = (F.es.length : Int) := by
                have := (BS.out.eperm HFO.out).length_eq
                rw [hG]; unfold gE
                rw [List.length_reverse, List.length_map, List.drop_zero, this]
              have E0 := Lib.hid ev0
              have EG := Lib.hid evG
              have X0' := Lib.hid hg0
              have XG := Lib.hid egx
              have LV := Lib.hid lv
              have LE := Lib.hid le
              have hec := run_eqCC (a := s0) (b := k0) (by omega) (by omega)
              obtain ⟨nF, hnF⟩ : ∃ n : Nat, n = F.vs.length := ⟨_, rfl⟩
              obtain ⟨nG, hnG⟩ : ∃ n : Nat, n = F.es.length := ⟨_, rfl⟩
              have NF := Lib.hid hnF
              have NG := Lib.hid hnG
              clear OE hG hGok a1 a2 a3 a4 em0 es0 ek0 ev0 evG hg0 egx lv le hnF hnG c0 c1 c2 c3
              go_wp2_with fail
              refine (DU.out.along u v HU.out HV.out).mono ?_
              rw [E0.out, ← X0'.out]
              rintro r w5 ⟨rfl, d5, t5⟩
              obtain ⟨pA, hp⟩ : ∃ p, p = w5.heap.size := ⟨_, rfl⟩
              obtain ⟨w6, hw⟩ : ∃ W, W = w5.alloc (.cells #[.int .i64 m0.id, .int .i64 m0.u, .int .i64 m0.v, .int .i64 (m0.w : Int), .complex .f64 (fl s0) (fl k0)] 48) := ⟨_, rfl⟩
              have hb6 : Below w5.heap.size w5 w6 := by rw [hw]; exact (Below.refl _ _).alloc (Nat.le_refl _) _
              have K6 : Hid (Blk w6 pA 48 #[.int .i64 m0.id, .int .i64 m0.u, .int .i64 m0.v, .int .i64 (m0.w : Int), .complex .f64 (fl s0) (fl k0)]) := Lib.hid (by rw [hw, hp]; exact Blk.new _ _ _)
              have D6 := Lib.hid (d5.below hb6).symm
              have HPA := Lib.hid hp
              have HWA := Lib.hid hw
              clear d5 t5 hp hw hb6
              go_wp2_with fail
              rw [← HWA.out]
              try simp only [← HPA.out]
              refine (D6.out.along u v HU.out HV.out).mono ?_
              rw [EG.out, XG.out]
              rintro r w7 ⟨rfl, d7, t7⟩
              obtain ⟨pB, hp⟩ : ∃ p, p = w7.heap.size := ⟨_, rfl⟩
              obtain ⟨w8, hw⟩ : ∃ W, W = w7.alloc (.cells #[.int .i64 m0.id, .int .i64 m0.v, .int .i64 m0.u, .int .i64 (m0.w : Int), .complex .f64 (fl s0) (fl k0)] 48) := ⟨_, rfl⟩
              have hb8 : Below w7.heap.size w7 w8 := by rw [hw]; exact (Below.refl _ _).alloc (Nat.le_refl _) _
              have KA7 := t7.blk K6.out notL_A
              have KA8 := Lib.hid (KA7.below hb8 KA7.lt)
              have KB8 : Hid (Blk w8 pB 48 #[.int .i64 m0.id, .int .i64 m0.v, .int .i64 m0.u, .int .i64 (m0.w : Int), .complex .f64 (fl s0) (fl k0)]) := Lib.hid (by rw [hw, hp]; exact Blk.new _ _ _)
              have D8 := Lib.hid (d7.below hb8)
              have HPB := Lib.hid hp
              have HWB := Lib.hid hw
              clear d7 t7 hp hw hb8 KA7
              go_wp2_with fail
              rw [← HWB.out]
              try simp only [← HPB.out]
              refine D8.out.symm.len.mono ?_
              rw [← NF.out, ← NG.out]
              rintro r w9 ⟨rfl, b9⟩
              have D9 := Lib.hid (D8.out.below b9)
              have KA9 := Lib.hid (KA8.out.below b9 KA8.out.lt)
              have KB9 := Lib.hid (KB8.out.below b9 KB8.out.lt)
              clear b9
              go_wp2_with fail
              refine D9.out.len.mono ?_
              rw [LV.out, LE.out, ← NF.out, ← NG.out]
              rintro r w10 ⟨rfl, b10⟩
              have KA := KA9.out.below b10 KA9.out.lt
              have KB := KB9.out.below b10 KB9.out.lt
              have TE := Lib.hid (D9.out.below b10).low
              have p0 := KA.cell 0
              have p1 := KA.cell 1
              have p2 := KA.cell 2
              have p3 := KA.cell 3
              have p4 := KA.cell 4
              have r0 := KB.cell 0
              have r1 := KB.cell 1
              have r2 := KB.cell 2
              have r3 := KB.cell 3
              have r4 := KB.cell 4
              clear b10 KA KB
              go_wp2_with fail
              go_ret
              exact ⟨rfl, TE.out⟩

end Go.Proofs.Ytlhkajlkapoabaa

/-
  A trail from one vertex to another in a forest is the path between them; what a search from an edge to the next keeps.
-/
namespace Go.Proofs.Ytlhkajlkapoabaa
open Go.RowKit Go.Maps
set_option linter.unusedVariables false

/-- The other end. -/
def Eg.far (e : Eg) (x : Int) : Int := if e.u = x then e.v else e.u

theorem Eg.far_far {e : Eg} {x : Int} (h : e.u = x ∨ e.v = x) : e.far (e.far x) = x := by
  unfold Eg.far
  by_cases h1 : e.u = x
  · rw [if_pos h1]
    by_cases h2 : e.u = e.v
    · rw [if_pos h2, ← h2, h1]
    · rw [if_neg h2, h1]
  · have h3 := h.resolve_left h1
    rw [if_neg h1, if_pos rfl, h3]

theorem Eg.far_end {e : Eg} {x : Int} (h : e.u = x ∨ e.v = x) : e.u = e.far x ∨ e.v = e.far x := by
  unfold Eg.far
  by_cases h1 : e.u = x
  · rw [if_pos h1]; exact .inr rfl
  · rw [if_neg h1]; exact .inl rfl

theorem Eg.far_or {e : Eg} {x y : Int} (h : e.u = x ∨ e.v = x) (hy : e.u = y ∨ e.v = y) : y = x ∨ y = e.far x := by
  unfold Eg.far
  by_cases h1 : e.u = x
  · rw [if_pos h1]
    rcases hy with h2 | h2
    · exact .inl (h2.symm.trans h1)
    · exact .inr h2.symm
  · rw [if_neg h1]
    have h3 := h.resolve_left h1
    rcases hy with h2 | h2
    · exact .inr h2.symm
    · exact .inl (h2.symm.trans h3)

/-- A trail of edges. -/
inductive Trl (es : List Eg) (u : Int) : Int → List Eg → Prop
  | nil : Trl es u u []
  | snoc {a : Int} {p : List Eg} {e : Eg} : Trl es u a p → e ∈ es → (e.u = a ∨ e.v = a) → Trl es u (e.far a) (p ++ [e])

section

variable {es : List Eg} {u v a b : Int} {p q : List Eg} {e : Eg} {us : List Int}

theorem Trl.sub (h : Trl es u a p) : ∀ e ∈ p, e ∈ es := by
  induction h with
  | nil => intro e he; cases he
  | snoc _ h1 _ ih =>
    intro e he
    rcases List.mem_append.1 he with he | he
    · exact ih e he
    · rw [List.mem_singleton.1 he]; exact h1

theorem Trl.inv (h : Trl es u b q) : (q = [] → b = u) ∧ ∀ p e, q = p ++ [e] → ∃ a, Trl es u a p ∧ e ∈ es ∧ (e.u = a ∨ e.v = a) ∧ b = e.far a := by
  cases h with
  | nil => exact ⟨fun _ => rfl, fun p e he => by simp at he⟩
  | @snoc a p' e' h1 h2 h3 =>
    refine ⟨fun he => by simp at he, fun p e he => ?_⟩
    obtain ⟨e1, e2⟩ := List.append_inj' he rfl
    injection e2 with e2
    subst e1 e2
    exact ⟨a, h1, h2, h3, rfl⟩

/-- A vertex on a trail. -/
def OnP (u : Int) (p : List Eg) (x : Int) : Prop := x = u ∨ ∃ e ∈ p, e.u = x ∨ e.v = x

theorem Trl.on (h : Trl es u a p) : OnP u p a := by
  cases h with
  | nil => exact .inl rfl
  | snoc _ _ h3 => exact .inr ⟨_, List.mem_append_right _ (List.mem_singleton.2 rfl), Eg.far_end h3⟩

theorem OnP.more {x : Int} {q : List Eg} (h : OnP u p x) (hs : ∀ e ∈ p, e ∈ q) : OnP u q x := h.imp id fun ⟨e, he, h⟩ => ⟨e, hs e he, h⟩

theorem Trl.join {F : LF} (h : Trl es u a p) (hs : ∀ e ∈ es, e ∈ F.es) : F.Join u a := by
  induction h with
  | nil => exact .refl
  | @snoc a p e _ h2 h3 ih =>
    rcases Eg.far_or h3 (.inl rfl) with h4 | h4
    · rcases Eg.far_or h3 (.inr rfl) with h5 | h5
      · have h6 : e.far a = e.u := by rw [h4]; unfold Eg.far; rw [if_pos h4, h5]; 
        rw [h6, h4]; exact ih
      · exact .step ih ⟨e, hs e h2, .inl ⟨h4, h5⟩⟩
    · rcases Eg.far_or h3 (.inr rfl) with h5 | h5
      · exact .step ih ⟨e, hs e h2, .inr ⟨h4, h5⟩⟩
      · have h6 : e.far a = a := by
          rcases h3 with h3 | h3
          · rw [← h4, h3]
          · rw [← h5, h3]
        rw [h6]; exact ih

/-- In a forest an edge is on a trail just if its ends are apart without it. -/
theorem Trl.on_iff {F : LF} (hF : F.Ok) (h : Trl F.es u b q) (hn : (ids q).Nodup) {x : Eg} (hx : x ∈ F.es) : x ∈ q ↔ ¬ (F.less x.id).Join u b := by
  induction h with
  | nil => exact ⟨fun hh => (nomatch hh), fun hh => absurd (LF.Join.refl) hh⟩
  | @snoc a p e h1 h2 h3 ih =>
    unfold ids at hn
    rw [List.map_append] at hn
    have hn1 := (List.nodup_append.1 hn).1
    have hn2 := (List.nodup_append.1 hn).2.2
    have ih := ih hn1
    by_cases he : x = e
    · subst he
      refine ⟨fun _ hj => ?_, fun _ => List.mem_append_right _ (List.mem_singleton.2 rfl)⟩
      have hp : x ∉ p := fun hm => hn2 x.id (List.mem_map.2 ⟨_, hm, rfl⟩) x.id (List.mem_singleton.2 rfl) rfl
      have h4 : (F.less x.id).Join u a := by
        by_cases hj : (F.less x.id).Join u a
        · exact hj
        · exact absurd (ih.2 hj) hp
      have h5 := h4.symm.trans hj
      refine hF.tree x hx ?_
      rcases h3 with h3 | h3
      · rw [show x.far a = x.v by unfold Eg.far; rw [if_pos h3], ← h3] at h5; exact h5
      · by_cases h6 : x.u = a
        · rw [show x.far a = x.v by unfold Eg.far; rw [if_pos h6], ← h6] at h5; exact h5
        · rw [show x.far a = x.u by unfold Eg.far; rw [if_neg h6], ← h3] at h5; exact h5.symm
    · have hid : e.id ≠ x.id := fun hh => he (hF.one hx e h2 hh).symm
      have hj : (F.less x.id).Join a (e.far a) := (Trl.snoc (es := (F.less x.id).es) .nil (LF.mem_less.2 ⟨h2, hid⟩) h3).join fun _ h => h
      rw [List.mem_append, List.mem_singleton, or_iff_left he, ih]
      exact not_congr ⟨fun h => h.trans hj, fun h => h.trans hj.symm⟩

theorem Trl.mono {es' : List Eg} (h : Trl es u a p) (hs : ∀ e ∈ es, e ∈ es') : Trl es' u a p := by
  induction h with
  | nil => exact .nil
  | snoc _ h2 h3 ih => exact .snoc ih (hs _ h2) h3

/-- A trail in a forest is the path. -/
theorem Trl.path {F : LF} (hF : F.Ok) (hu : u ∈ F.vs) (hv : v ∈ F.vs) (h : Trl F.es u v q) (hn : (ids q).Nodup) : q.Perm (F.path u v) := by
  have hj := h.join (F := F) fun _ h => h
  refine (List.perm_ext_iff_of_nodup ?_ hF.path_nd).2 fun x => ?_
  · exact (List.pairwise_map.1 (show (q.map Eg.id).Nodup from hn)).imp fun hne e => hne (by rw [e])
  · rw [LF.mem_path]
    constructor
    · exact fun hx => ⟨⟨hu, hv, hj⟩, h.sub x hx, (h.on_iff hF hn (h.sub x hx)).1 hx⟩
    · exact fun ⟨_, h1, h2⟩ => (h.on_iff hF hn h1).2 h2

/-- A vertex that the search has met. -/
def Met (es : List Eg) (u : Int) (us : List Int) (x : Int) : Prop := x = u ∨ ∃ e ∈ es, e.id ∈ us ∧ (e.u = x ∨ e.v = x)

/-- All edges at a vertex are used. -/
def Done (es : List Eg) (us : List Int) (x : Int) : Prop := ∀ e ∈ es, (e.u = x ∨ e.v = x) → e.id ∈ us

/-- What the search keeps. -/
structure Dfs (es : List Eg) (u v a : Int) (p : List Eg) (us : List Int) : Prop where
  trl : Trl es u a p
  nd : (ids p).Nodup
  sub : ∀ e ∈ p, e.id ∈ us
  und : us.Nodup
  usd : ∀ i ∈ us, i ∈ ids es
  seen : ∀ x, Met es u us x → OnP u p x ∨ Done es us x
  goal : Met es u us v → a = v

theorem dfs_start (es : List Eg) (u v : Int) : Dfs es u v u [] [] :=
  ⟨.nil, (by simp [ids]), fun e he => (nomatch he), List.nodup_nil, fun e he => (nomatch he), fun x hx => .inl (.inl (hx.elim id fun ⟨e, _, h, _⟩ => (nomatch h))), fun hx => hx.elim Eq.symm fun ⟨e, _, h, _⟩ => (nomatch h)⟩

theorem Dfs.push (h : Dfs es u v a p us) (hn : (ids es).Nodup) (hav : a ≠ v) (he : e ∈ es) (hea : e.u = a ∨ e.v = a) (hu : e.id ∉ us) : Dfs es u v (e.far a) (p ++ [e]) (us ++ [e.id]) := by
  have one : ∀ x ∈ es, x.id = e.id → x = e := fun x hx hid => one_of_nodup hn x hx e he hid
  have inl : ∀ {i : Int}, i ∈ us → i ∈ us ++ [e.id] := fun hi => List.mem_append_left _ hi
  have old : ∀ x, Met es u (us ++ [e.id]) x → Met es u us x ∨ (e.u = x ∨ e.v = x) := by
    rintro x (hx | ⟨e', h1, h2, h3⟩)
    · exact .inl (.inl hx)
    · rcases List.mem_append.1 h2 with h2 | h2
      · exact .inl (.inr ⟨e', h1, h2, h3⟩)
      · have := one e' h1 (List.mem_singleton.1 h2)
        subst this
        exact .inr h3
  refine ⟨.snoc h.trl he hea, ?_, ?_, ?_, ?_, ?_, ?_⟩
  · unfold ids
    rw [List.map_append]
    refine List.nodup_append.2 ⟨h.nd, by simp, fun x hx y hy hxy => ?_⟩
    rw [List.mem_singleton.1 hy] at hxy
    obtain ⟨z, hz, hz2⟩ := List.mem_map.1 hx
    exact hu (by rw [← hxy, ← hz2]; exact h.sub z hz)
  · intro x hx
    rcases List.mem_append.1 hx with hx | hx
    · exact inl (h.sub x hx)
    · rw [List.mem_singleton.1 hx]; exact List.mem_append_right _ (List.mem_singleton.2 rfl)
  · exact List.nodup_append.2 ⟨h.und, by simp, fun x hx y hy hxy => hu (by rw [List.mem_singleton.1 hy] at hxy; exact hxy ▸ hx)⟩
  · intro i hi
    rcases List.mem_append.1 hi with hi | hi
    · exact h.usd i hi
    · rw [List.mem_singleton.1 hi]; exact List.mem_map.2 ⟨_, he, rfl⟩
  · intro x hx
    rcases old x hx with hx | hx
    · rcases h.seen x hx with h1 | h1
      · exact .inl (h1.more fun _ hh => List.mem_append_left _ hh)
      · exact .inr fun e' h2 h3 => inl (h1 e' h2 h3)
    · exact .inl (.inr ⟨e, List.mem_append_right _ (List.mem_singleton.2 rfl), hx⟩)
  · intro hx
    rcases old v hx with hx | hx
    · exact absurd (h.goal hx) hav
    · rcases Eg.far_or hea hx with h1 | h1
      · exact absurd h1.symm hav
      · exact h1.symm

theorem Dfs.pop (h : Dfs es u v a (p ++ [e]) us) (hav : a ≠ v) (hd : Done es us a) : Dfs es u v (e.far a) p us := by
  obtain ⟨b, h1, h2, h3, rfl⟩ := h.trl.inv.2 p e rfl
  rw [Eg.far_far h3]
  have hn := h.nd
  unfold ids at hn
  rw [List.map_append] at hn
  refine ⟨h1, (List.nodup_append.1 hn).1, fun x hx => h.sub x (List.mem_append_left _ hx), h.und, h.usd, fun x hx => ?_, fun hx => absurd (h.goal hx) hav⟩
  rcases h.seen x hx with (h4 | ⟨e', h4, h5⟩) | h4
  · exact .inl (.inl h4)
  · rcases List.mem_append.1 h4 with h4 | h4
    · exact .inl (.inr ⟨e', h4, h5⟩)
    · rw [List.mem_singleton.1 h4] at h5
      rcases Eg.far_or h3 h5 with rfl | rfl
      · exact .inl h1.on
      · exact .inr hd
  · exact .inr h4

theorem Dfs.no (h : Dfs es u v a [] us) (hav : a ≠ v) (hd : Done es us a) : ¬ Conn es u v := by
  intro hc
  have ha := h.trl.inv.1 rfl
  subst ha
  have all : ∀ x, Met es a us x → Done es us x := by
    intro x hx
    rcases h.seen x hx with (h4 | ⟨e', h4, -⟩) | h4
    · rw [h4]; exact hd
    · cases h4
    · exact h4
  refine hav (h.goal ?_)
  refine LF.Join.inv (F := ⟨[], es⟩) (T := Met es a us) hc (.inl rfl) fun e he => ⟨fun hh => ?_, fun hh => ?_⟩
  · exact .inr ⟨e, he, all _ hh e he (.inl rfl), .inr rfl⟩
  · exact .inr ⟨e, he, all _ hh e he (.inr rfl), .inl rfl⟩

theorem nodup_sub_len : ∀ {xs ys : List Int}, xs.Nodup → (∀ i ∈ xs, i ∈ ys) → xs.length ≤ ys.length
  | [], ys, _, _ => Nat.zero_le _
  | x :: xs, ys, h, hs => by
    obtain ⟨h1, h2⟩ := List.nodup_cons.1 h
    have h3 := nodup_sub_len (ys := ys.erase x) h2 fun i hi => (List.mem_erase_of_ne (fun e => h1 (by rw [← e]; exact hi))).2 (hs i (List.mem_cons_of_mem _ hi))
    have h4 := hs x List.mem_cons_self
    rw [List.length_erase_of_mem h4] at h3
    have := List.length_pos_of_mem h4
    simp only [List.length_cons]
    omega

theorem Dfs.lens (h : Dfs es u v a p us) : us.length ≤ es.length ∧ p.length ≤ es.length := by
  have h1 := nodup_sub_len h.und h.usd
  have h2 := nodup_sub_len h.nd (ys := us) fun i hi => by obtain ⟨e, he, rfl⟩ := List.mem_map.1 hi; exact h.sub e he
  simp only [ids, List.length_map] at h1 h2
  omega

end

end Go.Proofs.Ytlhkajlkapoabaa

/-
  An edge's other end; a row that loses its last.
-/
namespace Go.Proofs.Ytlhkajlkapoabaa
open Go.RowKit Go.Maps
set_option linter.unusedVariables false

/-- A slice's length. -/
def lenV : Value → Nat
  | .slice _ n _ => n
  | _ => 0

theorem OK.shrink {α : Type} {enc : α → List Value} {k E : Nat} (hk : ∀ x, (enc x).length = k) {w : World} {B fb fc m : Nat} {xs : List α} (h : OK enc k E w B (.slice (some ⟨fb, 0, none⟩) (m + 1) fc) xs) : OK enc k E w B (.slice (some ⟨fb, 0, none⟩) m fc) xs.dropLast := by
  obtain ⟨o1, o2, o3⟩ := h
  rcases o3 with ⟨e, _⟩ | ⟨q, c0, cur, e, r1, r2, r3, r4, r5, r6⟩
  · cases e
  · injection e with e1 e2 e3
    injection e1 with e1
    injection e1 with e1
    subst e1 e3
    have hl : xs.dropLast.length = m := by simp; omega
    have hle : m * k ≤ xs.length * k := Nat.mul_le_mul_right k (by omega)
    refine ⟨by rw [hl]; omega, by rw [flat_len hk], .inr ⟨fb, fc, cur, by rw [hl], r1, r2, by rw [hl]; omega, r4, r5, ?_⟩⟩
    have hne : xs ≠ [] := by rintro rfl; simp at e2
    have hx : xs = xs.dropLast ++ [xs.getLast hne] := (List.dropLast_concat_getLast hne).symm
    have e9 : (cur.toList.take (xs.length * k)).take (m * k) = cur.toList.take (m * k) := by rw [List.take_take]; congr 1; omega
    rw [hl, ← e9, r6]
    conv => lhs; rw [hx]
    rw [List.flatMap_append, List.take_append_of_le_length (by rw [flat_len hk, hl]; exact Nat.le_refl _), List.take_of_length_le (by rw [flat_len hk, hl]; exact Nat.le_refl _)]

set_option maxRecDepth 100000 in
set_option maxHeartbeats 2000000 in
theorem other06_any (w : World) (e : Eg) (x : Int) :
    Calls Try.prog 44 #[edV e, .int .i64 x] w fun r w' => r = .returned (.int .i64 (e.far x)) ∧ Below w.heap.size w w' := by
  obtain ⟨i, u, v, wt⟩ := e
  unfold edV Eg.far
  dsimp only
  by_cases h : u = x
  · rw [if_pos h]
    subst h
    have hid : (u == u) = true := by simp
    go_enter Try.func44, Try.ntmps44
    go_wp2_with fail
    go_ret
    exact ⟨rfl, (Below.refl _ _).alloc (Nat.le_refl _) _⟩
  · rw [if_neg h]
    have hid : (u == x) = false := by simpa using h
    clear h
    go_enter Try.func44, Try.ntmps44
    go_wp2_with fail
    go_ret
    exact ⟨rfl, (Below.refl _ _).alloc (Nat.le_refl _) _⟩

end Go.Proofs.Ytlhkajlkapoabaa

/-
  Layer 6's Way: a search for a trail.
-/
namespace Go.Proofs.Ytlhkajlkapoabaa
open Go.RowKit Go.Maps
set_option linter.unusedVariables false

/-- An edge that the search may take. -/
def Cand (us : List Int) (a : Int) (e : Eg) : Prop := (e.u = a ∨ e.v = a) ∧ e.id ∉ us

theorem done_of {es : List Eg} {us : List Int} {a : Int} (h : ∀ e ∈ es, ¬ Cand us a e) : Done es us a := fun e he hea => by
  by_cases hi : e.id ∈ us
  · exact hi
  · exact absurd ⟨hea, hi⟩ (h e he)

theorem own_ne {w : World} {B B' E E' k k' : Nat} {α β : Type} {enc : α → List Value} {enc' : β → List Value} {v v' : Value} {xs : List α} {ys : List β} (h : OK enc k E w B v xs) (h' : OK enc' k' E' w B' v' ys) (hne : E ≠ E') : v.ownBlock = none ∨ v.ownBlock ≠ v'.ownBlock := by
  cases e : v.ownBlock with
  | none => exact .inl rfl
  | some b =>
    refine .inr fun e2 => ?_
    obtain ⟨cs, h1⟩ := h.blk e
    obtain ⟨cs', h2⟩ := h'.blk e2.symm
    exact absurd rfl (h1.ne_ h2 hne)

set_option maxRecDepth 100000 in
set_option maxHeartbeats 8000000 in
theorem way06_any (w : World) (b : Value) (es : List Eg) (u v : Int) (hb : RK encD 4 w w.heap.size b es) (hn : (ids es).Nodup) (hl : es.length ≤ 100000) :
    Calls Try.prog 37 #[b, .int .i64 u, .int .i64 v] w fun r w' => ∃ x ok p, r = .returned (.tuple #[x, .bool ok]) ∧ Below w.heap.size w w' ∧ OK encD 4 33 w' w.heap.size x p ∧ (if ok = true then Trl es u v p ∧ (ids p).Nodup ∧ p.length ≤ es.length else p = [] ∧ ¬ Conn es u v) := by
  obtain ⟨A, ca, rfl, -, -, -, HC⟩ := hb.open_
  obtain ⟨n, hnn⟩ : ∃ n, n = es.length := ⟨_, rfl⟩
  rw [← hnn] at hl ⊢
  have HN := Lib.hid hnn
  have HND := Lib.hid hn
  clear hb hnn hn
  go_enter Try.func37, Try.ntmps37
  go_wp2_with fail
  go_loopw [8, 9, 10] (fun pv av uv wr => ∃ (A1 : Option Addr) (m1 c1 : Nat) (A2 : Option Addr) (m2 c2 : Nat) (a : Int) (p : List Eg) (us : List Int), pv = .slice A1 m1 c1 ∧ av = .int .i64 a ∧ uv = .slice A2 m2 c2 ∧ Hid (m1 = p.length) ∧ Hid (m2 = us.length) ∧ Hid (Dfs es u v a p us) ∧ Hid (Below w.heap.size w wr) ∧ Hid (OK encD 4 33 wr w.heap.size (.slice A1 m1 c1) p) ∧ Hid (OK encI 1 3 wr w.heap.size (.slice A2 m2 c2) us)) (fun pv _ uv _ => 2 * (n - lenV uv) + lenV pv)
  case atStart =>
    have h1 : OK encD 4 33 ((w.alloc (.cells #[] 33)).alloc (.cells #[] 3)) w.heap.size (.slice (some ⟨w.heap.size, 0, none⟩) 0 0) [] := OK.alloc ⟨by simp, World.ownsRow_lit w #[] 0 (by omega) (by decide) rfl⟩ _
    have h2' : OK encI 1 3 ((w.alloc (.cells #[] 33)).alloc (.cells #[] 3)) (w.alloc (.cells #[] 33)).heap.size (.slice (some ⟨(w.alloc (.cells #[] 33)).heap.size, 0, none⟩) 0 0) [] := ⟨by simp, World.ownsRow_lit (w.alloc (.cells #[] 33)) #[] 0 (by omega) (by decide) rfl⟩
    have h2 := h2'.base (B' := w.heap.size) (by simp)
    refine ⟨_, 0, 0, _, 0, 0, u, [], [], rfl, rfl, rfl, Lib.hid rfl, Lib.hid rfl, Lib.hid (dfs_start es u v), Lib.hid (((Below.refl _ _).alloc (Nat.le_refl _) _).alloc (by simp) _), Lib.hid (by simpa using h1), Lib.hid (by simpa using h2)⟩
  case round =>
    obtain ⟨A1, m1, c1, A2, m2, c2, a, p, us, rfl, rfl, rfl, HM1, HM2, HD, HB, HP, HU⟩ := hrel
    have hz := HB.out.size
    have HLN := Lib.hid HD.out.lens
    have hm1 : m1 ≤ n := by have := HM1.out; have := HLN.out; have := HN.out; omega
    have hm2 : m2 ≤ n := by have := HM2.out; have := HLN.out; have := HN.out; omega
    by_cases hav : a = v
    · subst hav
      have hd : (a != a) = false := by simp
      go_wp2_with fail
      go_ret2
      exact ⟨_, true, p, rfl, HB.out, HP.out, by rw [if_pos rfl]; exact ⟨HD.out.trl, HD.out.nd, by have := HLN.out; have := HN.out; omega⟩⟩
    · have hd : (a != v) = true := by simpa using hav
      have HAV := Lib.hid hav
      clear hav
      have HR := Lib.hid (HU.out.rk (B' := wr.heap.size) encI_len (Nat.le_refl _))
      obtain ⟨Wo, hWo⟩ : ∃ W, W = wr := ⟨_, rfl⟩
      rw [← hWo] at HB HP HU HR hz ⊢
      clear hWo wr
      go_wp2_with fail
      go_loopw [11, 12] (fun f i wr => ∃ k : Nat, k ≤ n ∧ i = .int .i64 k ∧ wr = Wo ∧ ((f = .int .i64 (-1) ∧ Hid (∀ e ∈ es.take k, ¬ Cand us a e)) ∨ ∃ j : Nat, j < k ∧ f = .int .i64 j ∧ Hid (∃ h : j < es.length, Cand us a es[j]))) (fun _ i _ => n - (intOf i).toNat)
      case atStart => exact ⟨0, Nat.zero_le _, rfl, rfl, .inl ⟨rfl, Lib.hid (by simp)⟩⟩
      case round =>
        obtain ⟨k, hk, rfl, hwr, hcase⟩ := hrel
        rw [hwr]
        clear hwr
        by_cases hkn : k < n
        · have hkd : decide ((k : Int) < (n : Int)) = true := by simpa using hkn
          have hk2 : (k : Int) < (n : Int) := by omega
          rcases hcase with ⟨rfl, HT⟩ | ⟨j, hj, rfl, HJ⟩
          · have hkv : k < es.length := by have := HN.out; omega
            obtain ⟨b1, o1, rfl, hb1, hx⟩ := HC.out k hkv
            obtain ⟨⟨id, p1, p2, p3⟩, hy⟩ : ∃ y, y = es[k] := ⟨_, rfl⟩
            have HTK := Lib.hid (List.take_succ_eq_append_getElem hkv)
            rw [← hy] at hx HTK
            have HY : Hid (∃ h : k < es.length, es[k] = (⟨id, p1, p2, p3⟩ : Eg)) := Lib.hid ⟨hkv, hy.symm⟩
            obtain ⟨x0, x1, x2, -⟩ := cellD hx
            dsimp only at x0 x1 x2
            have x0 := (HB.out.cell (p := ⟨b1, o1 + k * 4, none⟩) hb1).trans x0
            have x1 := (HB.out.cell (p := ⟨b1, o1 + k * 4 + 1, none⟩) hb1).trans x1
            have x2 := (HB.out.cell (p := ⟨b1, o1 + k * 4 + 2, none⟩) hb1).trans x2
            clear hx hy
            have HNO : Hid (¬ Cand us a ⟨id, p1, p2, p3⟩ → ∀ e ∈ es.take (k + 1), ¬ Cand us a e) := Lib.hid fun hc e he => by
              rw [HTK.out] at he
              rcases List.mem_append.1 he with he | he
              · exact HT.out e he
              · rw [List.mem_singleton.1 he]; exact hc
            by_cases hp1 : p1 = a
            · subst hp1
              have hq1 : (p1 == p1) = true := by simp
              go_wp2_with fail
              refine (has_any _ us Wo _ HR.out id).mono ?_
              by_cases hin : id ∈ us
              · rw [decide_eq_true hin]
                rintro r wx ⟨rfl, hwx⟩
                rw [hwx]
                clear hwx wx
                go_wp2_with fail
                go_roundw
                case rel => exact ⟨k + 1, by omega, by go_num, by first | rfl | trivial, .inl ⟨rfl, Lib.hid (HNO.out fun hc => hc.2 hin)⟩⟩
                case measure => simp [intOf]; omega
              · rw [decide_eq_false hin]
                rintro r wx ⟨rfl, hwx⟩
                rw [hwx]
                clear hwx wx
                go_wp2_with fail
                go_roundw
                case rel => exact ⟨k + 1, by omega, by go_num, by first | rfl | trivial, .inr ⟨k, by omega, rfl, Lib.hid (by obtain ⟨h, e⟩ := HY.out; exact ⟨h, by rw [e]; exact ⟨.inl rfl, hin⟩⟩)⟩⟩
                case measure => simp [intOf]; omega
            · have hq1 : (p1 == a) = false := by simpa using hp1
              by_cases hp2 : p2 = a
              · subst hp2
                have hq2 : (p2 == p2) = true := by simp
                go_wp2_with fail
                refine (has_any _ us Wo _ HR.out id).mono ?_
                by_cases hin : id ∈ us
                · rw [decide_eq_true hin]
                  rintro r wx ⟨rfl, hwx⟩
                  rw [hwx]
                  clear hwx wx
                  go_wp2_with fail
                  go_roundw
                  case rel => exact ⟨k + 1, by omega, by go_num, by first | rfl | trivial, .inl ⟨rfl, Lib.hid (HNO.out fun hc => hc.2 hin)⟩⟩
                  case measure => simp [intOf]; omega
                · rw [decide_eq_false hin]
                  rintro r wx ⟨rfl, hwx⟩
                  rw [hwx]
                  clear hwx wx
                  go_wp2_with fail
                  go_roundw
                  case rel => exact ⟨k + 1, by omega, by go_num, by first | rfl | trivial, .inr ⟨k, by omega, rfl, Lib.hid (by obtain ⟨h, e⟩ := HY.out; exact ⟨h, by rw [e]; exact ⟨.inr rfl, hin⟩⟩)⟩⟩
                  case measure => simp [intOf]; omega
              · have hq2 : (p2 == a) = false := by simpa using hp2
                go_wp2_with fail
                go_roundw
                case rel => exact ⟨k + 1, by omega, by go_num, by first | rfl | trivial, .inl ⟨rfl, Lib.hid (HNO.out fun hc => hc.1.elim hp1 hp2)⟩⟩
                case measure => simp [intOf]; omega
          · have hj0 : decide ((j : Int) < 0) = false := by simp
            go_wp2_with fail
            go_roundw
            case rel => exact ⟨k + 1, by omega, by go_num, by first | rfl | trivial, .inr ⟨j, by omega, rfl, HJ⟩⟩
            case measure => simp [intOf]; omega
        · obtain rfl : k = n := by omega
          have hkd : decide ((k : Int) < (k : Int)) = false := by simp
          have HLo := Lib.hid HU.out.lt
          have HLp := Lib.hid HP.out.lt
          rcases hcase with ⟨rfl, HT⟩ | ⟨j, hj, rfl, HJ⟩
          · have HDN : Hid (Done es us a) := Lib.hid (by
              have := HT.out
              rw [List.take_of_length_le (by have := HN.out; omega)] at this
              exact done_of this)
            by_cases hp : p = []
            · subst hp
              obtain rfl : m1 = 0 := HM1.out
              go_wp2_with fail
              go_ret2
              exact ⟨_, false, [], rfl, HB.out, OK.nil _ _, by rw [if_neg (by decide)]; exact ⟨rfl, HD.out.no HAV.out HDN.out⟩⟩
            · have hpe := (List.dropLast_concat_getLast hp).symm
              obtain ⟨q, hq⟩ : ∃ q, q = p.dropLast := ⟨_, rfl⟩
              obtain ⟨⟨id, p1, p2, p3⟩, he⟩ : ∃ e, e = p.getLast hp := ⟨_, rfl⟩
              rw [← hq, ← he] at hpe
              clear hq he hp
              subst hpe
              obtain ⟨j, hj⟩ : ∃ j, j = q.length := ⟨_, rfl⟩
              obtain rfl : m1 = j + 1 := by have := HM1.out; rw [this, hj]; simp
              obtain ⟨fb, fc, hsh, hfc, -⟩ := HP.out.shape (by simp)
              injection hsh with hs1 hs2 hs3
              subst hs1 hs3
              have hfc2 : j + 1 ≤ c1 := by have := hfc; simp at this; omega
              have hgl : (q ++ [(⟨id, p1, p2, p3⟩ : Eg)])[j]? = some ⟨id, p1, p2, p3⟩ := by rw [hj]; simp
              have x0 := HP.out.cellK encD_len (i := j) (j := 0) hgl rfl
              have x1 := HP.out.cellK encD_len (i := j) (j := 1) hgl rfl
              have x2 := HP.out.cellK encD_len (i := j) (j := 2) hgl rfl
              have x3 := HP.out.cellK encD_len (i := j) (j := 3) hgl rfl
              dsimp only [Nat.add_zero] at x0 x1 x2 x3
              have HSH := Lib.hid (HP.out.shrink encD_len)
              have HJ := Lib.hid hj
              have HPOP := Lib.hid (HD.out.pop HAV.out HDN.out)
              have hj1 : j ≤ 100000 := by omega
              have d0 : ((j : Int) + 1 == 0) = false := by simp; omega
              have d1 : IntKind.i64.wrap (j : Int) = (j : Int) := by rw [IntKind.wrap_i64]; omega
              have d2 : (j : Int) < (j : Int) + 1 := by omega
              have d3 : (j : Int) ≤ (c1 : Int) := by omega
              have d4 : j ≤ c1 := by omega
              clear hgl hj hs2 hfc
              go_wp2_with fail
              refine (other06_any _ ⟨id, p1, p2, p3⟩ a).mono ?_
              rintro r w7 ⟨rfl, b7⟩
              have B7 := Lib.hid b7
              clear b7
              go_wp2_with fail
              go_roundw
              case rel =>
                refine ⟨_, j, c1, A2, m2, c2, _, q, us, rfl, rfl, rfl, HJ, HM2, HPOP, Lib.hid (HB.out.trans (B7.out.mono hz)), Lib.hid ?_, Lib.hid (HU.out.below B7.out)⟩
                have := HSH.out.below B7.out
                rwa [List.dropLast_concat] at this
              case measure => first | (simp [lenV]; done) | (simp [lenV]; omega)
          · obtain ⟨b1, o1, rfl, hb1, hx⟩ : ∃ b1 o1, A = some ⟨b1, o1, none⟩ ∧ b1 < w.heap.size ∧ ∀ (i : Nat) u, (encD (es[j]'HJ.out.1))[i]? = some u → w.cell? ⟨b1, o1 + j * 4 + i, none⟩ = some u := HC.out j HJ.out.1
            obtain ⟨⟨id, p1, p2, p3⟩, hy⟩ : ∃ y, y = es[j]'HJ.out.1 := ⟨_, rfl⟩
            have HMEM : Hid ((⟨id, p1, p2, p3⟩ : Eg) ∈ es) := Lib.hid (by rw [hy]; exact List.getElem_mem HJ.out.1)
            have HCA : Hid (Cand us a ⟨id, p1, p2, p3⟩) := Lib.hid (by rw [hy]; exact HJ.out.2)
            rw [← hy] at hx
            obtain ⟨z0, z1, z2, z3⟩ := cellD hx
            dsimp only at z0 z1 z2 z3
            have HXS : Hid (∀ W', Below w.heap.size w W' → W'.cell? ⟨b1, o1 + j * 4, none⟩ = some (.int .i64 id) ∧ W'.cell? ⟨b1, o1 + j * 4 + 1, none⟩ = some (.int .i64 p1) ∧ W'.cell? ⟨b1, o1 + j * 4 + 2, none⟩ = some (.int .i64 p2) ∧ W'.cell? ⟨b1, o1 + j * 4 + 3, none⟩ = some (.int .i64 (p3 : Int))) := Lib.hid fun W' hb => ⟨(hb.cell (p := ⟨b1, o1 + j * 4, none⟩) hb1).trans z0, (hb.cell (p := ⟨b1, o1 + j * 4 + 1, none⟩) hb1).trans z1, (hb.cell (p := ⟨b1, o1 + j * 4 + 2, none⟩) hb1).trans z2, (hb.cell (p := ⟨b1, o1 + j * 4 + 3, none⟩) hb1).trans z3⟩
            clear z0 z1 z2 z3 hx hy
            obtain ⟨x0, x1, x2, x3⟩ := HXS.out _ HB.out
            have HPUSH := Lib.hid (HD.out.push HND.out HAV.out HMEM.out HCA.out.1 HCA.out.2)
            have HPL := Lib.hid HPUSH.out.lens
            have HL1 : Hid (us.length + 1 ≤ 1000000) := Lib.hid (by have := HM2.out; omega)
            have HL2 : Hid (p.length + 1 ≤ 1000000) := Lib.hid (by have := HM1.out; omega)
            have HZ := Lib.hid hz
            have HG1 : Hid (∀ o w5, (Wo.alloc o).grownBy w5 (Value.slice A2 m2 c2).ownBlock → Below w.heap.size w w5 ∧ OK encD 4 33 w5 w.heap.size (.slice A1 m1 c1) p ∧ w.heap.size ≤ w5.heap.size) := Lib.hid fun o w5 hg => by
              have hb5 := (HB.out.alloc (o := o) HZ.out).grown hg (by simp; have := HZ.out; omega) (fun q hq => (HLo.out q hq).1)
              exact ⟨hb5, (HP.out.alloc o).kept hg (own_ne (HP.out.alloc o) (HU.out.alloc o) (by decide)), hb5.size⟩
            have hj0 : decide ((j : Int) ≥ 0) = true := by simp
            have hjn : (j : Int) < (k : Int) := by omega
            go_wp2_with (first
              | (at_builtin; refine wpList_appE etInts encI_len encI_one (y := id) rfl (.tmp 58) (.tmp 64) rfl rfl (HU.out.alloc _) Wo.heap.size rfl (oneI Wo id _) HL1.out (by simp; have := HZ.out; omega) ?_; intro v5 w5 ho5 hg5 hb5; have HU5 := Lib.hid ho5; have HB5 := Lib.hid (HG1.out _ _ hg5).1; have HP5 := Lib.hid (HG1.out _ _ hg5).2.1; have HZ5 := Lib.hid (HG1.out _ _ hg5).2.2; have HLp5 := Lib.hid HP5.out.lt; clear x0 x1 x2 x3 ho5 hg5 hb5; obtain ⟨x0, x1, x2, x3⟩ := HXS.out _ HB5.out)
              | (at_builtin; refine wpList_appE etD encD_len encD_one (y := (⟨id, p1, p2, p3⟩ : Eg)) rfl (.tmp 66) (.tmp 71) rfl rfl (HP5.out.alloc _) w5.heap.size rfl (oneD w5 ⟨id, p1, p2, p3⟩) HL2.out (by simp; have := HZ5.out; omega) ?_; intro v6 w6 ho6 hg6 hb6; have HP6 := Lib.hid ho6; have HB6 := Lib.hid ((HB5.out.alloc HZ5.out _).grown hg6 (by simp; have := HZ5.out; omega) (fun q hq => (HLp5.out q hq).1)); have HU6 := Lib.hid ((HU5.out.alloc _).kept hg6 (own_ne HU5.out HP5.out (by decide))); clear x0 x1 x2 x3 ho6 hg6 hb6; obtain ⟨x0, x1, x2, x3⟩ := HXS.out _ HB6.out))
            refine (other06_any _ ⟨id, p1, p2, p3⟩ a).mono ?_
            rintro r w7 ⟨rfl, b7⟩
            have B7 := Lib.hid b7
            clear b7
            obtain ⟨A5, c5, hv5, -, -, -, -⟩ := (HU6.out.rk encI_len (Nat.le_refl _)).open_
            obtain ⟨A6, c6, hv6, -, -, -, -⟩ := (HP6.out.rk encD_len (Nat.le_refl _)).open_
            obtain ⟨n5, hn5⟩ : ∃ n, n = (us ++ [id]).length := ⟨_, rfl⟩
            obtain ⟨n6, hn6⟩ : ∃ n, n = (p ++ [(⟨id, p1, p2, p3⟩ : Eg)]).length := ⟨_, rfl⟩
            rw [← hn5] at hv5
            rw [← hn6] at hv6
            have HN5 := Lib.hid hn5
            have HN6 := Lib.hid hn6
            clear hn5 hn6
            subst hv5 hv6
            go_wp2_with fail
            go_roundw
            case rel => exact ⟨A6, n6, c6, A5, n5, c5, _, p ++ [⟨id, p1, p2, p3⟩], us ++ [id], rfl, rfl, rfl, HN6, HN5, HPUSH, Lib.hid (HB6.out.trans (B7.out.mono HB6.out.size)), Lib.hid (HP6.out.below B7.out), Lib.hid (HU6.out.below B7.out)⟩
            case measure =>
              have h1 := HPL.out.1
              have h2 := HM1.out
              have h3 := HM2.out
              have h4 := HN.out
              have h5 := HN5.out
              have h6 := HN6.out
              simp at h1 h5 h6
              simp only [lenV]
              omega

end Go.Proofs.Ytlhkajlkapoabaa
