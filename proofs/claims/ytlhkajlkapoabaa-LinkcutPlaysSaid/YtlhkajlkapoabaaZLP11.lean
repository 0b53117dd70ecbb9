/-
  The walk of LinkcutPlays.
-/
import Derived.Test.YtlhkajlkapoabaaZLP7
namespace Go.Proofs.Ytlhkajlkapoabaa
open Go.RowKit Go.Maps
set_option linter.unusedVariables false

set_option maxRecDepth 100000 in
set_option maxHeartbeats 16000000 in
theorem linkcutPlays_walk (w : World) (v1 : Value) (os : List OpL) (hs : ScrL w v1 os) :
    Calls Try.prog 3 #[v1] w fun e w' => e = .returned (.bool true) ∧ Below w.heap.size w w' := by
  obtain ⟨A, c, rfl, hc1, hc2, hc3, HC⟩ := hs.rk.open_
  obtain ⟨n, hn⟩ : ∃ n, n = os.length := ⟨_, rfl⟩
  rw [← hn] at hc1 hc3 ⊢
  have HN := Lib.hid hn
  have HA := Lib.hid hs.at_
  clear hs hn
  go_enter Try.func3, Try.ntmps3
  go_wp2_with fail
  refine (bNew w noQ noQ_lt).mono ?_
  rintro e w1 ⟨f, rfl, h1, b1⟩
  have H1 : Hid (LB w.heap.size noQ w1 f LF.none0) := Lib.hid h1
  have T1 := Lib.hid b1
  clear h1 b1
  go_wp2_with fail
  refine (alive_any w1).mono ?_
  rintro e w2 ⟨rfl, b2⟩
  have H2 := Lib.hid (H1.out.below b2)
  have T2 := Lib.hid (T1.out.trans (b2.mono T1.out.size))
  clear b2
  obtain ⟨W3, hW3⟩ : ∃ W3, W3 = w2.alloc (.cells #[.slice none 0 0, .slice none 0 0, .slice none 0 0, .slice none 0 0] 31) := ⟨_, rfl⟩
  obtain ⟨p, hp⟩ : ∃ p, p = w2.heap.size := ⟨_, rfl⟩
  have hb3 : Below w2.heap.size w2 W3 := by rw [hW3]; exact (Below.refl _ _).alloc (Nat.le_refl _) _
  have hpl : PlL w W3 f p LF.none0 ⟨[], [], [], []⟩ (.slice none 0 0) (.slice none 0 0) (.slice none 0 0) (.slice none 0 0) := by
    refine ⟨⟨noQ, H2.out.below hb3, T2.out.trans (hb3.mono T2.out.size), ⟨RK.nil _ _, RK.nil _ _, RK.nil _ _, RK.nil _ _⟩, fun h => absurd rfl h, fun h => absurd rfl h, fun h => absurd rfl h, fun h => absurd rfl h⟩, besL_new, by rw [hW3, hp]; exact Blk.new _ _ _, by rw [hp]; exact T2.out.size, fun h => absurd rfl h, fun h => absurd rfl h, fun h => absurd rfl h, fun h => absurd rfl h⟩
  have HW3 := Lib.hid hW3
  have HP := Lib.hid hp
  have PL := Lib.hid hpl
  clear hW3 hp hb3 hpl
  go_upto_region 5 with fail
  rw [← HW3.out]
  try simp only [← HP.out]
  clear HW3 HP H1 T1 H2 T2
  go_wp2_with fail
  go_loopw [27] (fun i wr => ∃ (k : Nat) (F : LF) (d : DF) (X0 : Option Addr) (n0 m0 : Nat) (X1 : Option Addr) (n1 m1 : Nat) (X2 : Option Addr) (n2 m2 : Nat) (X3 : Option Addr) (n3 m3 : Nat), k ≤ n ∧ i = .int .i64 k ∧ Hid (PlL w wr f p F d (.slice X0 n0 m0) (.slice X1 n1 m1) (.slice X2 n2 m2) (.slice X3 n3 m3))) (fun i _ => n - (intOf i).toNat)
  case atStart => exact ⟨0, LF.none0, _, _, _, _, _, _, _, _, _, _, _, _, _, Nat.zero_le _, rfl, PL⟩
  case round =>
    clear PL
    obtain ⟨k, F, d, X0, n0, m0, X1, n1, m1, X2, n2, m2, X3, n3, m3, hk, rfl, PR⟩ := hrel
    by_cases hkl : k < n
    · have hko : k < os.length := by have := HN.out; omega
      have LR := Lib.hid PR.out.two.low
      obtain ⟨b1, o1, rfl, hb, hx⟩ := HC.out k hko
      obtain ⟨hx1, hx2, hx3, hx4, hx5⟩ := cellOp hx
      have y1 := (LR.out.cell (p := ⟨b1, o1 + k * 5, none⟩) hb).trans hx1
      have y2 := (LR.out.cell (p := ⟨b1, o1 + k * 5 + 1, none⟩) hb).trans hx2
      have y3 := (LR.out.cell (p := ⟨b1, o1 + k * 5 + 2, none⟩) hb).trans hx3
      have y4 := (LR.out.cell (p := ⟨b1, o1 + k * 5 + 3, none⟩) hb).trans hx4
      have y5 := (LR.out.cell (p := ⟨b1, o1 + k * 5 + 4, none⟩) hb).trans hx5
      have HOP := Lib.hid (HA.out os[k] (List.getElem_mem hko))
      clear hx hx1 hx2 hx3 hx4 hx5
      obtain ⟨x, hx⟩ : ∃ x, x = os[k] := ⟨_, rfl⟩
      rw [← hx] at y1 y2 y3 y4 y5 HOP
      clear hx
      obtain ⟨kd, id, u, v, wt⟩ := x
      dsimp only at y1 y2 y3 y4 y5
      have hkn : (k : Int) < (n : Int) := by omega
      have hkd : decide ((k : Int) < (n : Int)) = true := by simpa using hkl
      have HI : Hid (I64 id ∧ I64 u ∧ I64 v) := Lib.hid ⟨HOP.out.id, HOP.out.u, HOP.out.v⟩
      obtain ⟨W1, hW1⟩ : ∃ W1, W1 = wr.alloc (.cells #[.int .i64 kd, .int .i64 id, .int .i64 u, .int .i64 v, .int .i64 wt] 35) := ⟨_, rfl⟩
      obtain ⟨q, hq⟩ : ∃ q, q = wr.heap.size := ⟨_, rfl⟩
      have hbw : Below wr.heap.size wr W1 := by rw [hW1]; exact (Below.refl _ _).alloc (Nat.le_refl _) _
      have P1 := Lib.hid (PR.out.below hbw)
      have O1 : Hid (Blk W1 q 35 #[.int .i64 kd, .int .i64 id, .int .i64 u, .int .i64 v, .int .i64 wt]) := Lib.hid (by rw [hW1, hq]; exact Blk.new _ _ _)
      have NQ : Hid (q ≠ p) := Lib.hid (by have := PR.out.box.lt; omega)
      have HW1 := Lib.hid hW1
      have HQ := Lib.hid hq
      clear hW1 hq hbw
      go_upto_region 8 with fail
      rw [← HW1.out]
      try simp only [← HQ.out]
      clear y1 y2 y3 y4 y5 hb
      obtain ⟨c0, c1, c2, c3⟩ := P1.out.four
      have s0 := O1.out.cell 0
      have s1 := O1.out.cell 1
      have s2 := O1.out.cell 2
      have s3 := O1.out.cell 3
      have s4 := O1.out.cell 4
      go_wp2_with fail
      refine (does_any w W1 f F d _ _ _ _ P1.out.two P1.out.bes kd id u v wt HOP.out).mono ?_
      rintro r w2 ⟨a', b', c', e', d2, rfl, t2, s2', k2, u1, u2, u3, u4⟩
      obtain ⟨Y0, i0, j0, Y1, i1, j1, Y2, i2, j2, Y3, i3, j3, rfl, rfl, rfl, rfl⟩ := t2.doc.sl4
      obtain ⟨F2, hF2⟩ : ∃ F2, F2 = F.stepL ⟨kd, id, u, v, wt⟩ := ⟨_, rfl⟩
      rw [← hF2] at t2 s2'
      clear hF2
      have hb2 : Below w2.heap.size w2 (w2.alloc (.cells #[.slice Y0 i0 j0, .slice Y1 i1 j1, .slice Y2 i2 j2, .slice Y3 i3 j3] 31)) := (Below.refl _ _).alloc (Nat.le_refl _) _
      obtain ⟨W2, hW2⟩ : ∃ W2, W2 = w2.alloc (.cells #[.slice Y0 i0 j0, .slice Y1 i1 j1, .slice Y2 i2 j2, .slice Y3 i3 j3] 31) := ⟨_, rfl⟩
      have kn : Blk W2 w2.heap.size 31 #[.slice Y0 i0 j0, .slice Y1 i1 j1, .slice Y2 i2 j2, .slice Y3 i3 j3] := by rw [hW2]; exact Blk.new _ _ _
      rw [← hW2] at hb2
      obtain ⟨q2, hq2⟩ : ∃ q2, q2 = w2.heap.size := ⟨_, rfl⟩
      rw [← hq2] at kn
      have kk := k2.trans (Kept.of_below hb2)
      have pn := P1.out.turn (t2.below hb2) s2' kk u1 u2 u3 u4
      have O2 := Lib.hid (kk.blk O1.out notL_O)
      obtain ⟨W4, hW4⟩ : ∃ W4, W4 = (((W2.setCell ⟨p, 0, none⟩ (.slice Y0 i0 j0)).setCell ⟨p, 1, none⟩ (.slice Y1 i1 j1)).setCell ⟨p, 2, none⟩ (.slice Y2 i2 j2)).setCell ⟨p, 3, none⟩ (.slice Y3 i3 j3) := ⟨_, rfl⟩
      rw [← hW4] at pn
      have PN := Lib.hid pn
      have hq4 : Blk W4 q 35 #[.int .i64 kd, .int .i64 id, .int .i64 u, .int .i64 v, .int .i64 wt] := by
        rw [hW4]
        exact (((O2.out.far (p := ⟨p, 0, none⟩) NQ.out _).far (p := ⟨p, 1, none⟩) NQ.out _).far (p := ⟨p, 2, none⟩) NQ.out _).far (p := ⟨p, 3, none⟩) NQ.out _
      have O4 := Lib.hid hq4
      have BP := Lib.hid (kk.blk P1.out.box notL_D)
      have HW2 := Lib.hid hW2
      have HQ2 := Lib.hid hq2
      have HW4 := Lib.hid hW4
      have g0 := kn.cell 0
      have g1 := kn.cell 1
      have g2 := kn.cell 2
      have g3 := kn.cell 3
      have z0 := BP.out.cell 0
      have z1 := BP.out.cell 1
      have z2 := BP.out.cell 2
      have z3 := BP.out.cell 3
      have f0 := BP.out.frozen 0
      have f1 := BP.out.frozen 1
      have f2 := BP.out.frozen 2
      have f3 := BP.out.frozen 3
      clear t2 s2' k2 u1 u2 u3 u4 hb2 kn kk pn hq4 hW2 hq2 hW4 c0 c1 c2 c3 s0 s1 s2 s3 s4
      go_upto_region 9 with fail
      rw [← HW2.out]
      try simp only [← HQ2.out]
      go_upto_region 10 with fail
      rw [← HW4.out]
      clear g0 g1 g2 g3 z0 z1 z2 z3 f0 f1 f2 f3 PR P1 O1 O2 BP HW1 HQ HW2 HQ2 HW4 LR
      go_wp2_with fail
      refine PN.out.two.len.mono ?_
      rw [PN.out.lens.1, PN.out.lens.2]
      rintro r w5 ⟨rfl, b5⟩
      have P5 := Lib.hid (PN.out.below b5)
      have O5 := Lib.hid (O4.out.below b5 O4.out.lt)
      clear b5 PN O4
      have s1 := O5.out.cell 1
      go_wp2_with fail
      refine (tEdge P5.out.two id HI.out.1).mono ?_
      obtain ⟨⟨ya, yb, yc, yw⟩, hy⟩ : ∃ y, y = (F2.edge id).getD Eg.zero := ⟨_, rfl⟩
      obtain ⟨is, his⟩ : ∃ y, y = (F2.edge id).isSome := ⟨_, rfl⟩
      rw [← hy, ← his]
      have HLK : Hid (look d2.es id = ⟨ya, yb, yc, yw⟩ ∧ decide (id ∈ ids d2.es) = is) := Lib.hid (by rw [hy, his]; exact P5.out.bes.edge id)
      unfold Eg.val
      dsimp only
      rintro r w6 ⟨rfl, b6⟩
      obtain ⟨W7, hW7⟩ : ∃ W7, W7 = w6.alloc (.cells #[.int .i64 ya, .int .i64 yb, .int .i64 yc, .int .i64 (yw : Int)] 33) := ⟨_, rfl⟩
      obtain ⟨q7, hq7⟩ : ∃ q7, q7 = w6.heap.size := ⟨_, rfl⟩
      have hb7 : Below w5.heap.size w5 W7 := by rw [hW7]; exact b6.alloc b6.size _
      have E7 : Hid (Blk W7 q7 33 #[.int .i64 ya, .int .i64 yb, .int .i64 yc, .int .i64 (yw : Int)]) := Lib.hid (by rw [hW7, hq7]; exact Blk.new _ _ _)
      have P7 := Lib.hid (P5.out.below hb7)
      have O7 := Lib.hid (O5.out.below hb7 O5.out.lt)
      have HW7 := Lib.hid hW7
      have HQ7 := Lib.hid hq7
      clear b6 hW7 hq7 hb7 hy his s1 P5 O5
      go_upto_region 12 with fail
      rw [← HW7.out]
      try simp only [← HQ7.out]
      clear HW7 HQ7
      obtain ⟨c0, c1, c2, c3⟩ := P7.out.four
      have s1 := O7.out.cell 1
      go_wp2_with fail
      refine (refEdge_any W7 _ _ _ _ d2 id P7.out.two.doc P7.out.fit.1).mono ?_
      rw [HLK.out.1, HLK.out.2]
      rintro r w8 ⟨rfl, b8⟩
      unfold edV
      dsimp only
      obtain ⟨W9, hW9⟩ : ∃ W9, W9 = w8.alloc (.cells #[.int .i64 ya, .int .i64 yb, .int .i64 yc, .int .i64 (yw : Int)] 33) := ⟨_, rfl⟩
      obtain ⟨q9, hq9⟩ : ∃ q9, q9 = w8.heap.size := ⟨_, rfl⟩
      have hb9 : Below W7.heap.size W7 W9 := by rw [hW9]; exact b8.alloc b8.size _
      have E9 : Hid (Blk W9 q9 33 #[.int .i64 ya, .int .i64 yb, .int .i64 yc, .int .i64 (yw : Int)]) := Lib.hid (by rw [hW9, hq9]; exact Blk.new _ _ _)
      have E79 := Lib.hid (E7.out.below hb9 E7.out.lt)
      have P9 := Lib.hid (P7.out.below hb9)
      have O9 := Lib.hid (O7.out.below hb9 O7.out.lt)
      have HW9 := Lib.hid hW9
      have HQ9 := Lib.hid hq9
      clear b8 hW9 hq9 hb9 s1 c0 c1 c2 c3 P7 O7 E7
      go_upto_region 13 with fail
      rw [← HW9.out]
      try simp only [← HQ9.out]
      clear HW9 HQ9
      obtain ⟨c0, c1, c2, c3, s1, s2, s3⟩ := boxO_of P9.out O9.out
      have hne := run_neEg ya yb yc (yw : Int)
      have e0 := E79.out.cell 0
      have e1 := E79.out.cell 1
      have e2 := E79.out.cell 2
      have e3 := E79.out.cell 3
      have x0 := E9.out.cell 0
      have x1 := E9.out.cell 1
      have x2 := E9.out.cell 2
      have x3 := E9.out.cell 3
      have hnn : (is != is) = false := by simp
      go_wp2_with fail
      refine (tellsL_any w W9 f F2 d2 _ _ _ _ P9.out.two P9.out.bes u v HI.out.2.1 HI.out.2.2).mono ?_
      rintro r wz ⟨rfl, tz, kz⟩
      have PZ : Hid (PlL w wz f p F2 d2 (.slice Y0 i0 j0) (.slice Y1 i1 j1) (.slice Y2 i2 j2) (.slice Y3 i3 j3)) := Lib.hid ⟨tz, P9.out.bes, kz.blk P9.out.box notL_D, P9.out.lo, P9.out.oa, P9.out.ob, P9.out.oc, P9.out.oe⟩
      clear tz kz c0 c1 c2 c3 s1 s2 s3 e0 e1 e2 e3 x0 x1 x2 x3
      go_wp2_with fail
      go_roundw
      case rel => exact ⟨k + 1, F2, d2, _, _, _, _, _, _, _, _, _, _, _, _, by omega, by go_num, PZ⟩
      case measure => simp [intOf]; omega
    · obtain rfl : k = n := by omega
      have hkd : decide ((k : Int) < (k : Int)) = false := by simp
      obtain ⟨c0, c1, c2, c3⟩ := PR.out.four
      obtain ⟨A5, c5, he5, -, -, -, HCV⟩ := PR.out.two.doc.vs.open_
      injection he5 with he5 hel he6
      subst he5
      subst he6
      have HNV : Hid (n0 = d.vs.length) := Lib.hid hel
      have hn4 : n0 ≤ 8192 := by have := (PR.out.fit).1.nv; omega
      have HVS : Hid (∀ wx, PlL w wx f p F d (.slice X0 n0 m0) (.slice X1 n1 m1) (.slice X2 n2 m2) (.slice X3 n3 m3) → ∀ (i : Nat) (x : Int), d.vs[i]? = some x → ∀ b o, X0 = some ⟨b, o, none⟩ → wx.cell? ⟨b, o + i, none⟩ = some (.int .i64 x)) := Lib.hid (by
        intro wx h i x hi b o he
        have h1 := h.two.doc.vs
        rw [he] at h1
        have h2 := h1.cellAt (j := 0) (u := .int .i64 x) hi rfl
        simpa using h2)
      clear hel
      go_wp2_with fail
      clear c0 c1 c2 c3
      go_loopw [105] (fun i wx => ∃ j : Nat, j ≤ n0 ∧ i = .int .i64 j ∧ Hid (PlL w wx f p F d (.slice X0 n0 m0) (.slice X1 n1 m1) (.slice X2 n2 m2) (.slice X3 n3 m3))) (fun i _ => n0 - (intOf i).toNat)
      case atStart => exact ⟨0, Nat.zero_le _, rfl, PR⟩
      case round =>
        obtain ⟨j, hj, rfl, PX⟩ := hrel
        by_cases hjl : j < n0
        · have hjv : j < d.vs.length := by have := HNV.out; omega
          have h0v : 0 < d.vs.length := by omega
          have hlv : d.vs.length - 1 < d.vs.length := by omega
          obtain ⟨bb, oo, rfl, hbb, -⟩ := HCV j hjv
          obtain ⟨x, hxx⟩ : ∃ x, x = d.vs[j] := ⟨_, rfl⟩
          obtain ⟨x0, hxx0⟩ : ∃ x, x = d.vs[0] := ⟨_, rfl⟩
          obtain ⟨xl, hxxl⟩ : ∃ x, x = d.vs[d.vs.length - 1] := ⟨_, rfl⟩
          have I_ : ∀ y ∈ d.vs, I64 y := fun y hy => by
            have h1 := PX.out.ok.ids y ((PX.out.bes.vm y).1 hy)
            unfold I64; omega
          have HX : Hid (I64 x) := Lib.hid (I_ x (by rw [hxx]; exact List.getElem_mem _))
          have HX0 : Hid (I64 x0) := Lib.hid (I_ x0 (by rw [hxx0]; exact List.getElem_mem _))
          have HXL : Hid (I64 xl) := Lib.hid (I_ xl (by rw [hxxl]; exact List.getElem_mem _))
          obtain ⟨m, hm⟩ : ∃ m, n0 = m + 1 := ⟨n0 - 1, by omega⟩
          have g0 : d.vs[0]? = some x0 := by rw [hxx0]; exact List.getElem?_eq_getElem h0v
          have gj : d.vs[j]? = some x := by rw [hxx]; exact List.getElem?_eq_getElem hjv
          have gl : d.vs[m]? = some xl := by
            rw [hxxl, show m = d.vs.length - 1 by have := HNV.out; omega]; exact List.getElem?_eq_getElem hlv
          have HBX : Hid (∀ wy, PlL w wy f p F d (.slice (some ⟨bb, oo, none⟩) n0 m0) (.slice X1 n1 m1) (.slice X2 n2 m2) (.slice X3 n3 m3) → wy.cell? ⟨p, 0, none⟩ = some (.slice (some ⟨bb, oo, none⟩) n0 m0) ∧ wy.cell? ⟨p, 1, none⟩ = some (.slice X1 n1 m1) ∧ wy.cell? ⟨p, 2, none⟩ = some (.slice X2 n2 m2) ∧ wy.cell? ⟨p, 3, none⟩ = some (.slice X3 n3 m3) ∧ wy.cell? ⟨bb, oo, none⟩ = some (.int .i64 x0) ∧ wy.cell? ⟨bb, oo + m, none⟩ = some (.int .i64 xl)) := Lib.hid (fun wy hy => ⟨hy.box.cell 0, hy.box.cell 1, hy.box.cell 2, hy.box.cell 3, by simpa using HVS.out wy hy 0 x0 g0 bb oo rfl, HVS.out wy hy m xl gl bb oo rfl⟩)
          have y1 := HVS.out _ PX.out j x gj bb oo rfl
          have HM := Lib.hid hm
          have HJ := Lib.hid hjl
          clear hxx hxx0 hxxl g0 gj gl I_ hjv h0v hlv hbb
          subst hm
          have HTEL : Hid (∀ wy, PlL w wy f p F d (.slice (some ⟨bb, oo, none⟩) (m + 1) m0) (.slice X1 n1 m1) (.slice X2 n2 m2) (.slice X3 n3 m3) → ∀ a b, I64 a → I64 b → Calls Try.prog 14 #[.pointer (some ⟨f, 0, none⟩), .agg #[.slice (some ⟨bb, oo, none⟩) (m + 1) m0, .slice X1 n1 m1, .slice X2 n2 m2, .slice X3 n3 m3], .int .i64 a, .int .i64 b] wy fun r w' => r = .returned (.bool true) ∧ PlL w w' f p F d (.slice (some ⟨bb, oo, none⟩) (m + 1) m0) (.slice X1 n1 m1) (.slice X2 n2 m2) (.slice X3 n3 m3)) := Lib.hid (fun wy hy a b ha hb => by
            refine (tellsL_any w wy f F d _ _ _ _ hy.two hy.bes a b ha hb).mono ?_
            rintro r wz ⟨rfl, tz, kz⟩
            exact ⟨rfl, tz, hy.bes, kz.blk hy.box notL_D, hy.lo, hy.oa, hy.ob, hy.oc, hy.oe⟩)
          have hjn : (j : Int) < (m : Int) + 1 := by omega
          have hjd : decide ((j : Int) < (m : Int) + 1) = true := by simpa using hjn
          have h0n : (0 : Int) < (m : Int) + 1 := by omega
          have h0m : 0 < m + 1 := by omega
          have hmn : (m : Int) < (m : Int) + 1 := by omega
          have hm1 : (m : Int) + 1 - 1 = (m : Int) := by omega
          have hmw : IntKind.i64.wrap (m : Int) = (m : Int) := by rw [IntKind.wrap_i64]; omega
          have hmw2 : IntKind.i64.wrap ((m : Int) + 1 - 1) = (m : Int) := by rw [IntKind.wrap_i64]; omega
          obtain ⟨c0, c1, c2, c3, r0, rl⟩ := HBX.out _ PX.out
          go_wp2_with fail
          by_cases h12 : j < 12
          · have hd12 : decide ((j : Int) < 12) = true := by simp; omega
            have hi12 : (j : Int) < 12 := by omega
            clear h12
            have HD : Hid (PlL w wr.drew f p F d (.slice (some ⟨bb, oo, none⟩) (m + 1) m0) (.slice X1 n1 m1) (.slice X2 n2 m2) (.slice X3 n3 m3)) := Lib.hid (PX.out.below (Below.refl _ _).drew)
            (go_region_held3 (fun wx => wx.cell? ⟨p, 0, none⟩ = some (.slice (some ⟨bb, oo, none⟩) (m + 1) m0) ∧ wx.cell? ⟨p, 1, none⟩ = some (.slice X1 n1 m1) ∧ wx.cell? ⟨p, 2, none⟩ = some (.slice X2 n2 m2) ∧ wx.cell? ⟨p, 3, none⟩ = some (.slice X3 n3 m3) ∧ wx.cell? ⟨bb, oo, none⟩ = some (.int .i64 x0) ∧ wx.cell? ⟨bb, oo + m, none⟩ = some (.int .i64 xl)) (first | with_reducible exact HBX.out _ HZ.out | with_reducible exact HBX.out _ HD.out)
              ((go_at_call 14; refine (HTEL.out _ (by first | with_reducible exact HZ.out | with_reducible exact HD.out) _ _ (by first | with_reducible exact HX.out | with_reducible exact HX0.out | with_reducible exact HXL.out) (by first | with_reducible exact HX.out | with_reducible exact HX0.out | with_reducible exact HXL.out)).mono ?_; rintro r wz ⟨rfl, hbz⟩; have HZ := Lib.hid hbz; clear hbz)))
            all_goals (
              clear c0 c1 c2 c3 y1 r0 rl
              go_wp2_with fail
              refine ⟨?_, ?measure⟩
              iterate 60 (try apply Exists.intro)
              refine ⟨?rel, rfl⟩
              case rel => exact ⟨j + 1, HJ.out, by go_num, by first | exact HZ | exact HD⟩
              case measure => have := HJ.out; simp [intOf]; omega)
          · have hd12 : decide ((j : Int) < 12) = false := by simp; omega
            clear h12
            go_quiet (fail)
            have P2 := Lib.hid (PX.out.below (below_drewN (Below.refl _ wr) nq))
            clear c0 c1 c2 c3 y1 r0 rl
            go_wp2_with fail
            refine ⟨?_, ?measure⟩
            iterate 60 (try apply Exists.intro)
            refine ⟨?rel, rfl⟩
            case rel => exact ⟨j + 1, HJ.out, by go_num, P2⟩
            case measure => have := HJ.out; simp [intOf]; omega
        · obtain rfl : j = n0 := by omega
          have hjd : decide ((j : Int) < (j : Int)) = false := by simp
          go_wp2_with fail
          go_ret
          exact ⟨rfl, PX.out.two.low⟩

end Go.Proofs.Ytlhkajlkapoabaa
