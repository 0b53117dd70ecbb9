/-
  The law's tells, against the document's rope.
-/
import Derived.BigQuiet
import Derived.Test.YtbbfnbnjaiimgaaZRQ8
import Derived.Test.YtbbfnbnjaiimgaaZRQ1
import Derived.Test.YtbbfnbnjaiimgaaRP36
import Derived.Test.YtbbfnbnjaiimgaaAQ
namespace Go.Proofs.Ytbbfnbnjaiimgaa
open Go.RowKit
set_option linter.unusedVariables false

/-- What a region reads of a rope's box, of a call's and of one of the rows. -/
def BoxT (p : Nat) (x y z : Value) (a : Int) (b o : Nat) (u : Option Addr × Nat × Nat) (w : World) : Prop := w.cell? ⟨p, 0, none⟩ = some x ∧ w.cell? ⟨p, 1, none⟩ = some y ∧ w.cell? ⟨p, 2, none⟩ = some z ∧ w.cell? ⟨p + 1, 1, none⟩ = some (.int .i64 a) ∧ w.cell? ⟨b, o, none⟩ = some (.slice u.1 u.2.1 u.2.2)

theorem BoxT.all {p : Nat} {x y z : Value} {a : Int} {b o : Nat} {u : Option Addr × Nat × Nat} {w : World} (h : BoxT p x y z a b o u w) : w.cell? ⟨p, 0, none⟩ = some x ∧ w.cell? ⟨p, 1, none⟩ = some y ∧ w.cell? ⟨p, 2, none⟩ = some z ∧ w.cell? ⟨p + 1, 1, none⟩ = some (.int .i64 a) ∧ w.cell? ⟨b, o, none⟩ = some (.slice u.1 u.2.1 u.2.2) := h

theorem BoxT.below {p : Nat} {x y z : Value} {a : Int} {b o : Nat} {u : Option Addr × Nat × Nat} {w w' : World} (h : BoxT p x y z a b o u w) (hb : Below w.heap.size w w') : BoxT p x y z a b o u w' := by
  obtain ⟨h0, h1, h2, h3, h4⟩ := h
  have k0 := World.block_lt_of_cell? w _ h0
  have k1 := World.block_lt_of_cell? w _ h3
  have k2 := World.block_lt_of_cell? w _ h4
  exact ⟨(hb.cell (p := ⟨p, 0, none⟩) k0).trans h0, (hb.cell (p := ⟨p, 1, none⟩) k0).trans h1, (hb.cell (p := ⟨p, 2, none⟩) k0).trans h2, (hb.cell (p := ⟨p + 1, 1, none⟩) k1).trans h3, (hb.cell (p := ⟨b, o, none⟩) k2).trans h4⟩

theorem has_same {M : RM SV} (h : M.Ok) {i j : Nat} (hi : 1 ≤ i ∧ i ≤ M.own.length) (hj : 1 ≤ j ∧ j ≤ M.own.length) : decide ((j : Int) ∈ (M.rowOf i).map natI) = M.sameA (i : Int) (j : Int) := by
  rw [sameA_nat hi hj]
  have e : ((j : Int) ∈ (M.rowOf i).map natI) ↔ M.rowOf i = M.rowOf j := by
    rw [List.mem_map]
    constructor
    · rintro ⟨z, hz, e⟩
      have : z = j := by unfold natI at e; omega
      subst this
      exact (rowOf_of h (row_mem h hi).1 hz).symm
    · intro e; exact ⟨j, by rw [e]; exact (row_mem h hj).2, rfl⟩
  exact decide_eq_decide.2 e

theorem atA_in {M : RM SV} {i q : Nat} (hi : 1 ≤ i ∧ i ≤ M.own.length) (hq : q < (M.rowOf i).length) : M.atA (i : Int) (q : Int) = ((M.rowOf i)[q] : Nat) ∧ M.atE (i : Int) (q : Int) = 0 := by
  refine ⟨?_, ?_⟩
  · unfold RM.atA; rw [if_pos ⟨known_of hi, by omega, by rw [Int.toNat_natCast]; omega⟩, Int.toNat_natCast, Int.toNat_natCast, List.getElem?_eq_getElem hq]; rfl
  · unfold RM.atE; rw [if_pos (known_of hi), if_pos ⟨by omega, by rw [Int.toNat_natCast]; omega⟩]

theorem atA_out {M : RM SV} {i : Nat} {b : Int} (hi : 1 ≤ i ∧ i ≤ M.own.length) (hb : b < 0 ∨ ((M.rowOf i).length : Int) ≤ b) : M.atA (i : Int) b = 0 ∧ M.atE (i : Int) b = 1 := by
  refine ⟨?_, ?_⟩
  · unfold RM.atA; rw [if_neg (by rw [Int.toNat_natCast]; omega)]
  · unfold RM.atE; rw [if_pos (known_of hi), if_neg (by rw [Int.toNat_natCast]; omega)]

theorem atA_not {M : RM SV} {a b : Int} (h : M.known a = false) : M.atA a b = 0 ∧ M.atE a b = 150 := by
  refine ⟨?_, ?_⟩
  · unfold RM.atA; rw [if_neg (by rw [h]; simp)]
  · unfold RM.atE; rw [if_neg (by rw [h]; simp)]

theorem seek_index {M : RM SV} {i : Nat} (hi : 1 ≤ i ∧ i ≤ M.own.length) : M.seekA (i : Int) = (M.firstOf (M.rowOf i) : Nat) ∧ M.indexA (i : Int) = ((M.rowOf i).idxOf i : Nat) := by
  refine ⟨?_, ?_⟩
  · unfold RM.seekA; rw [if_pos (known_of hi), Int.toNat_natCast]
  · unfold RM.indexA; rw [if_pos (known_of hi), Int.toNat_natCast]

theorem seek_index_not {M : RM SV} {a : Int} (h : M.known a = false) : M.seekA a = 0 ∧ M.indexA a = 0 := by
  refine ⟨?_, ?_⟩
  · unfold RM.seekA; rw [if_neg (by rw [h]; simp)]
  · unfold RM.indexA; rw [if_neg (by rw [h]; simp)]

theorem sum_none (M : RM SV) : M.sumTo [] = ⟨0, 0⟩ := rfl

theorem first_none (M : RM SV) : M.firstOf [] = 0 := rfl

theorem okI_none {w : World} : OK encI 1 3 (w.alloc (.cells #[] 3)) w.heap.size (.slice (some ⟨w.heap.size, 0, none⟩) 0 0) (([] : List Nat).map natI) := ⟨by simp, World.ownsRow_lit w #[] 0 (by omega) (by decide) rfl⟩

set_option maxRecDepth 100000 in
set_option maxHeartbeats 16000000 in
theorem tells_known (B : Nat) (w : World) (g : Nat) (v : Value) (M : RM SV) (h : Both B w g v M) (ht : M.Tame) (kd b n m : Int) (i : Nat) (hi : 1 ≤ i ∧ i ≤ M.own.length) :
    Calls Try.prog 16 #[.pointer (some ⟨g, 0, none⟩), v, .agg #[.int .i64 kd, .int .i64 (i : Int), .int .i64 b, .int .i64 n, .int .u8 m]] w fun e w' => e = .returned (.bool true) ∧ Below w.heap.size w w' := by
  have hok := h.rope.ok
  have hfew := h.rope.few
  have hdoc := h.doc
  obtain ⟨rA, rn, rc, nA, nn, nc, mA, mn, mc, xs, rfl, hx⟩ := hdoc
  obtain ⟨e1, e2, e3⟩ := hx.lens
  have HX0 := Lib.hid hx
  have HL := Lib.hid e2
  have HL3 := Lib.hid e3
  obtain ⟨hix, hrow⟩ := ix_at hok hi
  obtain ⟨x, hx1, hxl, hxo⟩ := hx.each.at_ hix
  obtain ⟨b1, o1, rfl, hc⟩ := cellR hx.rows hx1
  rw [hrow] at hxl hxo
  obtain ⟨k, hk⟩ : ∃ k, k = M.rowIx i := ⟨_, rfl⟩
  rw [← hk] at hix hc
  have hkr : k < rn := by omega
  have hkr2 : (k : Int) < (rn : Int) := by omega
  obtain ⟨x1, x2, x3⟩ := x
  dsimp only at hxl hc
  have hl2 : x2 ≤ 65536 := by rw [hxl]; exact Nat.le_trans (row_len hok (row_mem hok hi).1) hfew
  have HXL := Lib.hid hxl
  have HXO := Lib.hid hxo
  have HK := Lib.hid hk
  have HI := Lib.hid hi
  have HKN := Lib.hid (known_of hi)
  clear hx1 hxl hxo hrow hix hk hi
  have HOK := Lib.hid hok
  have HFEW := Lib.hid hfew
  have HTM := Lib.hid ht
  obtain ⟨W0, hW0⟩ : ∃ x, x = (w.alloc (.cells #[.slice (some ⟨b1, o1, none⟩) rn rc, .slice nA nn nc, .slice mA mn mc] 32)).alloc (.cells #[.int .i64 kd, .int .i64 (i : Int), .int .i64 b, .int .i64 n, .int .u8 m] 34) := ⟨_, rfl⟩
  obtain ⟨p0, hp0⟩ : ∃ p, p = w.heap.size := ⟨_, rfl⟩
  have hb0 : Blk W0 p0 32 #[.slice (some ⟨b1, o1, none⟩) rn rc, .slice nA nn nc, .slice mA mn mc] := by rw [hW0, hp0]; exact (Blk.new w _ _).alloc _
  have hb1 : Blk W0 (p0 + 1) 34 #[.int .i64 kd, .int .i64 (i : Int), .int .i64 b, .int .i64 n, .int .u8 m] := by
    rw [hW0, hp0]
    have := Blk.new (w.alloc (.cells #[.slice (some ⟨b1, o1, none⟩) rn rc, .slice nA nn nc, .slice mA mn mc] 32)) 34 #[.int .i64 kd, .int .i64 (i : Int), .int .i64 b, .int .i64 n, .int .u8 m]
    simpa using this
  have hbW0 : Below w.heap.size w W0 := by rw [hW0]; exact ((Below.refl _ w).alloc (Nat.le_refl _) _).alloc (by simp) _
  have H0 := Lib.hid (h.below hbW0)
  have T0 := Lib.hid hbW0
  have HW0 := Lib.hid hW0
  have HP0 := Lib.hid hp0
  have K00 := Lib.hid hb0
  have K10 := Lib.hid hb1
  have HC0 := Lib.hid ((hbW0.cell (p := ⟨b1, o1 + k, none⟩) (World.block_lt_of_cell? w _ hc)).trans hc)
  have HXO0 := Lib.hid (HXO.out.below hbW0)
  clear hc
  clear h hx e1 e2 e3 hok hfew ht hb0 hb1 hbW0 hW0 hp0
  have c1 := K10.out.cell 1
  have c0 := K00.out.cell 0
  have c01 := K00.out.cell 1
  have c02 := K00.out.cell 2
  go_enter Try.func16, Try.ntmps16
  go_upto_region 1 with fail
  rw [← HW0.out]
  simp only [← HP0.out]
  go_wp2_with fail
  refine (docBad W0 B _ M H0.out.doc (i : Int)).mono ?_
  rw [HKN.out]
  rintro e W ⟨rfl, hbl⟩
  clear c1 c0 c01 c02
  have H1 := Lib.hid (H0.out.below hbl)
  have T1 := Lib.hid (T0.out.trans (hbl.mono T0.out.size))
  have K01 := Lib.hid (K00.out.below hbl K00.out.lt)
  have K11 := Lib.hid (K10.out.below hbl K10.out.lt)
  have HC1 := Lib.hid ((hbl.cell (p := ⟨b1, o1 + k, none⟩) (World.block_lt_of_cell? W0 _ HC0.out)).trans HC0.out)
  have HXO1 := Lib.hid (HXO0.out.below hbl)
  clear HC0 HXO0
  clear hbl H0 T0 K00 K10
  go_upto_region 4 with fail
  obtain ⟨p1, hp1⟩ : ∃ p, p = W.heap.size := ⟨_, rfl⟩
  obtain ⟨W1, hW1⟩ : ∃ x, x = W.alloc (.cells #[] 3) := ⟨_, rfl⟩
  have hb1 : Below W.heap.size W W1 := by rw [hW1]; exact (Below.refl _ _).alloc (Nat.le_refl _) _
  have HW1 := Lib.hid hW1
  have HP1 := Lib.hid hp1
  have H2 := Lib.hid (H1.out.below hb1)
  have T2 := Lib.hid (T1.out.trans (hb1.mono T1.out.size))
  have K02 := Lib.hid (K01.out.below hb1 K01.out.lt)
  have K12 := Lib.hid (K11.out.below hb1 K11.out.lt)
  have HC2 := Lib.hid ((hb1.cell (p := ⟨b1, o1 + k, none⟩) (World.block_lt_of_cell? W _ HC1.out)).trans HC1.out)
  have HXO2 := Lib.hid (HXO1.out.below hb1)
  clear hb1 hW1 hp1 H1 T1 K01 K11 HC1 HXO1
  rw [← HW1.out]
  try simp only [← HP1.out]
  have hBX : BoxT p0 (.slice (some ⟨b1, o1, none⟩) rn rc) (.slice nA nn nc) (.slice mA mn mc) (i : Int) b1 (o1 + k) (x1, x2, x3) W1 := ⟨K02.out.cell 0, K02.out.cell 1, K02.out.cell 2, K12.out.cell 1, HC2.out⟩
  have HBX := Lib.hid hBX
  obtain ⟨c0, c1, c2, c3, c4⟩ := hBX
  dsimp only at c4
  go_wp2_with fail
  have HD : Hid (BoxT p0 (.slice (some ⟨b1, o1, none⟩) rn rc) (.slice nA nn nc) (.slice mA mn mc) (i : Int) b1 (o1 + k) (x1, x2, x3) W1.drew) := Lib.hid HBX.out
  go_region_held3 (fun w' => w'.cell? ⟨p0, 0, none⟩ = some (.slice (some ⟨b1, o1, none⟩) rn rc) ∧ w'.cell? ⟨p0, 1, none⟩ = some (.slice nA nn nc) ∧ w'.cell? ⟨p0, 2, none⟩ = some (.slice mA mn mc) ∧ w'.cell? ⟨p0 + 1, 1, none⟩ = some (.int .i64 (i : Int)) ∧ w'.cell? ⟨b1, o1 + k, none⟩ = some (.slice x1 x2 x3)) (first | with_reducible exact HD.out.all | with_reducible exact HC.out.all | fail)
    ((go_at_call 62; refine (docRow _ B _ M (by first | exact H2.out.doc | exact H2.out.doc.below ((Below.refl _ _).drew)) HOK.out i HI.out HFEW.out).mono ?_; rw [← HK.out]; rintro e w4 ⟨rfl, hb4⟩; have HC : Hid (BoxT p0 (.slice (some ⟨b1, o1, none⟩) rn rc) (.slice nA nn nc) (.slice mA mn mc) (i : Int) b1 (o1 + k) (x1, x2, x3) w4) := Lib.hid (HD.out.below hb4); have HB4 : Hid (Below W1.heap.size W1 w4) := Lib.hid ⟨hb4.os, hb4.tape, hb4.output, hb4.size, hb4.block⟩; clear hb4))
  clear c0 c1 c2 c3 c4
  have H3 := Lib.hid (H2.out.below HB4.out)
  have T3 := Lib.hid (T2.out.trans (HB4.out.mono T2.out.size))
  have K03 := Lib.hid (K02.out.below HB4.out K02.out.lt)
  have K13 := Lib.hid (K12.out.below HB4.out K12.out.lt)
  have X3 := Lib.hid (HXO2.out.below HB4.out)
  clear H2 T2 K02 K12 HXO2 HC2 HBX HC HD HB4
  have c0 := K03.out.cell 0
  have c1 := K03.out.cell 1
  have c2 := K03.out.cell 2
  go_wp2_with fail
  refine (docSums w4 B w4.heap.size _ (.slice x1 x2 x3) M (M.rowOf i) H3.out.doc (X3.out.rk encI_len (Nat.le_refl _)) (Nat.le_refl _) (fun j hj => known_row HOK.out HI.out hj) HFEW.out).mono ?_
  obtain ⟨sn, sm, hsv⟩ : ∃ sn sm, M.allA (i : Int) = ⟨sn, sm⟩ := ⟨_, _, rfl⟩
  have hsum : M.sumTo (M.rowOf i) = ⟨sn, sm⟩ := by rw [← hsv]; exact sums_all HOK.out HTM.out HI.out
  rw [hsum]
  have HSV := Lib.hid hsv
  clear hsv hsum
  dsimp only
  rintro e w5 ⟨rfl, hb5⟩
  clear c0 c1 c2
  have D := Lib.hid (H3.out.below hb5)
  have T := Lib.hid (T3.out.trans (hb5.mono T3.out.size))
  have K0 := Lib.hid (K03.out.below hb5 K03.out.lt)
  have K1 := Lib.hid (K13.out.below hb5 K13.out.lt)
  have X := Lib.hid (X3.out.below hb5)
  clear hb5 H3 T3 K03 K13 X3
  have c0 := K0.out.cell 0
  have c1 := K0.out.cell 1
  have c2 := K0.out.cell 2
  have y0 := K1.out.cell 0
  have y1 := K1.out.cell 1
  have y2 := K1.out.cell 2
  by_cases hk5 : kd = 5
  · subst hk5
    by_cases hkb : M.known b = true
    · obtain ⟨j, rfl, hj⟩ := known_nat hkb
      obtain ⟨y, hy⟩ : ∃ y, y = M.sameA (i : Int) (j : Int) := ⟨_, rfl⟩
      have HE : Hid (M.errAB (i : Int) (j : Int) = 0) := Lib.hid (by unfold RM.errAB; rw [if_pos ⟨HKN.out, hkb⟩])
      have HH : Hid (decide ((j : Int) ∈ (M.rowOf i).map natI) = y) := Lib.hid (by rw [hy]; exact has_same HOK.out HI.out hj)
      have HY := Lib.hid hy
      have HKB := Lib.hid hkb
      clear hy hkb hj
      go_wp2_with fail
      refine (bSame B noQ w5 g M D.out.rope (i : Int) (j : Int)).mono ?_
      rw [← HY.out, HE.out]
      rintro e w6 ⟨rfl, h6⟩
      subst w6
      go_wp2_with fail
      refine (docBad w5 B _ M D.out.doc (j : Int)).mono ?_
      rw [HKB.out]
      rintro e w7 ⟨rfl, t7⟩
      have D_1 := Lib.hid (D.out.below t7)
      have T_2 := Lib.hid (T.out.trans (t7.mono T.out.size))
      clear c0
      clear c1
      clear c2
      have K0_3 := Lib.hid (K0.out.below t7 K0.out.lt)
      have c0 := K0_3.out.cell 0
      have c1 := K0_3.out.cell 1
      have c2 := K0_3.out.cell 2
      clear y0
      clear y1
      clear y2
      have K1_4 := Lib.hid (K1.out.below t7 K1.out.lt)
      have y0 := K1_4.out.cell 0
      have y1 := K1_4.out.cell 1
      have y2 := K1_4.out.cell 2
      have X_5 := Lib.hid (X.out.below t7)
      clear D T K0 K1 X
      clear t7
      go_wp2_with fail
      refine (has_any (.slice x1 x2 x3) _ w7 w7.heap.size (X_5.out.rk encI_len (Nat.le_refl _)) (j : Int)).mono ?_
      rw [HH.out]
      rintro e w8 ⟨rfl, h8⟩
      subst w8
      cases y
      · go_wp2_with fail
        go_ret
        exact ⟨rfl, T_2.out⟩
      · go_wp2_with fail
        go_ret
        exact ⟨rfl, T_2.out⟩
    · have hkb' : M.known b = false := by simpa using hkb
      have HNB := Lib.hid (not_known hkb')
      have HE : Hid (M.errAB (i : Int) b = 150) := Lib.hid (by unfold RM.errAB; rw [if_neg (by rw [hkb']; simp)])
      have HKB := Lib.hid hkb'
      clear hkb hkb'
      go_wp2_with fail
      refine (bSame B noQ w5 g M D.out.rope (i : Int) b).mono ?_
      rw [HNB.out.2.2.2.2.2.2.1, HE.out]
      rintro e w6 ⟨rfl, h6⟩
      subst w6
      go_wp2_with fail
      refine (docBad w5 B _ M D.out.doc b).mono ?_
      rw [HKB.out]
      rintro e w7 ⟨rfl, t7⟩
      have D_6 := Lib.hid (D.out.below t7)
      have T_7 := Lib.hid (T.out.trans (t7.mono T.out.size))
      clear c0
      clear c1
      clear c2
      have K0_8 := Lib.hid (K0.out.below t7 K0.out.lt)
      have c0 := K0_8.out.cell 0
      have c1 := K0_8.out.cell 1
      have c2 := K0_8.out.cell 2
      clear y0
      clear y1
      clear y2
      have K1_9 := Lib.hid (K1.out.below t7 K1.out.lt)
      have y0 := K1_9.out.cell 0
      have y1 := K1_9.out.cell 1
      have y2 := K1_9.out.cell 2
      have X_10 := Lib.hid (X.out.below t7)
      clear D T K0 K1 X
      clear t7
      go_wp2_with fail
      go_ret
      exact ⟨rfl, T_7.out⟩
  by_cases hk6 : kd = 6
  · subst hk6
    have HE := Lib.hid (errA_nat HI.out)
    have HQ := Lib.hid (seek_index HI.out).2
    go_wp2_with fail
    refine (bIndex B noQ w5 g M D.out.rope (i : Int)).mono ?_
    rw [HQ.out, HE.out]
    rintro e w6 ⟨rfl, tw6⟩
    have D_11 := Lib.hid (D.out.below tw6)
    have T_12 := Lib.hid (T.out.trans (tw6.mono T.out.size))
    clear c0
    clear c1
    clear c2
    have K0_13 := Lib.hid (K0.out.below tw6 K0.out.lt)
    have c0 := K0_13.out.cell 0
    have c1 := K0_13.out.cell 1
    have c2 := K0_13.out.cell 2
    clear y0
    clear y1
    clear y2
    have K1_14 := Lib.hid (K1.out.below tw6 K1.out.lt)
    have y0 := K1_14.out.cell 0
    have y1 := K1_14.out.cell 1
    have y2 := K1_14.out.cell 2
    have X_15 := Lib.hid (X.out.below tw6)
    clear D T K0 K1 X
    clear tw6
    obtain ⟨q, hq⟩ : ∃ q : Nat, q = (M.rowOf i).idxOf i := ⟨_, rfl⟩
    have HQQ := Lib.hid hq
    rw [← hq]
    clear hq
    go_wp2_with fail
    refine (docIndex w6 B _ M D_11.out.doc HOK.out i HI.out HFEW.out).mono ?_
    rw [← HQQ.out]
    rintro e w7 ⟨rfl, t7⟩
    have D_16 := Lib.hid (D_11.out.below t7)
    have T_17 := Lib.hid (T_12.out.trans (t7.mono T_12.out.size))
    clear c0
    clear c1
    clear c2
    have K0_18 := Lib.hid (K0_13.out.below t7 K0_13.out.lt)
    have c0 := K0_18.out.cell 0
    have c1 := K0_18.out.cell 1
    have c2 := K0_18.out.cell 2
    clear y0
    clear y1
    clear y2
    have K1_19 := Lib.hid (K1_14.out.below t7 K1_14.out.lt)
    have y0 := K1_19.out.cell 0
    have y1 := K1_19.out.cell 1
    have y2 := K1_19.out.cell 2
    have X_20 := Lib.hid (X_15.out.below t7)
    clear D_11 T_12 K0_13 K1_14 X_15
    clear t7
    go_wp2_with fail
    go_ret
    exact ⟨rfl, T_17.out⟩
  by_cases hk7 : kd = 7
  · subst hk7
    by_cases hbq : 0 ≤ b ∧ b < (x2 : Int)
    · obtain ⟨q, rfl⟩ : ∃ q : Nat, b = q := ⟨b.toNat, by omega⟩
      have hqx : q < x2 := by omega
      have hqr : q < (M.rowOf i).length := by rw [← HXL.out]; exact hqx
      obtain ⟨z, hz⟩ : ∃ z : Nat, z = (M.rowOf i)[q] := ⟨_, rfl⟩
      have HA := Lib.hid (atA_in HI.out hqr)
      rw [← hz] at HA
      have HZ := Lib.hid hz
      have HQR := Lib.hid hqr
      clear hz hbq
      go_wp2_with fail
      refine (bAt B noQ w5 g M D.out.rope (i : Int) (q : Int)).mono ?_
      rw [HA.out.1, HA.out.2]
      rintro e w6 ⟨rfl, tw6⟩
      have D_21 := Lib.hid (D.out.below tw6)
      have T_22 := Lib.hid (T.out.trans (tw6.mono T.out.size))
      clear c0
      clear c1
      clear c2
      have K0_23 := Lib.hid (K0.out.below tw6 K0.out.lt)
      have c0 := K0_23.out.cell 0
      have c1 := K0_23.out.cell 1
      have c2 := K0_23.out.cell 2
      clear y0
      clear y1
      clear y2
      have K1_24 := Lib.hid (K1.out.below tw6 K1.out.lt)
      have y0 := K1_24.out.cell 0
      have y1 := K1_24.out.cell 1
      have y2 := K1_24.out.cell 2
      have X_25 := Lib.hid (X.out.below tw6)
      clear D T K0 K1 X
      clear tw6
      obtain ⟨bq, oq, e4, hxq⟩ := OK.cellRow (A := x1) (n := x2) (c := x3) X_25.out (q := q) (by rw [List.length_map]; exact HQR.out)
      subst e4
      have z1 : w6.cell? ⟨bq, oq + q, none⟩ = some (.int .i64 (z : Int)) := by rw [List.getElem_map, ← HZ.out] at hxq; exact hxq
      clear hxq
      have d1 : decide ((q : Int) < 0) = false := by simp
      have d2 : decide ((x2 : Int) ≤ (q : Int)) = false := by simp; omega
      have d3 : decide (x2 ≤ q) = false := by simp; omega
      have d4 : (q : Int) < (x2 : Int) := by omega
      go_wp2_with fail
      go_ret
      exact ⟨rfl, T_22.out⟩
    · have HA := Lib.hid (atA_out (M := M) (b := b) HI.out (by rw [← HXL.out]; omega))
      go_wp2_with fail
      refine (bAt B noQ w5 g M D.out.rope (i : Int) b).mono ?_
      rw [HA.out.1, HA.out.2]
      rintro e w6 ⟨rfl, tw6⟩
      have D_26 := Lib.hid (D.out.below tw6)
      have T_27 := Lib.hid (T.out.trans (tw6.mono T.out.size))
      clear c0
      clear c1
      clear c2
      have K0_28 := Lib.hid (K0.out.below tw6 K0.out.lt)
      have c0 := K0_28.out.cell 0
      have c1 := K0_28.out.cell 1
      have c2 := K0_28.out.cell 2
      clear y0
      clear y1
      clear y2
      have K1_29 := Lib.hid (K1.out.below tw6 K1.out.lt)
      have y0 := K1_29.out.cell 0
      have y1 := K1_29.out.cell 1
      have y2 := K1_29.out.cell 2
      have X_30 := Lib.hid (X.out.below tw6)
      clear D T K0 K1 X
      clear tw6
      by_cases hb0 : b < 0
      · have d1 : decide (b < 0) = true := by simpa using hb0
        go_wp2_with fail
        go_ret
        exact ⟨rfl, T_27.out⟩
      · have d1 : decide (b < 0) = false := by simpa using hb0
        have d2 : decide ((x2 : Int) ≤ b) = true := by simp; omega
        go_wp2_with fail
        go_ret
        exact ⟨rfl, T_27.out⟩
  by_cases hk8 : kd = 8
  · subst hk8
    have HE := Lib.hid (errA_nat HI.out)
    have HR := Lib.hid (rowA_nat HI.out)
    go_wp2_with fail
    refine (bList B noQ w5 g M D.out.rope (i : Int)).mono ?_
    rw [HE.out, HR.out]
    rintro e w6 ⟨v6, rfl, hl6, t6⟩
    have D_31 := Lib.hid (D.out.below t6)
    have T_32 := Lib.hid (T.out.trans (t6.mono T.out.size))
    clear c0
    clear c1
    clear c2
    have K0_33 := Lib.hid (K0.out.below t6 K0.out.lt)
    have c0 := K0_33.out.cell 0
    have c1 := K0_33.out.cell 1
    have c2 := K0_33.out.cell 2
    clear y0
    clear y1
    clear y2
    have K1_34 := Lib.hid (K1.out.below t6 K1.out.lt)
    have y0 := K1_34.out.cell 0
    have y1 := K1_34.out.cell 1
    have y2 := K1_34.out.cell 2
    have X_35 := Lib.hid (X.out.below t6)
    clear D T K0 K1 X
    have L6 := Lib.hid hl6
    clear hl6 t6
    go_wp2_with fail
    refine (SameInts_yes _ _ ((M.rowOf i).map natI) w6 w6.heap.size w6.heap.size (L6.out.rk encI_len (Nat.le_refl _)) (X_35.out.rk encI_len (Nat.le_refl _))).mono ?_
    rintro e w7 ⟨rfl, q, rfl⟩
    have TE := Lib.hid (below_drewN T_32.out q)
    go_wp2_with fail
    go_ret
    exact ⟨rfl, TE.out⟩
  by_cases hk9 : kd = 9
  · subst hk9
    have HE := Lib.hid (errA_nat HI.out)
    have HR := Lib.hid (rowA_nat HI.out)
    go_wp2_with fail
    refine (bAll B noQ w5 g M D.out.rope (i : Int)).mono ?_
    rw [HE.out, HSV.out, show (SV.v ⟨sn, sm⟩ : Value) = .agg #[.int .i64 sn, .int .i64 sm] by rfl]
    rintro e w6 ⟨rfl, t6⟩
    have D_36 := Lib.hid (D.out.below t6)
    have T_37 := Lib.hid (T.out.trans (t6.mono T.out.size))
    clear c0
    clear c1
    clear c2
    have K0_38 := Lib.hid (K0.out.below t6 K0.out.lt)
    have c0 := K0_38.out.cell 0
    have c1 := K0_38.out.cell 1
    have c2 := K0_38.out.cell 2
    clear y0
    clear y1
    clear y2
    have K1_39 := Lib.hid (K1.out.below t6 K1.out.lt)
    have y0 := K1_39.out.cell 0
    have y1 := K1_39.out.cell 1
    have y2 := K1_39.out.cell 2
    have X_40 := Lib.hid (X.out.below t6)
    clear D T K0 K1 X
    clear t6
    go_upto_region 25 with fail
    obtain ⟨p7, hp7⟩ : ∃ p, p = w6.heap.size := ⟨_, rfl⟩
    obtain ⟨W7, hW7⟩ : ∃ x, x = w6.alloc (.cells #[.int .i64 sn, .int .i64 sm] 27) := ⟨_, rfl⟩
    have hbW7 : Below w6.heap.size w6 W7 := by rw [hW7]; exact (Below.refl _ _).alloc (Nat.le_refl _) _
    have hkW7 : Blk W7 p7 27 #[.int .i64 sn, .int .i64 sm] := by rw [hW7, hp7]; exact Blk.new _ _ _
    have HPp7 := Lib.hid hp7
    have HWW7 := Lib.hid hW7
    clear hp7 hW7
    have D_41 := Lib.hid (D_36.out.below hbW7)
    have T_42 := Lib.hid (T_37.out.trans (hbW7.mono T_37.out.size))
    clear c0
    clear c1
    clear c2
    have K0_43 := Lib.hid (K0_38.out.below hbW7 K0_38.out.lt)
    have c0 := K0_43.out.cell 0
    have c1 := K0_43.out.cell 1
    have c2 := K0_43.out.cell 2
    clear y0
    clear y1
    clear y2
    have K1_44 := Lib.hid (K1_39.out.below hbW7 K1_39.out.lt)
    have y0 := K1_44.out.cell 0
    have y1 := K1_44.out.cell 1
    have y2 := K1_44.out.cell 2
    have X_45 := Lib.hid (X_40.out.below hbW7)
    clear D_36 T_37 K0_38 K1_39 X_40
    have Kp7_46 := Lib.hid (hkW7)
    have s0 := Kp7_46.out.cell 0
    have s1 := Kp7_46.out.cell 1
    clear hbW7 hkW7
    rw [← HWW7.out, ← HPp7.out]
    go_wp2_with fail
    refine (bSize B noQ W7 g M D_41.out.rope (i : Int)).mono ?_
    rw [HE.out, HR.out, ← HXL.out]
    rintro e w8 ⟨rfl, tw8⟩
    have D_47 := Lib.hid (D_41.out.below tw8)
    have T_48 := Lib.hid (T_42.out.trans (tw8.mono T_42.out.size))
    clear c0
    clear c1
    clear c2
    have K0_49 := Lib.hid (K0_43.out.below tw8 K0_43.out.lt)
    have c0 := K0_49.out.cell 0
    have c1 := K0_49.out.cell 1
    have c2 := K0_49.out.cell 2
    clear y0
    clear y1
    clear y2
    have K1_50 := Lib.hid (K1_44.out.below tw8 K1_44.out.lt)
    have y0 := K1_50.out.cell 0
    have y1 := K1_50.out.cell 1
    have y2 := K1_50.out.cell 2
    have X_51 := Lib.hid (X_45.out.below tw8)
    clear s0
    clear s1
    have Kp7_52 := Lib.hid (Kp7_46.out.below tw8 Kp7_46.out.lt)
    have s0 := Kp7_52.out.cell 0
    have s1 := Kp7_52.out.cell 1
    clear D_41 T_42 K0_43 K1_44 X_45 Kp7_46
    clear tw8
    go_wp2_with fail
    go_ret
    exact ⟨rfl, T_48.out⟩
  by_cases hk10 : kd = 10
  · subst hk10
    have HE := Lib.hid (errA_nat HI.out)
    have HQ := Lib.hid (seek_index HI.out).1
    go_wp2_with fail
    refine (bSeek B noQ w5 g M D.out.rope HTM.out.fit (i : Int)).mono ?_
    rw [HQ.out, HE.out]
    rintro e w6 ⟨rfl, t6⟩
    have D_53 := Lib.hid (D.out.below t6)
    have T_54 := Lib.hid (T.out.trans (t6.mono T.out.size))
    clear c0
    clear c1
    clear c2
    have K0_55 := Lib.hid (K0.out.below t6 K0.out.lt)
    have c0 := K0_55.out.cell 0
    have c1 := K0_55.out.cell 1
    have c2 := K0_55.out.cell 2
    clear y0
    clear y1
    clear y2
    have K1_56 := Lib.hid (K1.out.below t6 K1.out.lt)
    have y0 := K1_56.out.cell 0
    have y1 := K1_56.out.cell 1
    have y2 := K1_56.out.cell 2
    have X_57 := Lib.hid (X.out.below t6)
    clear D T K0 K1 X
    clear t6
    obtain ⟨q, hq⟩ : ∃ q : Nat, q = M.firstOf (M.rowOf i) := ⟨_, rfl⟩
    have HQQ := Lib.hid hq
    rw [← hq]
    clear hq
    go_wp2_with fail
    refine (docFirst w6 B w6.heap.size _ (.slice x1 x2 x3) M (M.rowOf i) D_53.out.doc (X_57.out.rk encI_len (Nat.le_refl _)) (Nat.le_refl _) (fun j hj => known_row HOK.out HI.out hj) HFEW.out).mono ?_
    rw [← HQQ.out]
    rintro e w7 ⟨rfl, t7⟩
    have D_58 := Lib.hid (D_53.out.below t7)
    have T_59 := Lib.hid (T_54.out.trans (t7.mono T_54.out.size))
    clear c0
    clear c1
    clear c2
    have K0_60 := Lib.hid (K0_55.out.below t7 K0_55.out.lt)
    have c0 := K0_60.out.cell 0
    have c1 := K0_60.out.cell 1
    have c2 := K0_60.out.cell 2
    clear y0
    clear y1
    clear y2
    have K1_61 := Lib.hid (K1_56.out.below t7 K1_56.out.lt)
    have y0 := K1_61.out.cell 0
    have y1 := K1_61.out.cell 1
    have y2 := K1_61.out.cell 2
    have X_62 := Lib.hid (X_57.out.below t7)
    clear D_53 T_54 K0_55 K1_56 X_57
    clear t7
    go_wp2_with fail
    go_ret
    exact ⟨rfl, T_59.out⟩
  by_cases hk11 : kd = 11
  · subst hk11
    have HE := Lib.hid (errA_nat HI.out)
    have HVA := Lib.hid (valA_nat HI.out)
    obtain ⟨vn, vm, hvv⟩ : ∃ vn vm, M.val i = ⟨vn, vm⟩ := ⟨_, _, rfl⟩
    have HVV := Lib.hid hvv
    clear hvv
    go_wp2_with fail
    refine (bValue B noQ w5 g M D.out.rope (i : Int)).mono ?_
    rw [HE.out, HVA.out, HVV.out, show (SV.v ⟨vn, vm⟩ : Value) = .agg #[.int .i64 vn, .int .i64 vm] by rfl]
    rintro e w6 ⟨rfl, t6⟩
    have D_63 := Lib.hid (D.out.below t6)
    have T_64 := Lib.hid (T.out.trans (t6.mono T.out.size))
    clear c0
    clear c1
    clear c2
    have K0_65 := Lib.hid (K0.out.below t6 K0.out.lt)
    have c0 := K0_65.out.cell 0
    have c1 := K0_65.out.cell 1
    have c2 := K0_65.out.cell 2
    clear y0
    clear y1
    clear y2
    have K1_66 := Lib.hid (K1.out.below t6 K1.out.lt)
    have y0 := K1_66.out.cell 0
    have y1 := K1_66.out.cell 1
    have y2 := K1_66.out.cell 2
    have X_67 := Lib.hid (X.out.below t6)
    clear D T K0 K1 X
    clear t6
    go_upto_region 32 with fail
    obtain ⟨p7, hp7⟩ : ∃ p, p = w6.heap.size := ⟨_, rfl⟩
    obtain ⟨W7, hW7⟩ : ∃ x, x = w6.alloc (.cells #[.int .i64 vn, .int .i64 vm] 27) := ⟨_, rfl⟩
    have hbW7 : Below w6.heap.size w6 W7 := by rw [hW7]; exact (Below.refl _ _).alloc (Nat.le_refl _) _
    have hkW7 : Blk W7 p7 27 #[.int .i64 vn, .int .i64 vm] := by rw [hW7, hp7]; exact Blk.new _ _ _
    have HPp7 := Lib.hid hp7
    have HWW7 := Lib.hid hW7
    clear hp7 hW7
    have D_68 := Lib.hid (D_63.out.below hbW7)
    have T_69 := Lib.hid (T_64.out.trans (hbW7.mono T_64.out.size))
    clear c0
    clear c1
    clear c2
    have K0_70 := Lib.hid (K0_65.out.below hbW7 K0_65.out.lt)
    have c0 := K0_70.out.cell 0
    have c1 := K0_70.out.cell 1
    have c2 := K0_70.out.cell 2
    clear y0
    clear y1
    clear y2
    have K1_71 := Lib.hid (K1_66.out.below hbW7 K1_66.out.lt)
    have y0 := K1_71.out.cell 0
    have y1 := K1_71.out.cell 1
    have y2 := K1_71.out.cell 2
    have X_72 := Lib.hid (X_67.out.below hbW7)
    clear D_63 T_64 K0_65 K1_66 X_67
    have Kp7_73 := Lib.hid (hkW7)
    have s0 := Kp7_73.out.cell 0
    have s1 := Kp7_73.out.cell 1
    clear hbW7 hkW7
    rw [← HWW7.out, ← HPp7.out]
    have HDX : Hid (DocAt W7 B (.agg #[.slice (some ⟨b1, o1, none⟩) rn rc, .slice nA nn nc, .slice mA mn mc]) M) := Lib.hid D_68.out.doc
    obtain ⟨z, hz⟩ : ∃ z, i = z + 1 := ⟨i - 1, by have := HI.out; omega⟩
    subst hz
    have hzk : z < M.own.length := by have := HI.out; omega
    obtain ⟨rA', rn', rc', nA', nn', nc', mA', mn', mc', xs', e9, hx9⟩ := HDX.out
    injection e9 with e9
    injection e9 with e9
    injection e9 with f1 f2
    injection f2 with f2 f3
    injection f3 with f3 f4
    injection f1 with f5 f6 f7
    injection f2 with f8 f9 g0
    injection f3 with g1 g2 g3
    subst f5 f6 f7 f8 f9 g0 g1 g2 g3
    obtain ⟨⟨nb, no, rfl, hnc⟩, mb, mo, rfl, hmc⟩ := hx9.nAt hzk
    rw [HVV.out] at hnc hmc
    dsimp only at hnc hmc
    have hzn : z < nn := by have := HL.out; omega
    have hzm : z < mn := by have := HL3.out; omega
    have hz1 : (z : Int) < (nn : Int) := by omega
    have hz2 : (z : Int) < (mn : Int) := by omega
    obtain ⟨q1, q2, q3⟩ := pred_wrap z (by have := HFEW.out; omega)
    have HX9 := Lib.hid hx9
    clear hx9 hzk f4 q3
    try simp only [Int.natCast_add, Int.natCast_one] at y1
    go_wp2_with fail
    go_quiet (fail)
    go_wp2_with fail
    go_ret
    exact ⟨rfl, below_drewN T_69.out _⟩
  have g5 : (kd == 5) = false := by simpa using hk5
  have g6 : (kd == 6) = false := by simpa using hk6
  have g7 : (kd == 7) = false := by simpa using hk7
  have g8 : (kd == 8) = false := by simpa using hk8
  have g9 : (kd == 9) = false := by simpa using hk9
  have g10 : (kd == 10) = false := by simpa using hk10
  have g11 : (kd == 11) = false := by simpa using hk11
  go_wp2_with fail
  go_ret
  exact ⟨rfl, T.out⟩

set_option maxRecDepth 100000 in
set_option maxHeartbeats 16000000 in
theorem tells_not (B : Nat) (w : World) (g : Nat) (v : Value) (M : RM SV) (h : Both B w g v M) (ht : M.Tame) (kd a b n m : Int) (ha : M.known a = false) :
    Calls Try.prog 16 #[.pointer (some ⟨g, 0, none⟩), v, .agg #[.int .i64 kd, .int .i64 a, .int .i64 b, .int .i64 n, .int .u8 m]] w fun e w' => e = .returned (.bool true) ∧ Below w.heap.size w w' := by
  have hok := h.rope.ok
  have hfew := h.rope.few
  have hdoc := h.doc
  obtain ⟨rA, rn, rc, nA, nn, nc, mA, mn, mc, xs, rfl, hx⟩ := hdoc
  obtain ⟨e1, e2, e3⟩ := hx.lens
  have HX0 := Lib.hid hx
  have HL := Lib.hid e2
  have HL3 := Lib.hid e3
  have HKN := Lib.hid ha
  have HNK := Lib.hid (not_known ha)
  clear ha
  have HOK := Lib.hid hok
  have HFEW := Lib.hid hfew
  have HTM := Lib.hid ht
  obtain ⟨W0, hW0⟩ : ∃ x, x = (w.alloc (.cells #[.slice rA rn rc, .slice nA nn nc, .slice mA mn mc] 32)).alloc (.cells #[.int .i64 kd, .int .i64 a, .int .i64 b, .int .i64 n, .int .u8 m] 34) := ⟨_, rfl⟩
  obtain ⟨p0, hp0⟩ : ∃ p, p = w.heap.size := ⟨_, rfl⟩
  have hb0 : Blk W0 p0 32 #[.slice rA rn rc, .slice nA nn nc, .slice mA mn mc] := by rw [hW0, hp0]; exact (Blk.new w _ _).alloc _
  have hb1 : Blk W0 (p0 + 1) 34 #[.int .i64 kd, .int .i64 a, .int .i64 b, .int .i64 n, .int .u8 m] := by
    rw [hW0, hp0]
    have := Blk.new (w.alloc (.cells #[.slice rA rn rc, .slice nA nn nc, .slice mA mn mc] 32)) 34 #[.int .i64 kd, .int .i64 a, .int .i64 b, .int .i64 n, .int .u8 m]
    simpa using this
  have hbW0 : Below w.heap.size w W0 := by rw [hW0]; exact ((Below.refl _ w).alloc (Nat.le_refl _) _).alloc (by simp) _
  have H0 := Lib.hid (h.below hbW0)
  have T0 := Lib.hid hbW0
  have HW0 := Lib.hid hW0
  have HP0 := Lib.hid hp0
  have K00 := Lib.hid hb0
  have K10 := Lib.hid hb1
  clear h hx e1 e2 e3 hok hfew ht hb0 hb1 hbW0 hW0 hp0
  have c1 := K10.out.cell 1
  have c0 := K00.out.cell 0
  have c01 := K00.out.cell 1
  have c02 := K00.out.cell 2
  go_enter Try.func16, Try.ntmps16
  go_upto_region 1 with fail
  rw [← HW0.out]
  simp only [← HP0.out]
  go_wp2_with fail
  refine (docBad W0 B _ M H0.out.doc a).mono ?_
  rw [HKN.out]
  rintro e W ⟨rfl, hbl⟩
  clear c1 c0 c01 c02
  have H1 := Lib.hid (H0.out.below hbl)
  have T1 := Lib.hid (T0.out.trans (hbl.mono T0.out.size))
  have K01 := Lib.hid (K00.out.below hbl K00.out.lt)
  have K11 := Lib.hid (K10.out.below hbl K10.out.lt)
  clear hbl H0 T0 K00 K10
  go_upto_region 5 with fail
  obtain ⟨p1, hp1⟩ : ∃ p, p = W.heap.size := ⟨_, rfl⟩
  obtain ⟨W1, hW1⟩ : ∃ x, x = W.alloc (.cells #[] 3) := ⟨_, rfl⟩
  have hb1 : Below W.heap.size W W1 := by rw [hW1]; exact (Below.refl _ _).alloc (Nat.le_refl _) _
  have HW1 := Lib.hid hW1
  have HP1 := Lib.hid hp1
  have H2 := Lib.hid (H1.out.below hb1)
  have T2 := Lib.hid (T1.out.trans (hb1.mono T1.out.size))
  have K02 := Lib.hid (K01.out.below hb1 K01.out.lt)
  have K12 := Lib.hid (K11.out.below hb1 K11.out.lt)
  have X2 : Hid (OK encI 1 3 W1 p1 (.slice (some ⟨p1, 0, none⟩) 0 0) (([] : List Nat).map natI)) := Lib.hid (by rw [hW1, hp1]; exact okI_none)
  clear hb1 hW1 hp1 H1 T1 K01 K11
  rw [← HW1.out]
  try simp only [← HP1.out]
  have H3 := H2
  have T3 := T2
  have K03 := K02
  have K13 := K12
  have X3 := X2
  clear H2 T2 K02 K12 X2
  have c0 := K03.out.cell 0
  have c1 := K03.out.cell 1
  have c2 := K03.out.cell 2
  go_wp2_with fail
  refine (docSums W1 B W1.heap.size _ (.slice (some ⟨p1, 0, none⟩) 0 0) M ([] : List Nat) H3.out.doc (X3.out.rk encI_len (Nat.le_refl _)) (Nat.le_refl _) (fun j hj => nomatch hj) HFEW.out).mono ?_
  rw [sum_none]
  dsimp only
  rintro e w5 ⟨rfl, hb5⟩
  clear c0 c1 c2
  have D := Lib.hid (H3.out.below hb5)
  have T := Lib.hid (T3.out.trans (hb5.mono T3.out.size))
  have K0 := Lib.hid (K03.out.below hb5 K03.out.lt)
  have K1 := Lib.hid (K13.out.below hb5 K13.out.lt)
  have X := Lib.hid (X3.out.below hb5)
  clear hb5 H3 T3 K03 K13 X3
  have c0 := K0.out.cell 0
  have c1 := K0.out.cell 1
  have c2 := K0.out.cell 2
  have y0 := K1.out.cell 0
  have y1 := K1.out.cell 1
  have y2 := K1.out.cell 2
  by_cases hk5 : kd = 5
  · subst hk5
    have HE : Hid (M.errAB a b = 150) := Lib.hid (by unfold RM.errAB; rw [if_neg (by rw [HKN.out]; simp)])
    go_wp2_with fail
    refine (bSame B noQ w5 g M D.out.rope a b).mono ?_
    rw [HNK.out.2.2.2.2.2.1, HE.out]
    rintro e w6 ⟨rfl, h6⟩
    subst w6
    go_wp2_with fail
    go_ret
    exact ⟨rfl, T.out⟩
  by_cases hk6 : kd = 6
  · subst hk6
    go_wp2_with fail
    refine (bIndex B noQ w5 g M D.out.rope a).mono ?_
    rw [(seek_index_not HKN.out).2, HNK.out.2.1]
    rintro e w6 ⟨rfl, tw6⟩
    have D_1 := Lib.hid (D.out.below tw6)
    have T_2 := Lib.hid (T.out.trans (tw6.mono T.out.size))
    clear c0
    clear c1
    clear c2
    have K0_3 := Lib.hid (K0.out.below tw6 K0.out.lt)
    have c0 := K0_3.out.cell 0
    have c1 := K0_3.out.cell 1
    have c2 := K0_3.out.cell 2
    clear y0
    clear y1
    clear y2
    have K1_4 := Lib.hid (K1.out.below tw6 K1.out.lt)
    have y0 := K1_4.out.cell 0
    have y1 := K1_4.out.cell 1
    have y2 := K1_4.out.cell 2
    have X_5 := Lib.hid (X.out.below tw6)
    clear D T K0 K1 X
    clear tw6
    go_wp2_with fail
    go_ret
    exact ⟨rfl, T_2.out⟩
  by_cases hk7 : kd = 7
  · subst hk7
    go_wp2_with fail
    refine (bAt B noQ w5 g M D.out.rope a b).mono ?_
    rw [(atA_not HKN.out).1, (atA_not HKN.out).2]
    rintro e w6 ⟨rfl, tw6⟩
    have D_6 := Lib.hid (D.out.below tw6)
    have T_7 := Lib.hid (T.out.trans (tw6.mono T.out.size))
    clear c0
    clear c1
    clear c2
    have K0_8 := Lib.hid (K0.out.below tw6 K0.out.lt)
    have c0 := K0_8.out.cell 0
    have c1 := K0_8.out.cell 1
    have c2 := K0_8.out.cell 2
    clear y0
    clear y1
    clear y2
    have K1_9 := Lib.hid (K1.out.below tw6 K1.out.lt)
    have y0 := K1_9.out.cell 0
    have y1 := K1_9.out.cell 1
    have y2 := K1_9.out.cell 2
    have X_10 := Lib.hid (X.out.below tw6)
    clear D T K0 K1 X
    clear tw6
    go_wp2_with fail
    go_ret
    exact ⟨rfl, T_7.out⟩
  by_cases hk8 : kd = 8
  · subst hk8
    go_wp2_with fail
    refine (bList B noQ w5 g M D.out.rope a).mono ?_
    rw [HNK.out.2.1, HNK.out.1]
    rintro e w6 ⟨v6, rfl, hl6, t6⟩
    have D_11 := Lib.hid (D.out.below t6)
    have T_12 := Lib.hid (T.out.trans (t6.mono T.out.size))
    clear c0
    clear c1
    clear c2
    have K0_13 := Lib.hid (K0.out.below t6 K0.out.lt)
    have c0 := K0_13.out.cell 0
    have c1 := K0_13.out.cell 1
    have c2 := K0_13.out.cell 2
    clear y0
    clear y1
    clear y2
    have K1_14 := Lib.hid (K1.out.below t6 K1.out.lt)
    have y0 := K1_14.out.cell 0
    have y1 := K1_14.out.cell 1
    have y2 := K1_14.out.cell 2
    have X_15 := Lib.hid (X.out.below t6)
    clear D T K0 K1 X
    have L6 := Lib.hid hl6
    clear hl6 t6
    go_wp2_with fail
    refine (SameInts_yes _ _ (([] : List Nat).map natI) w6 w6.heap.size w6.heap.size (L6.out.rk encI_len (Nat.le_refl _)) (X_15.out.rk encI_len (Nat.le_refl _))).mono ?_
    rintro e w7 ⟨rfl, q, rfl⟩
    have TE := Lib.hid (below_drewN T_12.out q)
    go_wp2_with fail
    go_ret
    exact ⟨rfl, TE.out⟩
  by_cases hk9 : kd = 9
  · subst hk9
    go_wp2_with fail
    refine (bAll B noQ w5 g M D.out.rope a).mono ?_
    rw [HNK.out.2.1, HNK.out.2.2.2.1, show (SV.v ⟨0, 0⟩ : Value) = .agg #[.int .i64 0, .int .i64 0] by rfl]
    rintro e w6 ⟨rfl, t6⟩
    have D_16 := Lib.hid (D.out.below t6)
    have T_17 := Lib.hid (T.out.trans (t6.mono T.out.size))
    clear c0
    clear c1
    clear c2
    have K0_18 := Lib.hid (K0.out.below t6 K0.out.lt)
    have c0 := K0_18.out.cell 0
    have c1 := K0_18.out.cell 1
    have c2 := K0_18.out.cell 2
    clear y0
    clear y1
    clear y2
    have K1_19 := Lib.hid (K1.out.below t6 K1.out.lt)
    have y0 := K1_19.out.cell 0
    have y1 := K1_19.out.cell 1
    have y2 := K1_19.out.cell 2
    have X_20 := Lib.hid (X.out.below t6)
    clear D T K0 K1 X
    clear t6
    go_upto_region 25 with fail
    obtain ⟨p7, hp7⟩ : ∃ p, p = w6.heap.size := ⟨_, rfl⟩
    obtain ⟨W7, hW7⟩ : ∃ x, x = w6.alloc (.cells #[.int .i64 0, .int .i64 0] 27) := ⟨_, rfl⟩
    have hbW7 : Below w6.heap.size w6 W7 := by rw [hW7]; exact (Below.refl _ _).alloc (Nat.le_refl _) _
    have hkW7 : Blk W7 p7 27 #[.int .i64 0, .int .i64 0] := by rw [hW7, hp7]; exact Blk.new _ _ _
    have HPp7 := Lib.hid hp7
    have HWW7 := Lib.hid hW7
    clear hp7 hW7
    have D_21 := Lib.hid (D_16.out.below hbW7)
    have T_22 := Lib.hid (T_17.out.trans (hbW7.mono T_17.out.size))
    clear c0
    clear c1
    clear c2
    have K0_23 := Lib.hid (K0_18.out.below hbW7 K0_18.out.lt)
    have c0 := K0_23.out.cell 0
    have c1 := K0_23.out.cell 1
    have c2 := K0_23.out.cell 2
    clear y0
    clear y1
    clear y2
    have K1_24 := Lib.hid (K1_19.out.below hbW7 K1_19.out.lt)
    have y0 := K1_24.out.cell 0
    have y1 := K1_24.out.cell 1
    have y2 := K1_24.out.cell 2
    have X_25 := Lib.hid (X_20.out.below hbW7)
    clear D_16 T_17 K0_18 K1_19 X_20
    have Kp7_26 := Lib.hid (hkW7)
    have s0 := Kp7_26.out.cell 0
    have s1 := Kp7_26.out.cell 1
    clear hbW7 hkW7
    rw [← HWW7.out, ← HPp7.out]
    go_wp2_with fail
    refine (bSize B noQ W7 g M D_21.out.rope a).mono ?_
    rw [HNK.out.2.1, HNK.out.1]
    rintro e w8 ⟨rfl, tw8⟩
    have D_27 := Lib.hid (D_21.out.below tw8)
    have T_28 := Lib.hid (T_22.out.trans (tw8.mono T_22.out.size))
    clear c0
    clear c1
    clear c2
    have K0_29 := Lib.hid (K0_23.out.below tw8 K0_23.out.lt)
    have c0 := K0_29.out.cell 0
    have c1 := K0_29.out.cell 1
    have c2 := K0_29.out.cell 2
    clear y0
    clear y1
    clear y2
    have K1_30 := Lib.hid (K1_24.out.below tw8 K1_24.out.lt)
    have y0 := K1_30.out.cell 0
    have y1 := K1_30.out.cell 1
    have y2 := K1_30.out.cell 2
    have X_31 := Lib.hid (X_25.out.below tw8)
    clear s0
    clear s1
    have Kp7_32 := Lib.hid (Kp7_26.out.below tw8 Kp7_26.out.lt)
    have s0 := Kp7_32.out.cell 0
    have s1 := Kp7_32.out.cell 1
    clear D_21 T_22 K0_23 K1_24 X_25 Kp7_26
    clear tw8
    go_wp2_with fail
    go_ret
    exact ⟨rfl, T_28.out⟩
  by_cases hk10 : kd = 10
  · subst hk10
    go_wp2_with fail
    refine (bSeek B noQ w5 g M D.out.rope HTM.out.fit a).mono ?_
    rw [(seek_index_not HKN.out).1, HNK.out.2.1]
    rintro e w6 ⟨rfl, t6⟩
    have D_33 := Lib.hid (D.out.below t6)
    have T_34 := Lib.hid (T.out.trans (t6.mono T.out.size))
    clear c0
    clear c1
    clear c2
    have K0_35 := Lib.hid (K0.out.below t6 K0.out.lt)
    have c0 := K0_35.out.cell 0
    have c1 := K0_35.out.cell 1
    have c2 := K0_35.out.cell 2
    clear y0
    clear y1
    clear y2
    have K1_36 := Lib.hid (K1.out.below t6 K1.out.lt)
    have y0 := K1_36.out.cell 0
    have y1 := K1_36.out.cell 1
    have y2 := K1_36.out.cell 2
    have X_37 := Lib.hid (X.out.below t6)
    clear D T K0 K1 X
    clear t6
    go_wp2_with fail
    refine (docFirst w6 B w6.heap.size _ (.slice (some ⟨p1, 0, none⟩) 0 0) M ([] : List Nat) D_33.out.doc (X_37.out.rk encI_len (Nat.le_refl _)) (Nat.le_refl _) (fun j hj => nomatch hj) HFEW.out).mono ?_
    rw [first_none]
    rintro e w7 ⟨rfl, t7⟩
    have D_38 := Lib.hid (D_33.out.below t7)
    have T_39 := Lib.hid (T_34.out.trans (t7.mono T_34.out.size))
    clear c0
    clear c1
    clear c2
    have K0_40 := Lib.hid (K0_35.out.below t7 K0_35.out.lt)
    have c0 := K0_40.out.cell 0
    have c1 := K0_40.out.cell 1
    have c2 := K0_40.out.cell 2
    clear y0
    clear y1
    clear y2
    have K1_41 := Lib.hid (K1_36.out.below t7 K1_36.out.lt)
    have y0 := K1_41.out.cell 0
    have y1 := K1_41.out.cell 1
    have y2 := K1_41.out.cell 2
    have X_42 := Lib.hid (X_37.out.below t7)
    clear D_33 T_34 K0_35 K1_36 X_37
    clear t7
    go_wp2_with fail
    go_ret
    exact ⟨rfl, T_39.out⟩
  by_cases hk11 : kd = 11
  · subst hk11
    go_wp2_with fail
    refine (bValue B noQ w5 g M D.out.rope a).mono ?_
    rw [HNK.out.2.1, HNK.out.2.2.1, show (SV.v ⟨0, 0⟩ : Value) = .agg #[.int .i64 0, .int .i64 0] by rfl]
    rintro e w6 ⟨rfl, t6⟩
    have D_43 := Lib.hid (D.out.below t6)
    have T_44 := Lib.hid (T.out.trans (t6.mono T.out.size))
    clear c0
    clear c1
    clear c2
    have K0_45 := Lib.hid (K0.out.below t6 K0.out.lt)
    have c0 := K0_45.out.cell 0
    have c1 := K0_45.out.cell 1
    have c2 := K0_45.out.cell 2
    clear y0
    clear y1
    clear y2
    have K1_46 := Lib.hid (K1.out.below t6 K1.out.lt)
    have y0 := K1_46.out.cell 0
    have y1 := K1_46.out.cell 1
    have y2 := K1_46.out.cell 2
    have X_47 := Lib.hid (X.out.below t6)
    clear D T K0 K1 X
    clear t6
    go_upto_region 32 with fail
    obtain ⟨p7, hp7⟩ : ∃ p, p = w6.heap.size := ⟨_, rfl⟩
    obtain ⟨W7, hW7⟩ : ∃ x, x = w6.alloc (.cells #[.int .i64 0, .int .i64 0] 27) := ⟨_, rfl⟩
    have hbW7 : Below w6.heap.size w6 W7 := by rw [hW7]; exact (Below.refl _ _).alloc (Nat.le_refl _) _
    have hkW7 : Blk W7 p7 27 #[.int .i64 0, .int .i64 0] := by rw [hW7, hp7]; exact Blk.new _ _ _
    have HPp7 := Lib.hid hp7
    have HWW7 := Lib.hid hW7
    clear hp7 hW7
    have D_48 := Lib.hid (D_43.out.below hbW7)
    have T_49 := Lib.hid (T_44.out.trans (hbW7.mono T_44.out.size))
    clear c0
    clear c1
    clear c2
    have K0_50 := Lib.hid (K0_45.out.below hbW7 K0_45.out.lt)
    have c0 := K0_50.out.cell 0
    have c1 := K0_50.out.cell 1
    have c2 := K0_50.out.cell 2
    clear y0
    clear y1
    clear y2
    have K1_51 := Lib.hid (K1_46.out.below hbW7 K1_46.out.lt)
    have y0 := K1_51.out.cell 0
    have y1 := K1_51.out.cell 1
    have y2 := K1_51.out.cell 2
    have X_52 := Lib.hid (X_47.out.below hbW7)
    clear D_43 T_44 K0_45 K1_46 X_47
    have Kp7_53 := Lib.hid (hkW7)
    have s0 := Kp7_53.out.cell 0
    have s1 := Kp7_53.out.cell 1
    clear hbW7 hkW7
    rw [← HWW7.out, ← HPp7.out]
    go_wp2_with fail
    go_quiet (fail)
    go_wp2_with fail
    go_ret
    exact ⟨rfl, below_drewN T_49.out _⟩
  have g5 : (kd == 5) = false := by simpa using hk5
  have g6 : (kd == 6) = false := by simpa using hk6
  have g7 : (kd == 7) = false := by simpa using hk7
  have g8 : (kd == 8) = false := by simpa using hk8
  have g9 : (kd == 9) = false := by simpa using hk9
  have g10 : (kd == 10) = false := by simpa using hk10
  have g11 : (kd == 11) = false := by simpa using hk11
  go_wp2_with fail
  go_ret
  exact ⟨rfl, T.out⟩

theorem docTells (B : Nat) (w : World) (g : Nat) (v : Value) (M : RM SV) (h : Both B w g v M) (ht : M.Tame) (kd a b n m : Int) :
    Calls Try.prog 16 #[.pointer (some ⟨g, 0, none⟩), v, .agg #[.int .i64 kd, .int .i64 a, .int .i64 b, .int .i64 n, .int .u8 m]] w fun e w' => e = .returned (.bool true) ∧ Below w.heap.size w w' := by
  by_cases hka : M.known a = true
  · obtain ⟨i, rfl, hi⟩ := known_nat hka
    exact tells_known B w g v M h ht kd b n m i hi
  · exact tells_not B w g v M h ht kd a b n m (by simpa using hka)

end Go.Proofs.Ytbbfnbnjaiimgaa
