/-
  The law's changes against the document's rope.
-/
import Derived.Test.YtbbfnbnjaiimgaaZRQ6
namespace Go.Proofs.Ytbbfnbnjaiimgaa
open Go.RowKit
set_option linter.unusedVariables false

theorem DocAt.tame {w w' : World} {B B0 : Nat} {Q : Nat → Prop} {v : Value} {M : RM SV} (h : DocAt w B v M) (ht : TameR B0 Q w w') : DocAt w' B v M := by
  obtain ⟨rA, rn, rc, nA, nn, nc, mA, mn, mc, xs, e, h⟩ := h
  exact ⟨rA, rn, rc, nA, nn, nc, mA, mn, mc, xs, e, ⟨ht.row (by decide) (by decide) h.rows, h.each.map (fun v zs hz => ht.row (by decide) (by decide) hz), ht.row (by decide) (by decide) h.ns, ht.row (by decide) (by decide) h.ms⟩⟩

theorem DocAt.setBlk {w : World} {B g : Nat} {v : Value} {M : RM SV} {cs : Array Value} (h : DocAt w B v M) (hb : Blk w g 32 cs) (j : Nat) (u : Value) : DocAt (w.setCell ⟨g, j, none⟩ u) B v M := by
  obtain ⟨rA, rn, rc, nA, nn, nc, mA, mn, mc, xs, e, h⟩ := h
  exact ⟨rA, rn, rc, nA, nn, nc, mA, mn, mc, xs, e, ⟨h.rows.setBlk hb (by decide) j u, h.each.map (fun v zs hz => hz.setBlk hb (by decide) j u), h.ns.setBlk hb (by decide) j u, h.ms.setBlk hb (by decide) j u⟩⟩

/-- What a law keeps of a rope and of the document's. -/
structure Both (B : Nat) (w : World) (g : Nat) (v : Value) (M : RM SV) : Prop where
  rope : RpB B noQ w g M
  doc : DocAt w B v M

theorem Both.below {B : Nat} {w w' : World} {g : Nat} {v : Value} {M : RM SV} (h : Both B w g v M) (hb : Below w.heap.size w w') : Both B w' g v M := ⟨h.rope.below hb, h.doc.below hb⟩

theorem fin4 {B : Nat} {w w2 : World} {g p : Nat} {v : Value} {M : RM SV} {cs : Array Value} (h : Both B w2 g v M) (hb : Blk w2 p 32 cs) (ht : TameR B noQ w w2) (hB : B ≤ w.heap.size) (hp : w.heap.size ≤ p) (x y z : Value) :
    Both B (((w2.setCell ⟨p, 0, none⟩ x).setCell ⟨p, 1, none⟩ y).setCell ⟨p, 2, none⟩ z) g v M ∧ TameR B noQ w (((w2.setCell ⟨p, 0, none⟩ x).setCell ⟨p, 1, none⟩ y).setCell ⟨p, 2, none⟩ z) := by
  obtain ⟨k1, k2⟩ := done3 h.rope hb ht hB hp x y z
  exact ⟨⟨k1, ((h.doc.setBlk hb 0 x).setBlk (hb.set_ 0 x) 1 y).setBlk ((hb.set_ 0 x).set_ 1 y) 2 z⟩, k2⟩

/-- What a region reads of a rope's box and of a call's. -/
def Box5 (p : Nat) (x y z : Value) (a b n m : Int) (w : World) : Prop := w.cell? ⟨p, 0, none⟩ = some x ∧ w.cell? ⟨p, 1, none⟩ = some y ∧ w.cell? ⟨p, 2, none⟩ = some z ∧ w.cell? ⟨p + 1, 1, none⟩ = some (.int .i64 a) ∧ w.cell? ⟨p + 1, 2, none⟩ = some (.int .i64 b) ∧ w.cell? ⟨p + 1, 3, none⟩ = some (.int .i64 n) ∧ w.cell? ⟨p + 1, 4, none⟩ = some (.int .u8 m)

theorem Box5.all {p : Nat} {x y z : Value} {a b n m : Int} {w : World} (h : Box5 p x y z a b n m w) : w.cell? ⟨p, 0, none⟩ = some x ∧ w.cell? ⟨p, 1, none⟩ = some y ∧ w.cell? ⟨p, 2, none⟩ = some z ∧ w.cell? ⟨p + 1, 1, none⟩ = some (.int .i64 a) ∧ w.cell? ⟨p + 1, 2, none⟩ = some (.int .i64 b) ∧ w.cell? ⟨p + 1, 3, none⟩ = some (.int .i64 n) ∧ w.cell? ⟨p + 1, 4, none⟩ = some (.int .u8 m) := h

theorem box5_of {p : Nat} {x y z : Value} {kd a b n m : Int} {w : World} (h0 : Blk w p 32 #[x, y, z]) (h1 : Blk w (p + 1) 34 #[.int .i64 kd, .int .i64 a, .int .i64 b, .int .i64 n, .int .u8 m]) : Box5 p x y z a b n m w :=
  ⟨h0.cell 0, h0.cell 1, h0.cell 2, h1.cell 1, h1.cell 2, h1.cell 3, h1.cell 4⟩

theorem Box5.below {p : Nat} {x y z : Value} {a b n m : Int} {w w' : World} (h : Box5 p x y z a b n m w) (hb : Below w.heap.size w w') : Box5 p x y z a b n m w' := by
  obtain ⟨h0, h1, h2, h3, h4, h5, h6⟩ := h
  have k0 := World.block_lt_of_cell? w _ h0
  have k1 := World.block_lt_of_cell? w _ h3
  exact ⟨(hb.cell (p := ⟨p, 0, none⟩) k0).trans h0, (hb.cell (p := ⟨p, 1, none⟩) k0).trans h1, (hb.cell (p := ⟨p, 2, none⟩) k0).trans h2, (hb.cell (p := ⟨p + 1, 1, none⟩) k1).trans h3, (hb.cell (p := ⟨p + 1, 2, none⟩) k1).trans h4, (hb.cell (p := ⟨p + 1, 3, none⟩) k1).trans h5, (hb.cell (p := ⟨p + 1, 4, none⟩) k1).trans h6⟩

theorem Box5.set2 {p : Nat} {x y z : Value} {a b n m : Int} {w : World} (h : Box5 p x y z a b n m w) (u1 u2 u3 : Value) : Box5 p x y z a b n m (((w.setCell ⟨p + 1 + 1, 0, none⟩ u1).setCell ⟨p + 1 + 1, 1, none⟩ u2).setCell ⟨p + 1 + 1, 2, none⟩ u3) := by
  obtain ⟨h0, h1, h2, h3, h4, h5, h6⟩ := h
  have f : ∀ (w : World) (k j q : Nat) (u v : Value), k ≠ p + 1 + 1 → w.cell? ⟨k, j, none⟩ = some v → (w.setCell ⟨p + 1 + 1, q, none⟩ u).cell? ⟨k, j, none⟩ = some v := fun w k j q u v hk hc => by
    rw [World.cell?_setCell_far _ _ _ _ (show p + 1 + 1 ≠ k from fun e => hk e.symm)]; exact hc
  have g : ∀ (k j : Nat) (v : Value), k ≠ p + 1 + 1 → w.cell? ⟨k, j, none⟩ = some v → (((w.setCell ⟨p + 1 + 1, 0, none⟩ u1).setCell ⟨p + 1 + 1, 1, none⟩ u2).setCell ⟨p + 1 + 1, 2, none⟩ u3).cell? ⟨k, j, none⟩ = some v := fun k j v hk hc => f _ _ _ _ _ _ hk (f _ _ _ _ _ _ hk (f _ _ _ _ _ _ hk hc))
  exact ⟨g _ _ _ (by omega) h0, g _ _ _ (by omega) h1, g _ _ _ (by omega) h2, g _ _ _ (by omega) h3, g _ _ _ (by omega) h4, g _ _ _ (by omega) h5, g _ _ _ (by omega) h6⟩

set_option maxRecDepth 100000 in
set_option maxHeartbeats 16000000 in
theorem docChanges (B : Nat) (w : World) (g : Nat) (v : Value) (M : RM SV) (h : Both B w g v M) (hB : B ≤ w.heap.size) (kd a b n m : Int) (hm0 : 0 ≤ m) (hm1 : m < 256) :
    Calls Try.prog 15 #[.pointer (some ⟨g, 0, none⟩), v, .agg #[.int .i64 kd, .int .i64 a, .int .i64 b, .int .i64 n, .int .u8 m]] w fun e w' => ∃ v', e = .returned (.tuple #[v', .bool true]) ∧ Both B w' g v' (M.stepA kd a b n m) ∧ TameR B noQ w w' := by
  have hdoc := h.doc
  obtain ⟨rA, rn, rc, nA, nn, nc, mA, mn, mc, xs, rfl, hx⟩ := hdoc
  obtain ⟨e1, e2, e3⟩ := hx.lens
  have HNN := Lib.hid e2
  have hok := h.rope.ok
  have hfew := h.rope.few
  have HOK := Lib.hid hok
  have HFEW := Lib.hid hfew
  have H := Lib.hid h
  have wm : IntKind.i64.wrap m = m := by unfold IntKind.wrap IntKind.signed IntKind.bits; simp; omega
  clear h hx e1 e2 e3 hok hfew
  go_enter Try.func15, Try.ntmps15
  go_wp2_with fail
  obtain ⟨W0, hW0⟩ : ∃ x, x = ((w.alloc (.cells #[.slice rA rn rc, .slice nA nn nc, .slice mA mn mc] 32)).alloc (.cells #[.int .i64 kd, .int .i64 a, .int .i64 b, .int .i64 n, .int .u8 m] 34)).alloc z3 := ⟨_, rfl⟩
  obtain ⟨p0, hp0⟩ : ∃ p, p = w.heap.size := ⟨_, rfl⟩
  have hb0 : Blk W0 p0 32 #[.slice rA rn rc, .slice nA nn nc, .slice mA mn mc] := by rw [hW0, hp0]; exact ((Blk.new w _ _).alloc _).alloc _
  have hb1 : Blk W0 (p0 + 1) 34 #[.int .i64 kd, .int .i64 a, .int .i64 b, .int .i64 n, .int .u8 m] := by
    rw [hW0, hp0]
    have := (Blk.new (w.alloc (.cells #[.slice rA rn rc, .slice nA nn nc, .slice mA mn mc] 32)) 34 #[.int .i64 kd, .int .i64 a, .int .i64 b, .int .i64 n, .int .u8 m]).alloc z3
    simpa [z3] using this
  have hb2 : Blk W0 (p0 + 1 + 1) 32 nil3 := by
    rw [hW0, hp0]
    have := Blk.new ((w.alloc (.cells #[.slice rA rn rc, .slice nA nn nc, .slice mA mn mc] 32)).alloc (.cells #[.int .i64 kd, .int .i64 a, .int .i64 b, .int .i64 n, .int .u8 m] 34)) 32 nil3
    simpa [z3, nil3] using this
  have hbW0 : Below w.heap.size w W0 := by rw [hW0]; exact (((Below.refl _ w).alloc (Nat.le_refl _) _).alloc (by simp) _).alloc (by simp; omega) _
  have hwo : ((w.alloc (.cells #[.slice rA rn rc, .slice nA nn nc, .slice mA mn mc] 32)).alloc (.cells #[.int .i64 kd, .int .i64 a, .int .i64 b, .int .i64 n, .int .u8 m] 34)).alloc (.cells #[.slice none 0 0, .slice none 0 0, .slice none 0 0] 32) = W0 := hW0.symm
  rw [hwo]
  simp only [← hp0]
  have HDOC := Lib.hid (H.out.doc.below hbW0)
  have HBW0 := Lib.hid hbW0
  have HP := Lib.hid hp0
  clear hwo hW0 hbW0 hp0
  refine (docBad W0 B _ M HDOC.out a).mono ?_
  rintro e W ⟨rfl, hbl⟩
  have hbW : Below w.heap.size w W := HBW0.out.trans (hbl.mono HBW0.out.size)
  have hb0 := hb0.below hbl hb0.lt
  have hb1 := hb1.below hbl hb1.lt
  have hb2 := hb2.below hbl hb2.lt
  have HW := Lib.hid (H.out.below hbW)
  have TW := Lib.hid (TameR.of_below (B := B) (Q := noQ) hbW hB)
  have hBW : B ≤ W.heap.size := Nat.le_trans hB hbW.size
  have hp2 : w.heap.size ≤ p0 + 1 + 1 := by have := HP.out; omega
  clear hbW hbl HBW0 HDOC
  have x0 := hb1.cell 0
  have x1 := hb1.cell 1
  have x2 := hb1.cell 2
  have x3 := hb1.cell 3
  have x4 := hb1.cell 4
  have HB0 := Lib.hid hb0
  have HB1 := Lib.hid hb1
  have HB2 := Lib.hid hb2
  have HBX := Lib.hid (box5_of hb0 hb1)
  clear hb0 hb1 hb2
  by_cases hk2 : kd = 2
  · subst hk2
    have e2 : M.stepA 2 a b n m = M.joinA a b := by unfold RM.stepA; rw [if_neg (by decide), if_pos rfl]
    have HE2 := Lib.hid e2
    clear e2
    by_cases hka : M.known a = true
    · obtain ⟨i, rfl, hi⟩ := known_nat hka
      have HI := Lib.hid hi
      by_cases hkb : M.known b = true
      · obtain ⟨j, rfl, hj⟩ := known_nat hkb
        have HJ := Lib.hid hj
        have HKA := Lib.hid hka
        have HKB := Lib.hid hkb
        clear hka hkb hi hj
        by_cases hsm : M.rowOf i = M.rowOf j
        · have HSM := Lib.hid hsm
          have hje : M.joinE (i : Int) (j : Int) = 151 := by unfold RM.joinE; rw [if_pos ⟨HKA.out, HKB.out⟩, Int.toNat_natCast, Int.toNat_natCast, if_pos hsm]
          have hja : M.joinA (i : Int) (j : Int) = M := by unfold RM.joinA; rw [if_neg (by rw [hje]; decide)]
          have hix := (ix_same HOK.out HI.out HJ.out).2 hsm
          rw [HKA.out]
          have HJE := Lib.hid hje
          have HJA := Lib.hid hja
          have HIX := Lib.hid hix
          clear hje hja hix hsm
          go_wp2_with fail
          refine (bJoin B noQ W g M HW.out.rope hBW i j).mono ?_
          rw [HJE.out, HJA.out]
          rintro e w2 ⟨rfl, h2, t2⟩
          have HR2 := Lib.hid h2
          have HD2 := Lib.hid (HW.out.doc.tame t2)
          have T2 := Lib.hid (TW.out.trans t2)
          have HB0' := Lib.hid (t2.blk (by decide) (by decide) HB0.out)
          have HB1' := Lib.hid (t2.blk (by decide) (by decide) HB1.out)
          have HB2' := Lib.hid (t2.blk (by decide) (by decide) HB2.out)
          clear h2 t2 x1 x2 x3 x4
          have x1 := HB1'.out.cell 1
          have x2 := HB1'.out.cell 2
          have c0 := HB0'.out.cell 0
          have c1 := HB0'.out.cell 1
          have c2 := HB0'.out.cell 2
          go_wp2_with fail
          refine (docBad w2 B _ M HD2.out j).mono ?_
          rw [HKB.out]
          rintro e w3 ⟨rfl, t3⟩
          have HR3 := Lib.hid (HR2.out.below t3)
          have HD3 := Lib.hid (HD2.out.below t3)
          have T3 := Lib.hid (T2.out.trans (TameR.of_below t3 (Nat.le_trans hB T2.out.size)))
          have HB03 := Lib.hid (HB0'.out.below t3 HB0'.out.lt)
          have HB13 := Lib.hid (HB1'.out.below t3 HB1'.out.lt)
          have HB23 := Lib.hid (HB2'.out.below t3 HB2'.out.lt)
          clear t3 x1 x2 c0 c1 c2
          have HBX3 := Lib.hid (box5_of HB03.out HB13.out)
          obtain ⟨y0, y1, y2, y3, y4, y5, y6⟩ := HBX3.out.all
          go_upto_region 12 with fail
          go_wp2_with fail
          have HD : Hid (Box5 p0 (.slice rA rn rc) (.slice nA nn nc) (.slice mA mn mc) i j n m w3.drew) := Lib.hid HBX3.out
          obtain ⟨kx, hkx⟩ : ∃ z, z = M.rowIx i := ⟨_, rfl⟩
          obtain ⟨ky, hky⟩ : ∃ z, z = M.rowIx j := ⟨_, rfl⟩
          rw [← hkx, ← hky] at HIX
          have HKX := Lib.hid hkx
          have HKY := Lib.hid hky
          clear hkx hky
          have tok : True := trivial
          have HBD : Hid (Below w3.heap.size w3 w3.drew) := Lib.hid ((Below.refl _ _).drew)
          have hixx := HIX.out
          subst hixx
          go_region_held3 (fun w' => w'.cell? ⟨p0, 0, none⟩ = some (.slice rA rn rc) ∧ w'.cell? ⟨p0, 1, none⟩ = some (.slice nA nn nc) ∧ w'.cell? ⟨p0, 2, none⟩ = some (.slice mA mn mc) ∧ w'.cell? ⟨p0 + 1, 1, none⟩ = some (.int .i64 (i : Int)) ∧ w'.cell? ⟨p0 + 1, 2, none⟩ = some (.int .i64 (j : Int)) ∧ w'.cell? ⟨p0 + 1, 3, none⟩ = some (.int .i64 n) ∧ w'.cell? ⟨p0 + 1, 4, none⟩ = some (.int .u8 m)) (first | with_reducible exact HD.out.all | with_reducible exact HC.out.all | with_reducible exact HC2.out.all | fail)
            (first
              | (go_at_call 62; have _t := tok; refine (docRow _ B _ M (HD3.out.below HBD.out) HOK.out i HI.out HFEW.out).mono ?_; rw [← HKX.out]; rintro e w4 ⟨rfl, hb4⟩; have HC : Hid (Box5 p0 (.slice rA rn rc) (.slice nA nn nc) (.slice mA mn mc) i j n m w4) := Lib.hid (HD.out.below hb4); have HB4 : Hid (Below w3.heap.size w3 w4) := Lib.hid ⟨hb4.os, hb4.tape, hb4.output, hb4.size, hb4.block⟩; clear hb4 tok _t)
              | (go_at_call 62; refine (docRow _ B _ M (HD3.out.below HB4.out) HOK.out j HJ.out HFEW.out).mono ?_; rw [← HKY.out]; rintro e w5 ⟨rfl, hb5⟩; have HC2 : Hid (Box5 p0 (.slice rA rn rc) (.slice nA nn nc) (.slice mA mn mc) i j n m w5) := Lib.hid (HC.out.below hb5); have HB5 : Hid (Below w3.heap.size w3 w5) := Lib.hid (HB4.out.trans (hb5.mono HB4.out.size)); clear hb5))
          clear y0 y1 y2 y3 y4 y5 y6 HC HC2 HD HBD HB4
          have H2 : Hid (Both B w5 g (.agg #[.slice rA rn rc, .slice nA nn nc, .slice mA mn mc]) M) := Lib.hid ⟨HR3.out.below HB5.out, HD3.out.below HB5.out⟩
          have T5 := Lib.hid (T3.out.trans (TameR.of_below HB5.out (Nat.le_trans hB T3.out.size)))
          have HB05 := Lib.hid (HB03.out.below HB5.out HB03.out.lt)
          have HB15 := Lib.hid (HB13.out.below HB5.out HB13.out.lt)
          have HB25 := Lib.hid (HB23.out.below HB5.out HB23.out.lt)
          clear HB0' HB1' HB2' T2 T3 HB03 HB13 HB23
          have T2 := T5
          have HB0' := HB05
          have HB1' := HB15
          have HB2' := HB25
          clear T5 HB05 HB15 HB25
          have HF := Lib.hid (fin4 H2.out HB2'.out T2.out hB hp2 (.slice rA rn rc) (.slice nA nn nc) (.slice mA mn mc))
          have s0 := HB2'.out.cell 0
          have s1 := HB2'.out.cell 1
          have s2 := HB2'.out.cell 2
          have f0 := HB2'.out.frozen 0
          have f1 := HB2'.out.frozen 1
          have f2 := HB2'.out.frozen 2
          unfold nil3 at s0 s1 s2
          have c0 := HB0'.out.cell 0
          have c1 := HB0'.out.cell 1
          have c2 := HB0'.out.cell 2
          go_wp2_with fail
          refine ret_cell_tmp2 (p := 6) (u := 7) (v := .agg #[.slice rA rn rc, .slice nA nn nc, .slice mA mn mc]) rfl rfl rfl (by go_simp) rfl ⟨_, rfl, ?_, HF.out.2⟩
          have h1 := HF.out.1
          rw [HE2.out, HJA.out]
          exact h1
        · have HSM := Lib.hid hsm
          obtain ⟨hje, hja⟩ := joinA_nat HI.out HJ.out hsm
          have hix : M.rowIx i ≠ M.rowIx j := fun e => hsm ((ix_same HOK.out HI.out HJ.out).1 e)
          rw [HKA.out]
          have HJE := Lib.hid hje
          have HJA := Lib.hid hja
          have HIX := Lib.hid hix
          clear hje hja hix hsm
          go_wp2_with fail
          refine (bJoin B noQ W g M HW.out.rope hBW i j).mono ?_
          rw [HJE.out, HJA.out]
          rintro e w2 ⟨rfl, h2, t2⟩
          have HR2 := Lib.hid h2
          have HD2 := Lib.hid (HW.out.doc.tame t2)
          have T2 := Lib.hid (TW.out.trans t2)
          have HB0' := Lib.hid (t2.blk (by decide) (by decide) HB0.out)
          have HB1' := Lib.hid (t2.blk (by decide) (by decide) HB1.out)
          have HB2' := Lib.hid (t2.blk (by decide) (by decide) HB2.out)
          clear h2 t2 x1 x2 x3 x4
          have x1 := HB1'.out.cell 1
          have x2 := HB1'.out.cell 2
          have c0 := HB0'.out.cell 0
          have c1 := HB0'.out.cell 1
          have c2 := HB0'.out.cell 2
          go_wp2_with fail
          refine (docBad w2 B _ M HD2.out j).mono ?_
          rw [HKB.out]
          rintro e w3 ⟨rfl, t3⟩
          have HR3 := Lib.hid (HR2.out.below t3)
          have HD3 := Lib.hid (HD2.out.below t3)
          have T3 := Lib.hid (T2.out.trans (TameR.of_below t3 (Nat.le_trans hB T2.out.size)))
          have HB03 := Lib.hid (HB0'.out.below t3 HB0'.out.lt)
          have HB13 := Lib.hid (HB1'.out.below t3 HB1'.out.lt)
          have HB23 := Lib.hid (HB2'.out.below t3 HB2'.out.lt)
          clear t3 x1 x2 c0 c1 c2
          have HBX3 := Lib.hid (box5_of HB03.out HB13.out)
          obtain ⟨y0, y1, y2, y3, y4, y5, y6⟩ := HBX3.out.all
          go_upto_region 12 with fail
          go_wp2_with fail
          have HD : Hid (Box5 p0 (.slice rA rn rc) (.slice nA nn nc) (.slice mA mn mc) i j n m w3.drew) := Lib.hid HBX3.out
          obtain ⟨kx, hkx⟩ : ∃ z, z = M.rowIx i := ⟨_, rfl⟩
          obtain ⟨ky, hky⟩ : ∃ z, z = M.rowIx j := ⟨_, rfl⟩
          rw [← hkx, ← hky] at HIX
          have HKX := Lib.hid hkx
          have HKY := Lib.hid hky
          clear hkx hky
          have tok : True := trivial
          have HBD : Hid (Below w3.heap.size w3 w3.drew) := Lib.hid ((Below.refl _ _).drew)
          have g1 : ((kx : Int) == (ky : Int)) = false := by have := HIX.out; simp; omega
          have g2 : (kx == ky) = false := by have := HIX.out; simp; omega
          have g3 : decide (kx = ky) = false := by have := HIX.out; simp; omega
          go_region_held3 (fun w' => w'.cell? ⟨p0, 0, none⟩ = some (.slice rA rn rc) ∧ w'.cell? ⟨p0, 1, none⟩ = some (.slice nA nn nc) ∧ w'.cell? ⟨p0, 2, none⟩ = some (.slice mA mn mc) ∧ w'.cell? ⟨p0 + 1, 1, none⟩ = some (.int .i64 (i : Int)) ∧ w'.cell? ⟨p0 + 1, 2, none⟩ = some (.int .i64 (j : Int)) ∧ w'.cell? ⟨p0 + 1, 3, none⟩ = some (.int .i64 n) ∧ w'.cell? ⟨p0 + 1, 4, none⟩ = some (.int .u8 m)) (first | with_reducible exact HD.out.all | with_reducible exact HC.out.all | with_reducible exact HC2.out.all | fail)
            (first
              | (go_at_call 62; have _t := tok; refine (docRow _ B _ M (HD3.out.below HBD.out) HOK.out i HI.out HFEW.out).mono ?_; rw [← HKX.out]; rintro e w4 ⟨rfl, hb4⟩; have HC : Hid (Box5 p0 (.slice rA rn rc) (.slice nA nn nc) (.slice mA mn mc) i j n m w4) := Lib.hid (HD.out.below hb4); have HB4 : Hid (Below w3.heap.size w3 w4) := Lib.hid ⟨hb4.os, hb4.tape, hb4.output, hb4.size, hb4.block⟩; clear hb4 tok _t)
              | (go_at_call 62; refine (docRow _ B _ M (HD3.out.below HB4.out) HOK.out j HJ.out HFEW.out).mono ?_; rw [← HKY.out]; rintro e w5 ⟨rfl, hb5⟩; have HC2 : Hid (Box5 p0 (.slice rA rn rc) (.slice nA nn nc) (.slice mA mn mc) i j n m w5) := Lib.hid (HC.out.below hb5); have HB5 : Hid (Below w3.heap.size w3 w5) := Lib.hid (HB4.out.trans (hb5.mono HB4.out.size)); clear hb5))
          clear y0 y1 y2 y3 y4 y5 y6 HC HC2 HD HBD HB4 g1 g2 g3
          have HR5 := Lib.hid (HR3.out.below HB5.out)
          have HD5 := Lib.hid (HD3.out.below HB5.out)
          have T5 := Lib.hid (T3.out.trans (TameR.of_below HB5.out (Nat.le_trans hB T3.out.size)))
          have HB05 := Lib.hid (HB03.out.below HB5.out HB03.out.lt)
          have HB15 := Lib.hid (HB13.out.below HB5.out HB13.out.lt)
          have HB25 := Lib.hid (HB23.out.below HB5.out HB23.out.lt)
          have g4 : ((kx : Int) == (ky : Int)) = false := by have := HIX.out; simp; omega
          have g5 : (kx == ky) = false := by have := HIX.out; simp; omega
          have g6 : decide (kx = ky) = false := by have := HIX.out; simp; omega
          clear HB0' HB1' HB2' T2 T3 HB03 HB13 HB23
          have T2 := T5
          have HB0' := HB05
          have HB1' := HB15
          have HB2' := HB25
          clear T5 HB05 HB15 HB25
          have x1 := HB1'.out.cell 1
          have x2 := HB1'.out.cell 2
          have c0 := HB0'.out.cell 0
          have c1 := HB0'.out.cell 1
          have c2 := HB0'.out.cell 2
          go_wp2_with fail
          refine (docJoin w5 B _ M HD5.out (Nat.le_trans hB T2.out.size) HOK.out i j HI.out HJ.out HSM.out HFEW.out).mono ?_
          rintro e w6 ⟨v6, rfl, hd6, t6⟩
          obtain ⟨rA', rn', rc', nA', nn', nc', mA', mn', mc', xs', rfl, hx6⟩ := hd6
          have H2 : Hid (Both B w6 g (.agg #[.slice rA' rn' rc', .slice nA' nn' nc', .slice mA' mn' mc']) (M.join i j)) := Lib.hid ⟨HR5.out.below t6, ⟨_, _, _, _, _, _, _, _, _, _, rfl, hx6⟩⟩
          have T6 := Lib.hid (T2.out.trans (TameR.of_below t6 (Nat.le_trans hB T2.out.size)))
          have HB26 := Lib.hid (HB2'.out.below t6 HB2'.out.lt)
          clear hx6 t6 x1 x2 c0 c1 c2 T2 HB2' g4 g5 g6
          have T2 := T6
          have HB2' := HB26
          clear T6 HB26
          have HF := Lib.hid (fin4 H2.out HB2'.out T2.out hB hp2 (.slice rA' rn' rc') (.slice nA' nn' nc') (.slice mA' mn' mc'))
          have s0 := HB2'.out.cell 0
          have s1 := HB2'.out.cell 1
          have s2 := HB2'.out.cell 2
          have f0 := HB2'.out.frozen 0
          have f1 := HB2'.out.frozen 1
          have f2 := HB2'.out.frozen 2
          unfold nil3 at s0 s1 s2
          go_wp2_with fail
          refine ret_cell_tmp2 (p := 6) (u := 7) (v := .agg #[.slice rA' rn' rc', .slice nA' nn' nc', .slice mA' mn' mc']) rfl rfl rfl (by go_simp) rfl ⟨_, rfl, ?_, HF.out.2⟩
          have h1 := HF.out.1
          rw [HE2.out, HJA.out]
          exact h1
      · have hkb' : M.known b = false := by simpa using hkb
        have HNK := Lib.hid (nk_snd hkb' (i : Int))
        have hja : M.joinA (i : Int) b = M := join_not (by rw [HNK.out.2.2]; decide)
        have HJA := Lib.hid hja
        rw [hka]
        have HKB := Lib.hid hkb'
        clear hja hkb hkb' hi hka
        go_wp2_with fail
        refine (bJoin B noQ W g M HW.out.rope hBW i b).mono ?_
        rw [HNK.out.2.2, HJA.out]
        rintro e w2 ⟨rfl, h2, t2⟩
        have HR2 := Lib.hid h2
        have HD2 := Lib.hid (HW.out.doc.tame t2)
        have T2 := Lib.hid (TW.out.trans t2)
        have HB0' := Lib.hid (t2.blk (by decide) (by decide) HB0.out)
        have HB1' := Lib.hid (t2.blk (by decide) (by decide) HB1.out)
        have HB2' := Lib.hid (t2.blk (by decide) (by decide) HB2.out)
        clear h2 t2 x1 x2 x3 x4
        have x1 := HB1'.out.cell 1
        have x2 := HB1'.out.cell 2
        have c0 := HB0'.out.cell 0
        have c1 := HB0'.out.cell 1
        have c2 := HB0'.out.cell 2
        go_wp2_with fail
        refine (docBad w2 B _ M HD2.out b).mono ?_
        rw [HKB.out]
        rintro e w3 ⟨rfl, t3⟩
        have H2 : Hid (Both B w3 g (.agg #[.slice rA rn rc, .slice nA nn nc, .slice mA mn mc]) M) := Lib.hid ⟨HR2.out.below t3, HD2.out.below t3⟩
        have T3 := Lib.hid (T2.out.trans (TameR.of_below t3 (Nat.le_trans hB T2.out.size)))
        have HB03 := Lib.hid (HB0'.out.below t3 HB0'.out.lt)
        have HB23 := Lib.hid (HB2'.out.below t3 HB2'.out.lt)
        clear t3 x1 x2 c0 c1 c2 T2 HB0' HB2'
        have T2 := T3
        have HB0' := HB03
        have HB2' := HB23
        clear T3 HB03 HB23
        have HF := Lib.hid (fin4 H2.out HB2'.out T2.out hB hp2 (.slice rA rn rc) (.slice nA nn nc) (.slice mA mn mc))
        have s0 := HB2'.out.cell 0
        have s1 := HB2'.out.cell 1
        have s2 := HB2'.out.cell 2
        have f0 := HB2'.out.frozen 0
        have f1 := HB2'.out.frozen 1
        have f2 := HB2'.out.frozen 2
        unfold nil3 at s0 s1 s2
        have c0 := HB0'.out.cell 0
        have c1 := HB0'.out.cell 1
        have c2 := HB0'.out.cell 2
        go_wp2_with fail
        refine ret_cell_tmp2 (p := 6) (u := 7) (v := .agg #[.slice rA rn rc, .slice nA nn nc, .slice mA mn mc]) rfl rfl rfl (by go_simp) rfl ⟨_, rfl, ?_, HF.out.2⟩
        have h1 := HF.out.1
        rw [HE2.out, HJA.out]
        exact h1
    · have hka' : M.known a = false := by simpa using hka
      have HNK := Lib.hid (nk_fst hka' b)
      have hja : M.joinA a b = M := join_not (by rw [HNK.out.2.2]; decide)
      have HJA := Lib.hid hja
      rw [hka']
      clear hja hka hka'
      go_wp2_with fail
      refine (bJoin B noQ W g M HW.out.rope hBW a b).mono ?_
      rw [HNK.out.2.2, HJA.out]
      rintro e w2 ⟨rfl, h2, t2⟩
      have HR2 := Lib.hid h2
      have HD2 := Lib.hid (HW.out.doc.tame t2)
      have T2 := Lib.hid (TW.out.trans t2)
      have HB0' := Lib.hid (t2.blk (by decide) (by decide) HB0.out)
      have HB1' := Lib.hid (t2.blk (by decide) (by decide) HB1.out)
      have HB2' := Lib.hid (t2.blk (by decide) (by decide) HB2.out)
      clear h2 t2 x1 x2 x3 x4
      have H2 : Hid (Both B w2 g (.agg #[.slice rA rn rc, .slice nA nn nc, .slice mA mn mc]) M) := Lib.hid ⟨HR2.out, HD2.out⟩
      have HF := Lib.hid (fin4 H2.out HB2'.out T2.out hB hp2 (.slice rA rn rc) (.slice nA nn nc) (.slice mA mn mc))
      have s0 := HB2'.out.cell 0
      have s1 := HB2'.out.cell 1
      have s2 := HB2'.out.cell 2
      have f0 := HB2'.out.frozen 0
      have f1 := HB2'.out.frozen 1
      have f2 := HB2'.out.frozen 2
      unfold nil3 at s0 s1 s2
      have c0 := HB0'.out.cell 0
      have c1 := HB0'.out.cell 1
      have c2 := HB0'.out.cell 2
      go_wp2_with fail
      refine ret_cell_tmp2 (p := 6) (u := 7) (v := .agg #[.slice rA rn rc, .slice nA nn nc, .slice mA mn mc]) rfl rfl rfl (by go_simp) rfl ⟨_, rfl, ?_, HF.out.2⟩
      have h1 := HF.out.1
      rw [HE2.out, HJA.out]
      exact h1
  by_cases hk3 : kd = 3
  · subst hk3
    have e2 : M.stepA 3 a b n m = M.cutA a := by unfold RM.stepA; rw [if_neg (by decide), if_neg (by decide), if_pos rfl]
    have HE2 := Lib.hid e2
    clear e2
    by_cases hka : M.known a = true
    · obtain ⟨i, rfl, hi⟩ := known_nat hka
      have HI := Lib.hid hi
      have hst : M.cutA (i : Int) = M.cut i := cutA_nat hi
      have HST := Lib.hid hst
      rw [hka]
      have HE := Lib.hid (errA_nat hi)
      clear hst hka hi
      go_wp2_with fail
      refine (bCut B noQ W g M HW.out.rope hBW i).mono ?_
      rw [HE.out, HST.out]
      rintro e w2 ⟨rfl, h2, t2⟩
      have HR2 := Lib.hid h2
      have HD2 := Lib.hid (HW.out.doc.tame t2)
      have T2 := Lib.hid (TW.out.trans t2)
      have HB0' := Lib.hid (t2.blk (by decide) (by decide) HB0.out)
      have HB1' := Lib.hid (t2.blk (by decide) (by decide) HB1.out)
      have HB2' := Lib.hid (t2.blk (by decide) (by decide) HB2.out)
      clear h2 t2 x1 x2 x3 x4
      have x1 := HB1'.out.cell 1
      have c0 := HB0'.out.cell 0
      have c1 := HB0'.out.cell 1
      have c2 := HB0'.out.cell 2
      go_wp2_with fail
      refine (docCut w2 B _ M HD2.out (Nat.le_trans hB T2.out.size) HOK.out i HI.out HFEW.out).mono ?_
      rintro e w6 ⟨v6, rfl, hd6, t6⟩
      obtain ⟨rA', rn', rc', nA', nn', nc', mA', mn', mc', xs', rfl, hx6⟩ := hd6
      have H2 : Hid (Both B w6 g (.agg #[.slice rA' rn' rc', .slice nA' nn' nc', .slice mA' mn' mc']) (M.cut i)) := Lib.hid ⟨HR2.out.below t6, ⟨_, _, _, _, _, _, _, _, _, _, rfl, hx6⟩⟩
      have T6 := Lib.hid (T2.out.trans (TameR.of_below t6 (Nat.le_trans hB T2.out.size)))
      have HB26 := Lib.hid (HB2'.out.below t6 HB2'.out.lt)
      clear hx6 t6 x1 c0 c1 c2 T2 HB2'
      have T2 := T6
      have HB2' := HB26
      clear T6 HB26
      have HF := Lib.hid (fin4 H2.out HB2'.out T2.out hB hp2 (.slice rA' rn' rc') (.slice nA' nn' nc') (.slice mA' mn' mc'))
      have s0 := HB2'.out.cell 0
      have s1 := HB2'.out.cell 1
      have s2 := HB2'.out.cell 2
      have f0 := HB2'.out.frozen 0
      have f1 := HB2'.out.frozen 1
      have f2 := HB2'.out.frozen 2
      unfold nil3 at s0 s1 s2
      go_wp2_with fail
      refine ret_cell_tmp2 (p := 6) (u := 7) (v := .agg #[.slice rA' rn' rc', .slice nA' nn' nc', .slice mA' mn' mc']) rfl rfl rfl (by go_simp) rfl ⟨_, rfl, ?_, HF.out.2⟩
      have h1 := HF.out.1
      rw [HE2.out, HST.out]
      exact h1
    · have hka' : M.known a = false := by simpa using hka
      have HNK := Lib.hid (not_known hka')
      have hst : M.cutA a = M := (not_known hka').2.2.2.2.1
      have HST := Lib.hid hst
      rw [hka']
      clear hst hka hka'
      go_wp2_with fail
      refine (bCut B noQ W g M HW.out.rope hBW a).mono ?_
      rw [HNK.out.2.1, HST.out]
      rintro e w2 ⟨rfl, h2, t2⟩
      have HR2 := Lib.hid h2
      have HD2 := Lib.hid (HW.out.doc.tame t2)
      have T2 := Lib.hid (TW.out.trans t2)
      have HB0' := Lib.hid (t2.blk (by decide) (by decide) HB0.out)
      have HB1' := Lib.hid (t2.blk (by decide) (by decide) HB1.out)
      have HB2' := Lib.hid (t2.blk (by decide) (by decide) HB2.out)
      clear h2 t2 x1 x2 x3 x4
      have H2 : Hid (Both B w2 g (.agg #[.slice rA rn rc, .slice nA nn nc, .slice mA mn mc]) M) := Lib.hid ⟨HR2.out, HD2.out⟩
      have HF := Lib.hid (fin4 H2.out HB2'.out T2.out hB hp2 (.slice rA rn rc) (.slice nA nn nc) (.slice mA mn mc))
      have s0 := HB2'.out.cell 0
      have s1 := HB2'.out.cell 1
      have s2 := HB2'.out.cell 2
      have f0 := HB2'.out.frozen 0
      have f1 := HB2'.out.frozen 1
      have f2 := HB2'.out.frozen 2
      unfold nil3 at s0 s1 s2
      have c0 := HB0'.out.cell 0
      have c1 := HB0'.out.cell 1
      have c2 := HB0'.out.cell 2
      go_wp2_with fail
      refine ret_cell_tmp2 (p := 6) (u := 7) (v := .agg #[.slice rA rn rc, .slice nA nn nc, .slice mA mn mc]) rfl rfl rfl (by go_simp) rfl ⟨_, rfl, ?_, HF.out.2⟩
      have h1 := HF.out.1
      rw [HE2.out, HST.out]
      exact h1
  by_cases hk4 : kd = 4
  · subst hk4
    have e2 : M.stepA 4 a b n m = M.setA a ⟨n, m⟩ := by unfold RM.stepA; rw [if_neg (by decide), if_neg (by decide), if_neg (by decide), if_pos rfl]
    have HE2 := Lib.hid e2
    clear e2
    by_cases hka : M.known a = true
    · obtain ⟨i, rfl, hi⟩ := known_nat hka
      have HI := Lib.hid hi
      have hst : M.setA (i : Int) ⟨n, m⟩ = M.set i ⟨n, m⟩ := by unfold RM.setA; rw [if_pos hka, Int.toNat_natCast]
      have HST := Lib.hid hst
      rw [hka]
      have HE := Lib.hid (errA_nat hi)
      clear hst hka hi
      go_wp2_with fail
      refine (bSet B noQ W g M HW.out.rope hBW i ⟨n, m⟩).mono ?_
      rw [HE.out, HST.out]
      rintro e w2 ⟨rfl, h2, t2⟩
      have HR2 := Lib.hid h2
      have HD2 := Lib.hid (HW.out.doc.tame t2)
      have T2 := Lib.hid (TW.out.trans t2)
      have HB0' := Lib.hid (t2.blk (by decide) (by decide) HB0.out)
      have HB1' := Lib.hid (t2.blk (by decide) (by decide) HB1.out)
      have HB2' := Lib.hid (t2.blk (by decide) (by decide) HB2.out)
      clear h2 t2 x1 x2 x3 x4
      have x1 := HB1'.out.cell 1
      have x3 := HB1'.out.cell 3
      have x4 := HB1'.out.cell 4
      have c0 := HB0'.out.cell 0
      have c1 := HB0'.out.cell 1
      have c2 := HB0'.out.cell 2
      go_wp2_with fail
      refine (docSet w2 B _ M HD2.out (Nat.le_trans hB T2.out.size) HOK.out i HI.out n m HFEW.out).mono ?_
      rintro e w6 ⟨v6, rfl, hd6, t6⟩
      obtain ⟨rA', rn', rc', nA', nn', nc', mA', mn', mc', xs', rfl, hx6⟩ := hd6
      have H2 : Hid (Both B w6 g (.agg #[.slice rA' rn' rc', .slice nA' nn' nc', .slice mA' mn' mc']) (M.set i ⟨n, m⟩)) := Lib.hid ⟨HR2.out.below t6, ⟨_, _, _, _, _, _, _, _, _, _, rfl, hx6⟩⟩
      have T6 := Lib.hid (T2.out.trans (TameR.of_below t6 (Nat.le_trans hB T2.out.size)))
      have HB26 := Lib.hid (HB2'.out.below t6 HB2'.out.lt)
      clear hx6 t6 x1 x3 x4 c0 c1 c2 T2 HB2'
      have T2 := T6
      have HB2' := HB26
      clear T6 HB26
      have HF := Lib.hid (fin4 H2.out HB2'.out T2.out hB hp2 (.slice rA' rn' rc') (.slice nA' nn' nc') (.slice mA' mn' mc'))
      have s0 := HB2'.out.cell 0
      have s1 := HB2'.out.cell 1
      have s2 := HB2'.out.cell 2
      have f0 := HB2'.out.frozen 0
      have f1 := HB2'.out.frozen 1
      have f2 := HB2'.out.frozen 2
      unfold nil3 at s0 s1 s2
      go_wp2_with fail
      refine ret_cell_tmp2 (p := 6) (u := 7) (v := .agg #[.slice rA' rn' rc', .slice nA' nn' nc', .slice mA' mn' mc']) rfl rfl rfl (by go_simp) rfl ⟨_, rfl, ?_, HF.out.2⟩
      have h1 := HF.out.1
      rw [HE2.out, HST.out]
      exact h1
    · have hka' : M.known a = false := by simpa using hka
      have HNK := Lib.hid (not_known hka')
      have hst : M.setA a ⟨n, m⟩ = M := by unfold RM.setA; rw [if_neg hka]
      have HST := Lib.hid hst
      rw [hka']
      clear hst hka hka'
      go_wp2_with fail
      refine (bSet B noQ W g M HW.out.rope hBW a ⟨n, m⟩).mono ?_
      rw [HNK.out.2.1, HST.out]
      rintro e w2 ⟨rfl, h2, t2⟩
      have HR2 := Lib.hid h2
      have HD2 := Lib.hid (HW.out.doc.tame t2)
      have T2 := Lib.hid (TW.out.trans t2)
      have HB0' := Lib.hid (t2.blk (by decide) (by decide) HB0.out)
      have HB1' := Lib.hid (t2.blk (by decide) (by decide) HB1.out)
      have HB2' := Lib.hid (t2.blk (by decide) (by decide) HB2.out)
      clear h2 t2 x1 x2 x3 x4
      have H2 : Hid (Both B w2 g (.agg #[.slice rA rn rc, .slice nA nn nc, .slice mA mn mc]) M) := Lib.hid ⟨HR2.out, HD2.out⟩
      have HF := Lib.hid (fin4 H2.out HB2'.out T2.out hB hp2 (.slice rA rn rc) (.slice nA nn nc) (.slice mA mn mc))
      have s0 := HB2'.out.cell 0
      have s1 := HB2'.out.cell 1
      have s2 := HB2'.out.cell 2
      have f0 := HB2'.out.frozen 0
      have f1 := HB2'.out.frozen 1
      have f2 := HB2'.out.frozen 2
      unfold nil3 at s0 s1 s2
      have c0 := HB0'.out.cell 0
      have c1 := HB0'.out.cell 1
      have c2 := HB0'.out.cell 2
      go_wp2_with fail
      refine ret_cell_tmp2 (p := 6) (u := 7) (v := .agg #[.slice rA rn rc, .slice nA nn nc, .slice mA mn mc]) rfl rfl rfl (by go_simp) rfl ⟨_, rfl, ?_, HF.out.2⟩
      have h1 := HF.out.1
      rw [HE2.out, HST.out]
      exact h1
  by_cases hk1 : kd = 1
  · subst hk1
    have e2 : M.stepA 1 a b n m = M.makeA ⟨n, m⟩ := by unfold RM.stepA; rw [if_pos rfl]
    have HE2 := Lib.hid e2
    clear e2
    generalize M.known a = ba
    by_cases hlt : M.own.length < 65536
    · have hst : M.makeA ⟨n, m⟩ = M.make ⟨n, m⟩ := by unfold RM.makeA; rw [if_pos hlt]
      have hmn : M.makeN = (nn : Int) + 1 := by unfold RM.makeN; rw [if_pos hlt, HNN.out]
      have hme : M.makeE = 0 := by unfold RM.makeE; rw [if_pos hlt]
      have HST := Lib.hid hst
      have HMN := Lib.hid hmn
      have HME := Lib.hid hme
      have HLT := Lib.hid hlt
      clear hst hmn hme
      go_wp2_with fail
      refine (bMake B noQ W g M HW.out.rope hBW ⟨n, m⟩).mono ?_
      rw [HMN.out, HME.out, HST.out]
      rintro e w2 ⟨rfl, h2, t2⟩
      have HR2 := Lib.hid h2
      have HD2 := Lib.hid (HW.out.doc.tame t2)
      have T2 := Lib.hid (TW.out.trans t2)
      have HB0' := Lib.hid (t2.blk (by decide) (by decide) HB0.out)
      have HB1' := Lib.hid (t2.blk (by decide) (by decide) HB1.out)
      have HB2' := Lib.hid (t2.blk (by decide) (by decide) HB2.out)
      clear h2 t2 x1 x2 x3 x4
      have c1 := HB0'.out.cell 1
      have d5 : decide ((65536 : Int) ≤ (nn : Int)) = false := by have := HNN.out; have := HLT.out; simp; omega
      have d6 : decide (65536 ≤ nn) = false := by have := HNN.out; have := HLT.out; simp; omega
      go_upto_region 7 with fail
      clear d5 d6 c1
      have d7 : IntKind.i64.wrap ((nn : Int) + 1) = (nn : Int) + 1 := by have := HNN.out; have := HLT.out; simp only [IntKind.wrap_i64]; omega
      have s0 := HB2'.out.cell 0
      have s1 := HB2'.out.cell 1
      have s2 := HB2'.out.cell 2
      have f0 := HB2'.out.frozen 0
      have f1 := HB2'.out.frozen 1
      have f2 := HB2'.out.frozen 2
      unfold nil3 at s0 s1 s2
      have HBX2 := Lib.hid (box5_of HB0'.out HB1'.out)
      obtain ⟨y0, y1, y2, y3, y4, y5, y6⟩ := HBX2.out.all
      go_wp2_with fail
      have HD : Hid (Box5 p0 (.slice rA rn rc) (.slice nA nn nc) (.slice mA mn mc) a b n m w2.drew) := Lib.hid HBX2.out
      have HBD : Hid (Below w2.heap.size w2 w2.drew) := Lib.hid ((Below.refl _ _).drew)
      go_region_held3 (fun w' => w'.cell? ⟨p0, 0, none⟩ = some (.slice rA rn rc) ∧ w'.cell? ⟨p0, 1, none⟩ = some (.slice nA nn nc) ∧ w'.cell? ⟨p0, 2, none⟩ = some (.slice mA mn mc) ∧ w'.cell? ⟨p0 + 1, 1, none⟩ = some (.int .i64 a) ∧ w'.cell? ⟨p0 + 1, 2, none⟩ = some (.int .i64 b) ∧ w'.cell? ⟨p0 + 1, 3, none⟩ = some (.int .i64 n) ∧ w'.cell? ⟨p0 + 1, 4, none⟩ = some (.int .u8 m)) (first | with_reducible exact HD.out.all | with_reducible exact HC.out.all | with_reducible exact (HC.out.set2 _ _ _).all | fail)
        ((go_at_call 61; refine (docMake _ B _ M (HD2.out.below HBD.out) (Nat.le_trans hB T2.out.size) HOK.out n m HLT.out).mono ?_; rintro e w6 ⟨v6, rfl, hd6, t6⟩; obtain ⟨rA', rn', rc', nA', nn', nc', mA', mn', mc', xs', rfl, hx6⟩ := hd6; have t6 : Below w2.heap.size w2 w6 := ⟨t6.os, t6.tape, t6.output, t6.size, t6.block⟩; have H2 : Hid (Both B w6 g (.agg #[.slice rA' rn' rc', .slice nA' nn' nc', .slice mA' mn' mc']) (M.make ⟨n, m⟩)) := Lib.hid ⟨HR2.out.below t6, ⟨_, _, _, _, _, _, _, _, _, _, rfl, hx6⟩⟩; have T6 := Lib.hid (T2.out.trans (TameR.of_below t6 (Nat.le_trans hB T2.out.size))); have HB26 := Lib.hid (HB2'.out.below t6 HB2'.out.lt); have HC : Hid (Box5 p0 (.slice rA rn rc) (.slice nA nn nc) (.slice mA mn mc) a b n m w6) := Lib.hid (HBX2.out.below t6); clear hx6 t6; have r0 := HB26.out.cell 0; have r1 := HB26.out.cell 1; have r2 := HB26.out.cell 2; have q0 := HB26.out.frozen 0; have q1 := HB26.out.frozen 1; have q2 := HB26.out.frozen 2; unfold nil3 at r0 r1 r2))
      have HF := Lib.hid (fin4 H2.out HB26.out T6.out hB hp2 (.slice rA' rn' rc') (.slice nA' nn' nc') (.slice mA' mn' mc'))
      go_wp2_with fail
      refine ret_cell_tmp2 (p := 6) (u := 7) (v := .agg #[.slice rA' rn' rc', .slice nA' nn' nc', .slice mA' mn' mc']) rfl rfl rfl (by go_simp) rfl ⟨_, rfl, by rw [HE2.out, HST.out]; exact HF.out.1, HF.out.2⟩
    · have hst : M.makeA ⟨n, m⟩ = M := by unfold RM.makeA; rw [if_neg hlt]
      have hmn : M.makeN = 0 := by unfold RM.makeN; rw [if_neg hlt]
      have hme : M.makeE = 55 := by unfold RM.makeE; rw [if_neg hlt]
      have HST := Lib.hid hst
      have HMN := Lib.hid hmn
      have HME := Lib.hid hme
      have HLT := Lib.hid hlt
      clear hst hmn hme hlt
      go_wp2_with fail
      refine (bMake B noQ W g M HW.out.rope hBW ⟨n, m⟩).mono ?_
      rw [HMN.out, HME.out, HST.out]
      rintro e w2 ⟨rfl, h2, t2⟩
      have HR2 := Lib.hid h2
      have HD2 := Lib.hid (HW.out.doc.tame t2)
      have T2 := Lib.hid (TW.out.trans t2)
      have HB0' := Lib.hid (t2.blk (by decide) (by decide) HB0.out)
      have HB1' := Lib.hid (t2.blk (by decide) (by decide) HB1.out)
      have HB2' := Lib.hid (t2.blk (by decide) (by decide) HB2.out)
      clear h2 t2 x1 x2 x3 x4
      have d5 : decide ((65536 : Int) ≤ (nn : Int)) = true := by have := HNN.out; have := HLT.out; simp; omega
      have d6 : decide (65536 ≤ nn) = true := by have := HNN.out; have := HLT.out; simp; omega
      have H2 : Hid (Both B w2 g (.agg #[.slice rA rn rc, .slice nA nn nc, .slice mA mn mc]) M) := Lib.hid ⟨HR2.out, HD2.out⟩
      have HF := Lib.hid (fin4 H2.out HB2'.out T2.out hB hp2 (.slice rA rn rc) (.slice nA nn nc) (.slice mA mn mc))
      have s0 := HB2'.out.cell 0
      have s1 := HB2'.out.cell 1
      have s2 := HB2'.out.cell 2
      have f0 := HB2'.out.frozen 0
      have f1 := HB2'.out.frozen 1
      have f2 := HB2'.out.frozen 2
      unfold nil3 at s0 s1 s2
      have c0 := HB0'.out.cell 0
      have c1 := HB0'.out.cell 1
      have c2 := HB0'.out.cell 2
      go_wp2_with fail
      refine ret_cell_tmp2 (p := 6) (u := 7) (v := .agg #[.slice rA rn rc, .slice nA nn nc, .slice mA mn mc]) rfl rfl rfl (by go_simp) rfl ⟨_, rfl, ?_, HF.out.2⟩
      have h1 := HF.out.1
      rw [HE2.out, HST.out]
      exact h1
  have e2 : M.stepA kd a b n m = M := by unfold RM.stepA; rw [if_neg hk1, if_neg hk2, if_neg hk3, if_neg hk4]
  have HE2 := Lib.hid e2
  clear e2
  generalize M.known a = ba
  have k1 : (kd == 1) = false := by simpa using hk1
  have k2 : (kd == 2) = false := by simpa using hk2
  have k3 : (kd == 3) = false := by simpa using hk3
  have k4 : (kd == 4) = false := by simpa using hk4
  have T2 := TW
  have HB0' := HB0
  have HB2' := HB2
  have H2 := HW
  have HF := Lib.hid (fin4 H2.out HB2'.out T2.out hB hp2 (.slice rA rn rc) (.slice nA nn nc) (.slice mA mn mc))
  have s0 := HB2'.out.cell 0
  have s1 := HB2'.out.cell 1
  have s2 := HB2'.out.cell 2
  have f0 := HB2'.out.frozen 0
  have f1 := HB2'.out.frozen 1
  have f2 := HB2'.out.frozen 2
  unfold nil3 at s0 s1 s2
  have c0 := HB0'.out.cell 0
  have c1 := HB0'.out.cell 1
  have c2 := HB0'.out.cell 2
  go_wp2_with fail
  refine ret_cell_tmp2 (p := 6) (u := 7) (v := .agg #[.slice rA rn rc, .slice nA nn nc, .slice mA mn mc]) rfl rfl rfl (by go_simp) rfl ⟨_, rfl, ?_, HF.out.2⟩
  have h1 := HF.out.1
  rw [HE2.out]
  exact h1

end Go.Proofs.Ytbbfnbnjaiimgaa
