/-
  The walk of skeinlaw15's changes at the empty rope of the document: Make.
-/
import Derived.Test.YtbbfnbnjaiimgaaRP30
import Derived.Deep.RegionHeld3
namespace Go.Proofs.Ytbbfnbnjaiimgaa
open Go.RowKit
set_option linter.unusedVariables false

theorem mnCases (mn : Int) : ((mn == 1) = true ∧ (mn == IntKind.i64.wrap 1) = true ∧ decide (mn = 1) = true) ∨ ((mn == 1) = false ∧ (mn == IntKind.i64.wrap 1) = false ∧ decide (mn = 1) = false) := by
  have hw : IntKind.i64.wrap 1 = 1 := by decide
  rw [hw]
  by_cases h : mn = 1
  · subst h; exact .inl ⟨rfl, rfl, rfl⟩
  · exact .inr ⟨by simpa using h, by simpa using h, by simpa using h⟩

/-- What the region reads. -/
def FiveC (p : Nat) (n m : Int) (w' : World) : Prop := w'.cell? ⟨p, 0, none⟩ = some (.slice none 0 0) ∧ w'.cell? ⟨p, 1, none⟩ = some (.slice none 0 0) ∧ w'.cell? ⟨p, 2, none⟩ = some (.slice none 0 0) ∧ w'.cell? ⟨p + 1, 3, none⟩ = some (.int .i64 n) ∧ w'.cell? ⟨p + 1, 4, none⟩ = some (.int .u8 m)

theorem FiveC.all {p : Nat} {n m : Int} {w' : World} (h : FiveC p n m w') : w'.cell? ⟨p, 0, none⟩ = some (.slice none 0 0) ∧ w'.cell? ⟨p, 1, none⟩ = some (.slice none 0 0) ∧ w'.cell? ⟨p, 2, none⟩ = some (.slice none 0 0) ∧ w'.cell? ⟨p + 1, 3, none⟩ = some (.int .i64 n) ∧ w'.cell? ⟨p + 1, 4, none⟩ = some (.int .u8 m) := h

theorem five_of {p : Nat} {n m a b : Int} {w' : World} (h0 : Blk w' p 32 #[.slice none 0 0, .slice none 0 0, .slice none 0 0]) (h1 : Blk w' (p + 1) 34 #[.int .i64 1, .int .i64 a, .int .i64 b, .int .i64 n, .int .u8 m]) : FiveC p n m w' :=
  ⟨h0.cell 0, h0.cell 1, h0.cell 2, h1.cell 3, h1.cell 4⟩

set_option maxRecDepth 100000 in
set_option maxHeartbeats 2000000 in
theorem changes_1 (B : Nat) (Q : Nat → Prop) (w : World) (g : Nat) (M : RM SV) (h : RpB B Q w g M) (hB : B ≤ w.heap.size) (a b n m : Int) (hm0 : 0 ≤ m) (hm1 : m < 256) :
    Calls Try.prog 15 #[.pointer (some ⟨g, 0, none⟩), emptyRf, .agg #[.int .i64 1, .int .i64 a, .int .i64 b, .int .i64 n, .int .u8 m]] w fun e w' => (∃ x y, e = .returned (.tuple #[x, .bool y])) ∧ RpB B Q w' g (M.makeA ⟨n, m⟩) ∧ TameR B Q w w' := by
  have H := Lib.hid h
  clear h
  have wm : IntKind.i64.wrap m = m := by unfold IntKind.wrap IntKind.signed IntKind.bits; simp; omega
  change Calls Try.prog 15 #[.pointer (some ⟨g, 0, none⟩), .agg #[.slice none 0 0, .slice none 0 0, .slice none 0 0], .agg #[.int .i64 1, .int .i64 a, .int .i64 b, .int .i64 n, .int .u8 m]] w _
  go_enter Try.func15, Try.ntmps15
  go_wp2_with fail
  refine (refBad_empty _ a).mono ?_
  rintro e W ⟨rfl, hbl⟩
  obtain ⟨p0, hp0⟩ : ∃ p, p = w.heap.size := ⟨_, rfl⟩
  have hb0 : Blk W p0 32 #[.slice none 0 0, .slice none 0 0, .slice none 0 0] := by
    rw [hp0]; exact (((Blk.new w _ _).alloc _).alloc _).below hbl (by simp; omega)
  have hb1 : Blk W (p0 + 1) 34 #[.int .i64 1, .int .i64 a, .int .i64 b, .int .i64 n, .int .u8 m] := by
    rw [hp0]
    refine Blk.below ?_ hbl (by simp)
    have := (Blk.new (w.alloc z3) 34 #[.int .i64 1, .int .i64 a, .int .i64 b, .int .i64 n, .int .u8 m]).alloc z3
    simpa [z3] using this
  have hb2 : Blk W (p0 + 1 + 1) 32 #[.slice none 0 0, .slice none 0 0, .slice none 0 0] := by
    rw [hp0]
    refine Blk.below ?_ hbl (by simp)
    have := Blk.new ((w.alloc z3).alloc (Obj.cells #[.int .i64 1, .int .i64 a, .int .i64 b, .int .i64 n, .int .u8 m] 34)) 32 #[.slice none 0 0, .slice none 0 0, .slice none 0 0]
    simpa [z3] using this
  have hbW : Below w.heap.size w W := ((((Below.refl _ w).alloc (Nat.le_refl _) _).alloc (by simp) _).alloc (by simp; omega) _).trans (hbl.mono (by simp; omega))
  clear hbl
  simp only [← hp0]
  have HW := Lib.hid (H.out.below hbW)
  have TW := Lib.hid (TameR.of_below (B := B) (Q := Q) (hbW) hB)
  have hBW : B ≤ W.heap.size := Nat.le_trans hB hbW.size
  have hp2 : w.heap.size ≤ p0 + 1 + 1 := by omega
  have HP := Lib.hid hp0
  clear hbW hp0
  have x1 := hb1.cell 0
  have x2 := hb1.cell 1
  have x3 := hb1.cell 2
  have x4 := hb1.cell 3
  have x5 := hb1.cell 4
  have HB0 := Lib.hid hb0
  have HB1 := Lib.hid hb1
  have HB2 := Lib.hid hb2
  clear hb0 hb1 hb2
  go_wp2_with fail
  refine (bMake B Q W g M HW.out hBW ⟨n, m⟩).mono ?_
  rintro e w2 ⟨rfl, h2, t2⟩
  have t2' := TW.out.trans t2
  have hb0' := t2.blk (by decide) (by decide) HB0.out
  have hb1' := t2.blk (by decide) (by decide) HB1.out
  have hb2' := t2.blk (by decide) (by decide) HB2.out
  have hX : ∀ w4, Below w2.drew.heap.size w2.drew w4 → (w4.cell? ⟨p0, 0, none⟩ = some (.slice none 0 0) ∧ w4.cell? ⟨p0, 1, none⟩ = some (.slice none 0 0) ∧ w4.cell? ⟨p0, 2, none⟩ = some (.slice none 0 0)) ∧ (w4.cell? ⟨p0 + 1, 3, none⟩ = some (.int .i64 n) ∧ w4.cell? ⟨p0 + 1, 4, none⟩ = some (.int .u8 m)) ∧ (w4.cell? ⟨p0 + 1 + 1, 0, none⟩ = some (.slice none 0 0) ∧ w4.cell? ⟨p0 + 1 + 1, 1, none⟩ = some (.slice none 0 0) ∧ w4.cell? ⟨p0 + 1 + 1, 2, none⟩ = some (.slice none 0 0)) ∧ (w4.frozen? ⟨p0 + 1 + 1, 0, none⟩ = false ∧ w4.frozen? ⟨p0 + 1 + 1, 1, none⟩ = false ∧ w4.frozen? ⟨p0 + 1 + 1, 2, none⟩ = false) ∧ Hid (∀ x y z, FiveC p0 n m (((w4.setCell ⟨p0 + 1 + 1, 0, none⟩ x).setCell ⟨p0 + 1 + 1, 1, none⟩ y).setCell ⟨p0 + 1 + 1, 2, none⟩ z)) ∧ Hid (∀ x y z, RpB B Q (((w4.setCell ⟨p0 + 1 + 1, 0, none⟩ x).setCell ⟨p0 + 1 + 1, 1, none⟩ y).setCell ⟨p0 + 1 + 1, 2, none⟩ z) g (M.makeA ⟨n, m⟩) ∧ TameR B Q w (((w4.setCell ⟨p0 + 1 + 1, 0, none⟩ x).setCell ⟨p0 + 1 + 1, 1, none⟩ y).setCell ⟨p0 + 1 + 1, 2, none⟩ z)) := by
    intro w4 hb4
    have hb4 : Below w2.heap.size w2 w4 := ⟨hb4.os, hb4.tape, hb4.output, hb4.size, hb4.block⟩
    have q0 := hb0'.below hb4 hb0'.lt
    have q1 := hb1'.below hb4 hb1'.lt
    have q2 := hb2'.below hb4 hb2'.lt
    exact ⟨⟨q0.cell 0, q0.cell 1, q0.cell 2⟩, ⟨q1.cell 3, q1.cell 4⟩, ⟨q2.cell 0, q2.cell 1, q2.cell 2⟩, ⟨q2.frozen 0, q2.frozen 1, q2.frozen 2⟩, Lib.hid (fun x y z => five_of (((q0.far (p := ⟨p0 + 1 + 1, 0, none⟩) (show p0 ≠ p0 + 1 + 1 by omega) x).far (p := ⟨p0 + 1 + 1, 1, none⟩) (show p0 ≠ p0 + 1 + 1 by omega) y).far (p := ⟨p0 + 1 + 1, 2, none⟩) (show p0 ≠ p0 + 1 + 1 by omega) z) (((q1.far (p := ⟨p0 + 1 + 1, 0, none⟩) (by simp) x).far (p := ⟨p0 + 1 + 1, 1, none⟩) (by simp) y).far (p := ⟨p0 + 1 + 1, 2, none⟩) (by simp) z)), Lib.hid fun x y z => done3 (h2.below hb4) q2 (t2'.trans (TameR.of_below hb4 (Nat.le_trans hB t2'.size))) hB hp2 x y z⟩
  have HX := Lib.hid hX
  have y0 := hb0'.cell 0
  have y1 := hb0'.cell 1
  have y2 := hb0'.cell 2
  have y3 := hb1'.cell 3
  have y4 := hb1'.cell 4
  have HN : Hid ((IntKind.i64.wrap ((0 : Int) + 1)) = 1) := Lib.hid (by decide)
  clear hX t2 t2' hb0' hb1' hb2' h2
  generalize M.makeN = mn
  generalize M.makeE = me
  have HD : Hid (FiveC p0 n m w2.drew) := Lib.hid ⟨y0, y1, y2, y3, y4⟩
  go_upto_region 7 with fail
  have hw1 : IntKind.i64.wrap 1 = 1 := by decide
  rcases mnCases mn with ⟨hmn, hmn3, hmn4⟩ | ⟨hmn, hmn3, hmn4⟩
  · go_wp2_with fail
    go_region_held3 (fun w' => w'.cell? ⟨p0, 0, none⟩ = some (.slice none 0 0) ∧ w'.cell? ⟨p0, 1, none⟩ = some (.slice none 0 0) ∧ w'.cell? ⟨p0, 2, none⟩ = some (.slice none 0 0) ∧ w'.cell? ⟨p0 + 1, 3, none⟩ = some (.int .i64 n) ∧ w'.cell? ⟨p0 + 1, 4, none⟩ = some (.int .u8 m)) (first | with_reducible exact HD.out.all | with_reducible exact HC.out.all | with_reducible exact (HS.out _ _ _).all | fail)
      ((go_at_call 61; refine (refMake_empty _ n m).mono ?_; rintro e w4 ⟨⟨A1, l1, n1, A2, l2, n2, A3, l3, n3, rfl⟩, hb4⟩; obtain ⟨⟨z0, z1, z2⟩, ⟨z3, z4⟩, ⟨z5, z6, z7⟩, ⟨z8, z9, z10⟩, HS, HF⟩ := HX.out w4 hb4; clear hb4; have HC : Hid (FiveC p0 n m w4) := Lib.hid ⟨z0, z1, z2, z3, z4⟩; clear z0 z1 z2 z3 z4))
    go_wp2_with fail
    refine ret_cell_tmp2 (p := 6) (u := 7) (v := .agg #[.slice A1 l1 n1, .slice A2 l2 n2, .slice A3 l3 n3]) rfl rfl rfl (by go_simp) rfl ⟨⟨_, _, rfl⟩, (HF.out _ _ _).1, (HF.out _ _ _).2⟩
  · go_wp2_with fail
    first
      | (go_region_held (fun w' => w'.cell? ⟨p0, 0, none⟩ = some (.slice none 0 0) ∧ w'.cell? ⟨p0, 1, none⟩ = some (.slice none 0 0) ∧ w'.cell? ⟨p0, 2, none⟩ = some (.slice none 0 0) ∧ w'.cell? ⟨p0 + 1, 3, none⟩ = some (.int .i64 n) ∧ w'.cell? ⟨p0 + 1, 4, none⟩ = some (.int .u8 m)) (first | with_reducible exact HD.out.all | with_reducible exact HC.out.all | with_reducible exact (HS.out _ _ _).all | fail)
      ((go_at_call 61; refine (refMake_empty _ n m).mono ?_; rintro e w4 ⟨⟨A1, l1, n1, A2, l2, n2, A3, l3, n3, rfl⟩, hb4⟩; obtain ⟨⟨z0, z1, z2⟩, ⟨z3, z4⟩, ⟨z5, z6, z7⟩, ⟨z8, z9, z10⟩, HS, HF⟩ := HX.out w4 hb4; clear hb4; have HC : Hid (FiveC p0 n m w4) := Lib.hid ⟨z0, z1, z2, z3, z4⟩; clear z0 z1 z2 z3 z4)))
      | fail
    all_goals (
      go_wp2_with fail
      refine ret_cell_tmp2 (p := 6) (u := 7) (v := .agg #[.slice A1 l1 n1, .slice A2 l2 n2, .slice A3 l3 n3]) rfl rfl rfl (by go_simp) rfl ⟨⟨_, _, rfl⟩, (HF.out _ _ _).1, (HF.out _ _ _).2⟩)

theorem changes_any (B : Nat) (Q : Nat → Prop) (w : World) (g : Nat) (M : RM SV) (h : RpB B Q w g M) (hB : B ≤ w.heap.size) (kd a b n m : Int) (hm0 : 0 ≤ m) (hm1 : m < 256) :
    Calls Try.prog 15 #[.pointer (some ⟨g, 0, none⟩), emptyRf, .agg #[.int .i64 kd, .int .i64 a, .int .i64 b, .int .i64 n, .int .u8 m]] w fun e w' => (∃ x y, e = .returned (.tuple #[x, .bool y])) ∧ RpB B Q w' g (M.stepA kd a b n m) ∧ TameR B Q w w' := by
  by_cases hk : kd = 1
  · subst hk
    have e : M.stepA 1 a b n m = M.makeA ⟨n, m⟩ := by unfold RM.stepA; rw [if_pos rfl]
    rw [e]
    exact changes_1 B Q w g M h hB a b n m hm0 hm1
  · exact changes_not1 B Q w g M h hB kd a b n m hm0 hm1 hk

end Go.Proofs.Ytbbfnbnjaiimgaa
