/-
  The walk of skeinlaw15's changes at the empty rope of the document, but for Make.
-/
import Derived.Test.YtbbfnbnjaiimgaaRP29
namespace Go.Proofs.Ytbbfnbnjaiimgaa
open Go.RowKit
set_option linter.unusedVariables false

theorem done3 {B : Nat} {Q : Nat → Prop} {w w2 : World} {g p : Nat} {M : RM SV} {cs : Array Value} (h : RpB B Q w2 g M) (hb : Blk w2 p 32 cs) (ht : TameR B Q w w2) (hB : B ≤ w.heap.size) (hp : w.heap.size ≤ p) (x y z : Value) :
    RpB B Q (((w2.setCell ⟨p, 0, none⟩ x).setCell ⟨p, 1, none⟩ y).setCell ⟨p, 2, none⟩ z) g M ∧ TameR B Q w (((w2.setCell ⟨p, 0, none⟩ x).setCell ⟨p, 1, none⟩ y).setCell ⟨p, 2, none⟩ z) :=
  ⟨((h.far hb (by decide) (by decide) (by decide) x).far (hb.set_ 0 x) (by decide) (by decide) (by decide) y).far ((hb.set_ 0 x).set_ 1 y) (by decide) (by decide) (by decide) z, ((ht.far hB hp x).far hB hp y).far hB hp z⟩

set_option maxRecDepth 100000 in
set_option maxHeartbeats 2000000 in
theorem changes_not1 (B : Nat) (Q : Nat → Prop) (w : World) (g : Nat) (M : RM SV) (h : RpB B Q w g M) (hB : B ≤ w.heap.size) (kd a b n m : Int) (hm0 : 0 ≤ m) (hm1 : m < 256) (hk : kd ≠ 1) :
    Calls Try.prog 15 #[.pointer (some ⟨g, 0, none⟩), emptyRf, .agg #[.int .i64 kd, .int .i64 a, .int .i64 b, .int .i64 n, .int .u8 m]] w fun e w' => (∃ x y, e = .returned (.tuple #[x, .bool y])) ∧ RpB B Q w' g (M.stepA kd a b n m) ∧ TameR B Q w w' := by
  have H := Lib.hid h
  clear h
  have k1 : (kd == 1) = false := by simpa using hk
  have wm : IntKind.i64.wrap m = m := by unfold IntKind.wrap IntKind.signed IntKind.bits; simp; omega
  change Calls Try.prog 15 #[.pointer (some ⟨g, 0, none⟩), .agg #[.slice none 0 0, .slice none 0 0, .slice none 0 0], .agg #[.int .i64 kd, .int .i64 a, .int .i64 b, .int .i64 n, .int .u8 m]] w _
  go_enter Try.func15, Try.ntmps15
  go_wp2_with fail
  refine (refBad_empty _ a).mono ?_
  rintro e W ⟨rfl, hbl⟩
  obtain ⟨p0, hp0⟩ : ∃ p, p = w.heap.size := ⟨_, rfl⟩
  have hb0 : Blk W p0 32 #[.slice none 0 0, .slice none 0 0, .slice none 0 0] := by
    rw [hp0]; exact (((Blk.new w _ _).alloc _).alloc _).below hbl (by simp; omega)
  have hb1 : Blk W (p0 + 1) 34 #[.int .i64 kd, .int .i64 a, .int .i64 b, .int .i64 n, .int .u8 m] := by
    rw [hp0]
    refine Blk.below ?_ hbl (by simp)
    have := (Blk.new (w.alloc z3) 34 #[.int .i64 kd, .int .i64 a, .int .i64 b, .int .i64 n, .int .u8 m]).alloc z3
    simpa [z3] using this
  have hb2 : Blk W (p0 + 1 + 1) 32 #[.slice none 0 0, .slice none 0 0, .slice none 0 0] := by
    rw [hp0]
    refine Blk.below ?_ hbl (by simp)
    have := Blk.new ((w.alloc z3).alloc (Obj.cells #[.int .i64 kd, .int .i64 a, .int .i64 b, .int .i64 n, .int .u8 m] 34)) 32 #[.slice none 0 0, .slice none 0 0, .slice none 0 0]
    simpa [z3] using this
  have hbW : Below w.heap.size w W := ((((Below.refl _ w).alloc (Nat.le_refl _) _).alloc (by simp) _).alloc (by simp; omega) _).trans (hbl.mono (by simp; omega))
  clear hbl
  simp only [← hp0]
  have HW := Lib.hid (H.out.below hbW)
  have TW := Lib.hid (TameR.of_below (B := B) (Q := Q) (hbW) hB)
  have hBW : B ≤ W.heap.size := Nat.le_trans hB hbW.size
  have hp2 : w.heap.size ≤ p0 + 1 + 1 := by omega
  have HP := Lib.hid hp0
  clear hbW hp0
  have x1 := hb1.cell 0
  have x2 := hb1.cell 1
  have x3 := hb1.cell 2
  have x4 := hb1.cell 3
  have x5 := hb1.cell 4
  have HB0 := Lib.hid hb0
  have HB1 := Lib.hid hb1
  have HB2 := Lib.hid hb2
  clear hb0 hb1 hb2
  by_cases hk2 : kd = 2
  · subst hk2
    go_wp2_with fail
    refine (bJoin B Q W g M HW.out hBW a b).mono ?_
    rintro e w2 ⟨rfl, h2, t2⟩
    have t2' := TW.out.trans t2
    have hb0' := t2.blk (by decide) (by decide) HB0.out
    have hb2' := t2.blk (by decide) (by decide) HB2.out
    have c0 := hb0'.cell 0
    have c1 := hb0'.cell 1
    have c2 := hb0'.cell 2
    have d0 := hb2'.cell 0
    have d1 := hb2'.cell 1
    have d2 := hb2'.cell 2
    have f0 := hb2'.frozen 0
    have f1 := hb2'.frozen 1
    have f2 := hb2'.frozen 2
    have HF := Lib.hid (done3 h2 hb2' t2' hB hp2 (.slice none 0 0) (.slice none 0 0) (.slice none 0 0))
    clear h2 t2 t2' hb0' hb2'
    go_wp2_with fail
    refine ret_cell_tmp2 (p := 6) (u := 7) (v := .agg #[.slice none 0 0, .slice none 0 0, .slice none 0 0]) rfl rfl rfl (by go_simp) rfl ⟨⟨_, _, rfl⟩, ?_, HF.out.2⟩
    have := HF.out.1
    unfold RM.stepA
    simpa [] using this
  have k2 : (kd == 2) = false := by simpa using hk2
  by_cases hk3 : kd = 3
  · subst hk3
    go_wp2_with fail
    refine (bCut B Q W g M HW.out hBW a).mono ?_
    rintro e w2 ⟨rfl, h2, t2⟩
    have t2' := TW.out.trans t2
    have hb0' := t2.blk (by decide) (by decide) HB0.out
    have hb2' := t2.blk (by decide) (by decide) HB2.out
    have c0 := hb0'.cell 0
    have c1 := hb0'.cell 1
    have c2 := hb0'.cell 2
    have d0 := hb2'.cell 0
    have d1 := hb2'.cell 1
    have d2 := hb2'.cell 2
    have f0 := hb2'.frozen 0
    have f1 := hb2'.frozen 1
    have f2 := hb2'.frozen 2
    have HF := Lib.hid (done3 h2 hb2' t2' hB hp2 (.slice none 0 0) (.slice none 0 0) (.slice none 0 0))
    clear h2 t2 t2' hb0' hb2'
    go_wp2_with fail
    refine ret_cell_tmp2 (p := 6) (u := 7) (v := .agg #[.slice none 0 0, .slice none 0 0, .slice none 0 0]) rfl rfl rfl (by go_simp) rfl ⟨⟨_, _, rfl⟩, ?_, HF.out.2⟩
    have := HF.out.1
    unfold RM.stepA
    simpa [] using this
  have k3 : (kd == 3) = false := by simpa using hk3
  by_cases hk4 : kd = 4
  · subst hk4
    go_wp2_with fail
    refine (bSet B Q W g M HW.out hBW a ⟨n, m⟩).mono ?_
    rintro e w2 ⟨rfl, h2, t2⟩
    have t2' := TW.out.trans t2
    have hb0' := t2.blk (by decide) (by decide) HB0.out
    have hb2' := t2.blk (by decide) (by decide) HB2.out
    have c0 := hb0'.cell 0
    have c1 := hb0'.cell 1
    have c2 := hb0'.cell 2
    have d0 := hb2'.cell 0
    have d1 := hb2'.cell 1
    have d2 := hb2'.cell 2
    have f0 := hb2'.frozen 0
    have f1 := hb2'.frozen 1
    have f2 := hb2'.frozen 2
    have HF := Lib.hid (done3 h2 hb2' t2' hB hp2 (.slice none 0 0) (.slice none 0 0) (.slice none 0 0))
    clear h2 t2 t2' hb0' hb2'
    go_wp2_with fail
    refine ret_cell_tmp2 (p := 6) (u := 7) (v := .agg #[.slice none 0 0, .slice none 0 0, .slice none 0 0]) rfl rfl rfl (by go_simp) rfl ⟨⟨_, _, rfl⟩, ?_, HF.out.2⟩
    have := HF.out.1
    unfold RM.stepA
    simpa [] using this
  have k4 : (kd == 4) = false := by simpa using hk4
  have h2 := HW.out
  have t2' := TW.out
  have t2 := t2'
  have hb0' := HB0.out
  have hb2' := HB2.out
  have c0 := hb0'.cell 0
  have c1 := hb0'.cell 1
  have c2 := hb0'.cell 2
  have d0 := hb2'.cell 0
  have d1 := hb2'.cell 1
  have d2 := hb2'.cell 2
  have f0 := hb2'.frozen 0
  have f1 := hb2'.frozen 1
  have f2 := hb2'.frozen 2
  have HF := Lib.hid (done3 h2 hb2' t2' hB hp2 (.slice none 0 0) (.slice none 0 0) (.slice none 0 0))
  clear h2 t2 t2' hb0' hb2'
  go_wp2_with fail
  refine ret_cell_tmp2 (p := 6) (u := 7) (v := .agg #[.slice none 0 0, .slice none 0 0, .slice none 0 0]) rfl rfl rfl (by go_simp) rfl ⟨⟨_, _, rfl⟩, ?_, HF.out.2⟩
  have := HF.out.1
  unfold RM.stepA
  simpa [hk, hk2, hk3, hk4] using this

end Go.Proofs.Ytbbfnbnjaiimgaa
