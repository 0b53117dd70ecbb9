/-
  The walk of tell: what is told of a node and all below it.
-/
import Derived.Test.YtlhkajlkapoabaaLK2
import Derived.Tactics
import Derived.Tactics2
import Derived.StillTailTactics
import Derived.BigRegion
import Derived.BigQuiet
import Derived.Deep.RegionLaw
import Derived.Deep.RegionHeld3
import Derived.Deep.LoopGhost
import Derived.Deep.Cut
import Derived.Deep.CutRange
namespace Go.Proofs.Ytlhkajlkapoabaa
open Go.RowKit Go.Maps
set_option linter.unusedVariables false

theorem run_storeC (P : Program) (w : World) (a : Addr) (m : Mode) (k : FloatKind) (x y : Nat) : (store a (.complex k x y) m).run P w = stored P w a (.complex k x y) m := run_store P w a _ m rfl

attribute [local go_sem] run_storeC

theorem cx_add {P : Program} (a b c d : Nat) (h1 : a + c < 2 ^ 53) (h2 : b + d < 2 ^ 53) (t : TypeId) (w : World) : (binOp .add t (.complex .f64 (fl a) (fl b)) (.complex .f64 (fl c) (fl d))).run P w = .ok (.complex .f64 (fl (a + c)) (fl (b + d))) w :=
  run_complex_sum w .add (.inl rfl) t .f64 _ _ _ _ _ _ (by unfold cSumBits; rw [fl_add h1, fl_add h2]; rfl)

theorem run_pix0 (x y : Value) (w : World) : (Instr.index 69 (.agg #[x, y]) (.int .i64 0)).run Try.prog w = .ok x w := by kernel_rfl

theorem run_pix1 (x y : Value) (w : World) : (Instr.index 69 (.agg #[x, y]) (.int .i64 1)).run Try.prog w = .ok y w := by kernel_rfl

def pickM (m : Eg) : Option NdL → Eg
  | none => m
  | some x => if x.m.above m then x.m else m

def sOf : Option NdL → Nat
  | none => 0
  | some x => x.s

def kOf : Option NdL → Nat
  | none => 0
  | some x => x.k

/-- A node that has told of itself and then of a child. -/
def NdL.own (X : NdL) : NdL := { X with m := X.e, s := X.e.stepS, k := X.e.stepK }

def NdL.tellS (X : NdL) (c : Option NdL) : NdL := { X with m := pickM X.m c, s := X.s + sOf c, k := X.k + kOf c }

def NdL.tellX (X : NdL) (l r : Option NdL) : NdL := (X.own.tellS l).tellS r

/-- What a region reads of two nodes. -/
def Box2 (a b : Nat) (X x : NdL) (w : World) : Prop := (w.cell? ⟨a, 9, none⟩ = some (.int .i64 X.m.id) ∧ w.cell? ⟨a, 10, none⟩ = some (.int .i64 X.m.u) ∧ w.cell? ⟨a, 11, none⟩ = some (.int .i64 X.m.v) ∧ w.cell? ⟨a, 12, none⟩ = some (.int .i64 (X.m.w : Int))) ∧ w.cell? ⟨b, 9, none⟩ = some (.int .i64 x.m.id) ∧ w.cell? ⟨b, 10, none⟩ = some (.int .i64 x.m.u) ∧ w.cell? ⟨b, 11, none⟩ = some (.int .i64 x.m.v) ∧ w.cell? ⟨b, 12, none⟩ = some (.int .i64 (x.m.w : Int))

theorem mod_set {w w1 : World} {a i : Nat} (h : Mod (fun k => k = a) w w1) (u : Value) : Mod (fun k => k = a) w (w1.setCell ⟨a, i, none⟩ u) := h.setCell (p := ⟨a, i, none⟩) (fun _ => rfl) u

set_option maxRecDepth 100000 in
set_option maxHeartbeats 8000000 in
theorem tell_core (w : World) (a : Nat) (X : NdL) (hX : Blk w a 71 (encL X)) (cl cr : Option (Nat × NdL)) (el : X.n.l = cl.map (·.1)) (er : X.n.r = cr.map (·.1)) (hl : ∀ b x, cl = some (b, x) → Blk w b 71 (encL x) ∧ b ≠ a) (hr : ∀ b x, cr = some (b, x) → Blk w b 71 (encL x) ∧ b ≠ a)
    (hs : X.e.stepS + sOf (cl.map (·.2)) + sOf (cr.map (·.2)) < 2 ^ 53) (hk : X.e.stepK + kOf (cl.map (·.2)) + kOf (cr.map (·.2)) < 2 ^ 53) :
    Calls Try.prog 42 #[.pointer (some ⟨a, 0, none⟩)] w fun e w' => e = .returned (.tuple #[]) ∧ Blk w' a 71 (encL (X.tellX (cl.map (·.2)) (cr.map (·.2)))) ∧ Mod (fun k => k = a) w w' := by
  have HX := Lib.hid hX
  have HL := Lib.hid hl
  have HR := Lib.hid hr
  have HS := Lib.hid hs
  have HK := Lib.hid hk
  have EL := Lib.hid el
  have ER := Lib.hid er
  clear hX hl hr hs hk el er
  go_enter Try.func42, Try.ntmps42
  have HXd : Hid (Blk w.drew a 71 (encL X)) := Lib.hid HX.out.drew
  have HXm : Hid (Blk ((((w.drew.setCell ⟨a, 9, none⟩ (.int .i64 X.e.id)).setCell ⟨a, 10, none⟩ (.int .i64 X.e.u)).setCell ⟨a, 11, none⟩ (.int .i64 X.e.v)).setCell ⟨a, 12, none⟩ (.int .i64 (X.e.w : Int))) a 71 (encL { X with m := X.e })) := Lib.hid ((((HX.out.drew.set_ 9 _).set_ 10 _).set_ 11 _).set_ 12 _)
  go_upto_region 0 with fail
  go_cut [] from 4 (fun wx => Hid (Blk wx a 71 (encL X.own) ∧ Mod (fun k => k = a) w wx))
  case first =>
    obtain ⟨-, -, -, -, -, ⟨a5, a6, a7, a8⟩, ⟨a9, a10, a11, a12⟩, a13⟩ := node_cells HX.out
    have z9 := HX.out.frozen 9
    have z10 := HX.out.frozen 10
    have z11 := HX.out.frozen 11
    have z12 := HX.out.frozen 12
    have z13 := HX.out.frozen 13
    go_wp2_with fail
    go_region_law (first
      | (go_simp; go_at_call 48; refine (step_any _ a _ (by first | with_reducible exact HXd.out | with_reducible exact HXm.out)).mono ?_; rintro r wz ⟨rfl, hz⟩; subst wz))
    all_goals (
      go_wp2_with fail
      go_meet
      case rel => (first
        | exact Lib.hid ⟨(((((HX.out.drew.set_ 9 _).set_ 10 _).set_ 11 _).set_ 12 _).set_ 13 _), mod_set (mod_set (mod_set (mod_set (mod_set (Mod.refl _ _).drew _) _) _) _) _⟩
        | exact Lib.hid ⟨(((((HX.out.set_ 9 _).set_ 10 _).set_ 11 _).set_ 12 _).set_ 13 _).drew, (mod_set (mod_set (mod_set (mod_set (mod_set (Mod.refl _ _) _) _) _) _) _).drew⟩
        | exact Lib.hid ⟨((((((HX.out.set_ 13 _).set_ 9 _).set_ 10 _).set_ 11 _).set_ 12 _)).drew, (mod_set (mod_set (mod_set (mod_set (mod_set (Mod.refl _ _) _) _) _) _) _).drew⟩
        | exact Lib.hid ⟨(((((HX.out.drew.set_ 13 _).set_ 9 _).set_ 10 _).set_ 11 _).set_ 12 _), mod_set (mod_set (mod_set (mod_set (mod_set (Mod.refl _ _).drew _) _) _) _) _⟩))
  case rest =>
    obtain ⟨pl, hpl⟩ : ∃ p, p = ptrV (cl.map (·.1)) := ⟨_, rfl⟩
    obtain ⟨pr, hpr⟩ : ∃ p, p = ptrV (cr.map (·.1)) := ⟨_, rfl⟩
    have c1 : wc.cell? ⟨a, 1, none⟩ = some pl := by rw [hpl, ← EL.out]; exact (node_cells hcut.out.1).2.1
    have c2 : wc.cell? ⟨a, 2, none⟩ = some pr := by rw [hpr, ← ER.out]; exact (node_cells hcut.out.1).2.2.1
    have hp0 := run_pix0 pl pr
    have hp1 := run_pix1 pl pr
    have HPL := Lib.hid hpl
    have HPR := Lib.hid hpr
    have HCUT := hcut
    clear hpl hpr hcut
    go_wp2_with fail
    clear c1 c2
    go_loopw [20] (fun i wr => ∃ Y : NdL, ((i = .int .i64 0 ∧ Y = X.own) ∨ (i = .int .i64 1 ∧ Y = X.own.tellS (cl.map (·.2))) ∨ (i = .int .i64 2 ∧ Y = (X.own.tellS (cl.map (·.2))).tellS (cr.map (·.2)))) ∧ Hid (Blk wr a 71 (encL Y) ∧ Mod (fun k => k = a) w wr)) (fun i _ => 2 - (intOf i).toNat)
    case atStart => exact ⟨_, .inl ⟨rfl, rfl⟩, HCUT⟩
    case round =>
      obtain ⟨Y, hor, HY⟩ := hrel
      rcases hor with ⟨rfl, hY⟩ | ⟨rfl, hY⟩ | ⟨rfl, hY⟩
      · have HYe := Lib.hid hY
        clear hY
        cases cl with
        | none =>
          have hp : pl = .pointer none := HPL.out
          subst hp
          go_wp2_with fail
          go_roundw
          case rel => exact ⟨Y, .inr (.inl ⟨rfl, by rw [HYe.out]; rfl⟩), HY⟩
          case measure => simp [intOf]
        | some q =>
          obtain ⟨b, x⟩ := q
          obtain ⟨hB, hba⟩ := HL.out b x rfl
          have hp : pl = .pointer (some ⟨b, 0, none⟩) := HPL.out
          subst hp
          have HBr : Hid (Blk wr b 71 (encL x)) := Lib.hid (hB.mod HY.out.2 hba)
          have HSB : Hid (Y.s + x.s < 2 ^ 53 ∧ Y.k + x.k < 2 ^ 53) := Lib.hid (by
            have h1 := HS.out
            have h2 := HK.out
            rw [HYe.out]
            simp only [NdL.own, Option.map, sOf, kOf] at h1 h2 ⊢
            constructor <;> omega)
          clear hB hba
          have hba : ¬ b = a := (HL.out b x rfl).2
          obtain ⟨ab, hab⟩ : ∃ v, v = x.m.above Y.m := ⟨_, rfl⟩
          have HAB := Lib.hid hab
          have ha := above_any x.m Y.m
          rw [← hab] at ha
          have HAA := Lib.hid ha
          clear ha hab
          go_upto_region 5 with fail
          have HD : Hid (∀ w4, Below wr.drew.heap.size wr.drew w4 ∨ w4 = wr.drew → w4.cell? ⟨a, 9, none⟩ = some (.int .i64 Y.m.id) ∧ w4.cell? ⟨a, 10, none⟩ = some (.int .i64 Y.m.u) ∧ w4.cell? ⟨a, 11, none⟩ = some (.int .i64 Y.m.v) ∧ w4.cell? ⟨a, 12, none⟩ = some (.int .i64 (Y.m.w : Int)) ∧ w4.cell? ⟨b, 9, none⟩ = some (.int .i64 x.m.id) ∧ w4.cell? ⟨b, 10, none⟩ = some (.int .i64 x.m.u) ∧ w4.cell? ⟨b, 11, none⟩ = some (.int .i64 x.m.v) ∧ w4.cell? ⟨b, 12, none⟩ = some (.int .i64 (x.m.w : Int))) := Lib.hid (fun w4 hb => by
            have y4 : Blk w4 a 71 (encL Y) := by rcases hb with hb | rfl; exact HY.out.1.drew.below hb HY.out.1.drew.lt; exact HY.out.1.drew
            have x4 : Blk w4 b 71 (encL x) := by rcases hb with hb | rfl; exact HBr.out.drew.below hb HBr.out.drew.lt; exact HBr.out.drew
            obtain ⟨-, -, -, -, -, -, ⟨a1, a2, a3, a4⟩, -⟩ := node_cells y4
            obtain ⟨-, -, -, -, -, -, ⟨b1, b2, b3, b4⟩, -⟩ := node_cells x4
            exact ⟨a1, a2, a3, a4, b1, b2, b3, b4⟩)
          obtain ⟨a9, a10, a11, a12, b9, b10, b11, b12⟩ : wr.cell? ⟨a, 9, none⟩ = some (.int .i64 Y.m.id) ∧ wr.cell? ⟨a, 10, none⟩ = some (.int .i64 Y.m.u) ∧ wr.cell? ⟨a, 11, none⟩ = some (.int .i64 Y.m.v) ∧ wr.cell? ⟨a, 12, none⟩ = some (.int .i64 (Y.m.w : Int)) ∧ wr.cell? ⟨b, 9, none⟩ = some (.int .i64 x.m.id) ∧ wr.cell? ⟨b, 10, none⟩ = some (.int .i64 x.m.u) ∧ wr.cell? ⟨b, 11, none⟩ = some (.int .i64 x.m.v) ∧ wr.cell? ⟨b, 12, none⟩ = some (.int .i64 (x.m.w : Int)) := by
            obtain ⟨-, -, -, -, -, -, ⟨a1, a2, a3, a4⟩, -⟩ := node_cells HY.out.1
            obtain ⟨-, -, -, -, -, -, ⟨b1, b2, b3, b4⟩, -⟩ := node_cells HBr.out
            exact ⟨a1, a2, a3, a4, b1, b2, b3, b4⟩
          go_region_held3 (fun w4 => w4.cell? ⟨a, 9, none⟩ = some (.int .i64 Y.m.id) ∧ w4.cell? ⟨a, 10, none⟩ = some (.int .i64 Y.m.u) ∧ w4.cell? ⟨a, 11, none⟩ = some (.int .i64 Y.m.v) ∧ w4.cell? ⟨a, 12, none⟩ = some (.int .i64 (Y.m.w : Int)) ∧ w4.cell? ⟨b, 9, none⟩ = some (.int .i64 x.m.id) ∧ w4.cell? ⟨b, 10, none⟩ = some (.int .i64 x.m.u) ∧ w4.cell? ⟨b, 11, none⟩ = some (.int .i64 x.m.v) ∧ w4.cell? ⟨b, 12, none⟩ = some (.int .i64 (x.m.w : Int))) (first | with_reducible exact HD.out _ (.inr rfl) | with_reducible exact HC.out | fail)
            ((go_at_call 49; refine (HAA.out _).mono ?_; rintro e w4 ⟨rfl, hb4⟩; have HC := Lib.hid (HD.out w4 (.inl hb4)); have HB4 : Hid (Below wr.drew.heap.size wr.drew w4) := Lib.hid ⟨hb4.os, hb4.tape, hb4.output, hb4.size, hb4.block⟩; clear hb4))
          clear a9 a10 a11 a12 b9 b10 b11 b12
          have HY4 : Hid (Blk w4 a 71 (encL Y) ∧ Mod (fun k => k = a) w w4) := Lib.hid ⟨HY.out.1.drew.below HB4.out HY.out.1.drew.lt, (HY.out.2.drew).trans' (Mod.of_below HB4.out _)⟩
          have HX4 : Hid (Blk w4 b 71 (encL x)) := Lib.hid (HBr.out.drew.below HB4.out HBr.out.drew.lt)
          obtain ⟨a9, a10, a11, a12, b9, b10, b11, b12⟩ := HC.out
          have f9 := HY4.out.1.frozen 9
          have f10 := HY4.out.1.frozen 10
          have f11 := HY4.out.1.frozen 11
          have f12 := HY4.out.1.frozen 12
          cases ab with
          | false =>
            go_upto_region 7 with fail
            have HY5 : Hid (Blk w4 a 71 (encL { Y with m := Y.m }) ∧ Mod (fun k => k = a) w w4) := HY4
            have HX5 := HX4
            clear a9 a10 a11 a12 b9 b10 b11 b12 f9 f10 f11 f12
            have a13 : w4.cell? ⟨a, 13, none⟩ = some (.complex .f64 (fl Y.s) (fl Y.k)) := HY5.out.1.cell 13
            have b13 : w4.cell? ⟨b, 13, none⟩ = some (.complex .f64 (fl x.s) (fl x.k)) := HX5.out.cell 13
            have f13 := HY5.out.1.frozen 13
            have hcx := cx_add (P := Try.prog) Y.s Y.k x.s x.k HSB.out.1 HSB.out.2
            go_region
            go_wp2_with fail
            go_roundw
            case rel => exact ⟨Y.tellS (some x), .inr (.inl ⟨rfl, by rw [HYe.out]; rfl⟩), Lib.hid (by
              have e : Y.tellS (some x) = { Y with m := Y.m, s := Y.s + x.s, k := Y.k + x.k } := by unfold NdL.tellS pickM sOf kOf; dsimp only; rw [← HAB.out]; rfl
              rw [e]
              first | exact ⟨HY5.out.1.drew.set_ 13 _, mod_set HY5.out.2.drew _⟩ | exact ⟨(HY5.out.1.set_ 13 _).drew, (mod_set HY5.out.2 _).drew⟩)⟩
            case measure => simp [intOf]
          | true =>
            go_upto_region 7 with fail
            obtain ⟨w5, hw5⟩ : ∃ w5, w5 = (((w4.setCell ⟨a, 9, none⟩ (.int .i64 x.m.id)).setCell ⟨a, 10, none⟩ (.int .i64 x.m.u)).setCell ⟨a, 11, none⟩ (.int .i64 x.m.v)).setCell ⟨a, 12, none⟩ (.int .i64 (x.m.w : Int)) := ⟨_, rfl⟩
            rw [← hw5]
            have HY5 : Hid (Blk w5 a 71 (encL { Y with m := x.m }) ∧ Mod (fun k => k = a) w w5) := Lib.hid (by rw [hw5]; exact ⟨((((HY4.out.1.set_ 9 _).set_ 10 _).set_ 11 _).set_ 12 _), mod_set (mod_set (mod_set (mod_set HY4.out.2 _) _) _) _⟩)
            have HX5 : Hid (Blk w5 b 71 (encL x)) := Lib.hid (by rw [hw5]; exact HX4.out.mod (mod_set (mod_set (mod_set (mod_set (Mod.refl _ _) _) _) _) _) hba)
            clear a9 a10 a11 a12 b9 b10 b11 b12 f9 f10 f11 f12 hw5
            have a13 : w5.cell? ⟨a, 13, none⟩ = some (.complex .f64 (fl Y.s) (fl Y.k)) := HY5.out.1.cell 13
            have b13 : w5.cell? ⟨b, 13, none⟩ = some (.complex .f64 (fl x.s) (fl x.k)) := HX5.out.cell 13
            have f13 := HY5.out.1.frozen 13
            have hcx := cx_add (P := Try.prog) Y.s Y.k x.s x.k HSB.out.1 HSB.out.2
            go_region
            go_wp2_with fail
            go_roundw
            case rel => exact ⟨Y.tellS (some x), .inr (.inl ⟨rfl, by rw [HYe.out]; rfl⟩), Lib.hid (by
              have e : Y.tellS (some x) = { Y with m := x.m, s := Y.s + x.s, k := Y.k + x.k } := by unfold NdL.tellS pickM sOf kOf; dsimp only; rw [← HAB.out]; rfl
              rw [e]
              first | exact ⟨HY5.out.1.drew.set_ 13 _, mod_set HY5.out.2.drew _⟩ | exact ⟨(HY5.out.1.set_ 13 _).drew, (mod_set HY5.out.2 _).drew⟩)⟩
            case measure => simp [intOf]
      · have HYe := Lib.hid hY
        clear hY
        cases cr with
        | none =>
          have hp : pr = .pointer none := HPR.out
          subst hp
          go_wp2_with fail
          go_roundw
          case rel => exact ⟨Y, .inr (.inr ⟨rfl, by rw [HYe.out]; rfl⟩), HY⟩
          case measure => simp [intOf]
        | some q =>
          obtain ⟨b, x⟩ := q
          obtain ⟨hB, hba⟩ := HR.out b x rfl
          have hp : pr = .pointer (some ⟨b, 0, none⟩) := HPR.out
          subst hp
          have HBr : Hid (Blk wr b 71 (encL x)) := Lib.hid (hB.mod HY.out.2 hba)
          have HSB : Hid (Y.s + x.s < 2 ^ 53 ∧ Y.k + x.k < 2 ^ 53) := Lib.hid (by
            have h1 := HS.out
            have h2 := HK.out
            rw [HYe.out]
            simp only [NdL.own, NdL.tellS, Option.map, sOf, kOf] at h1 h2 ⊢
            constructor <;> omega)
          clear hB hba
          have hba : ¬ b = a := (HR.out b x rfl).2
          obtain ⟨ab, hab⟩ : ∃ v, v = x.m.above Y.m := ⟨_, rfl⟩
          have HAB := Lib.hid hab
          have ha := above_any x.m Y.m
          rw [← hab] at ha
          have HAA := Lib.hid ha
          clear ha hab
          go_upto_region 5 with fail
          have HD : Hid (∀ w4, Below wr.drew.heap.size wr.drew w4 ∨ w4 = wr.drew → w4.cell? ⟨a, 9, none⟩ = some (.int .i64 Y.m.id) ∧ w4.cell? ⟨a, 10, none⟩ = some (.int .i64 Y.m.u) ∧ w4.cell? ⟨a, 11, none⟩ = some (.int .i64 Y.m.v) ∧ w4.cell? ⟨a, 12, none⟩ = some (.int .i64 (Y.m.w : Int)) ∧ w4.cell? ⟨b, 9, none⟩ = some (.int .i64 x.m.id) ∧ w4.cell? ⟨b, 10, none⟩ = some (.int .i64 x.m.u) ∧ w4.cell? ⟨b, 11, none⟩ = some (.int .i64 x.m.v) ∧ w4.cell? ⟨b, 12, none⟩ = some (.int .i64 (x.m.w : Int))) := Lib.hid (fun w4 hb => by
            have y4 : Blk w4 a 71 (encL Y) := by rcases hb with hb | rfl; exact HY.out.1.drew.below hb HY.out.1.drew.lt; exact HY.out.1.drew
            have x4 : Blk w4 b 71 (encL x) := by rcases hb with hb | rfl; exact HBr.out.drew.below hb HBr.out.drew.lt; exact HBr.out.drew
            obtain ⟨-, -, -, -, -, -, ⟨a1, a2, a3, a4⟩, -⟩ := node_cells y4
            obtain ⟨-, -, -, -, -, -, ⟨b1, b2, b3, b4⟩, -⟩ := node_cells x4
            exact ⟨a1, a2, a3, a4, b1, b2, b3, b4⟩)
          obtain ⟨a9, a10, a11, a12, b9, b10, b11, b12⟩ : wr.cell? ⟨a, 9, none⟩ = some (.int .i64 Y.m.id) ∧ wr.cell? ⟨a, 10, none⟩ = some (.int .i64 Y.m.u) ∧ wr.cell? ⟨a, 11, none⟩ = some (.int .i64 Y.m.v) ∧ wr.cell? ⟨a, 12, none⟩ = some (.int .i64 (Y.m.w : Int)) ∧ wr.cell? ⟨b, 9, none⟩ = some (.int .i64 x.m.id) ∧ wr.cell? ⟨b, 10, none⟩ = some (.int .i64 x.m.u) ∧ wr.cell? ⟨b, 11, none⟩ = some (.int .i64 x.m.v) ∧ wr.cell? ⟨b, 12, none⟩ = some (.int .i64 (x.m.w : Int)) := by
            obtain ⟨-, -, -, -, -, -, ⟨a1, a2, a3, a4⟩, -⟩ := node_cells HY.out.1
            obtain ⟨-, -, -, -, -, -, ⟨b1, b2, b3, b4⟩, -⟩ := node_cells HBr.out
            exact ⟨a1, a2, a3, a4, b1, b2, b3, b4⟩
          go_region_held3 (fun w4 => w4.cell? ⟨a, 9, none⟩ = some (.int .i64 Y.m.id) ∧ w4.cell? ⟨a, 10, none⟩ = some (.int .i64 Y.m.u) ∧ w4.cell? ⟨a, 11, none⟩ = some (.int .i64 Y.m.v) ∧ w4.cell? ⟨a, 12, none⟩ = some (.int .i64 (Y.m.w : Int)) ∧ w4.cell? ⟨b, 9, none⟩ = some (.int .i64 x.m.id) ∧ w4.cell? ⟨b, 10, none⟩ = some (.int .i64 x.m.u) ∧ w4.cell? ⟨b, 11, none⟩ = some (.int .i64 x.m.v) ∧ w4.cell? ⟨b, 12, none⟩ = some (.int .i64 (x.m.w : Int))) (first | with_reducible exact HD.out _ (.inr rfl) | with_reducible exact HC.out | fail)
            ((go_at_call 49; refine (HAA.out _).mono ?_; rintro e w4 ⟨rfl, hb4⟩; have HC := Lib.hid (HD.out w4 (.inl hb4)); have HB4 : Hid (Below wr.drew.heap.size wr.drew w4) := Lib.hid ⟨hb4.os, hb4.tape, hb4.output, hb4.size, hb4.block⟩; clear hb4))
          clear a9 a10 a11 a12 b9 b10 b11 b12
          have HY4 : Hid (Blk w4 a 71 (encL Y) ∧ Mod (fun k => k = a) w w4) := Lib.hid ⟨HY.out.1.drew.below HB4.out HY.out.1.drew.lt, (HY.out.2.drew).trans' (Mod.of_below HB4.out _)⟩
          have HX4 : Hid (Blk w4 b 71 (encL x)) := Lib.hid (HBr.out.drew.below HB4.out HBr.out.drew.lt)
          obtain ⟨a9, a10, a11, a12, b9, b10, b11, b12⟩ := HC.out
          have f9 := HY4.out.1.frozen 9
          have f10 := HY4.out.1.frozen 10
          have f11 := HY4.out.1.frozen 11
          have f12 := HY4.out.1.frozen 12
          cases ab with
          | false =>
            go_upto_region 7 with fail
            have HY5 : Hid (Blk w4 a 71 (encL { Y with m := Y.m }) ∧ Mod (fun k => k = a) w w4) := HY4
            have HX5 := HX4
            clear a9 a10 a11 a12 b9 b10 b11 b12 f9 f10 f11 f12
            have a13 : w4.cell? ⟨a, 13, none⟩ = some (.complex .f64 (fl Y.s) (fl Y.k)) := HY5.out.1.cell 13
            have b13 : w4.cell? ⟨b, 13, none⟩ = some (.complex .f64 (fl x.s) (fl x.k)) := HX5.out.cell 13
            have f13 := HY5.out.1.frozen 13
            have hcx := cx_add (P := Try.prog) Y.s Y.k x.s x.k HSB.out.1 HSB.out.2
            go_region
            go_wp2_with fail
            go_roundw
            case rel => exact ⟨Y.tellS (some x), .inr (.inr ⟨rfl, by rw [HYe.out]; rfl⟩), Lib.hid (by
              have e : Y.tellS (some x) = { Y with m := Y.m, s := Y.s + x.s, k := Y.k + x.k } := by unfold NdL.tellS pickM sOf kOf; dsimp only; rw [← HAB.out]; rfl
              rw [e]
              first | exact ⟨HY5.out.1.drew.set_ 13 _, mod_set HY5.out.2.drew _⟩ | exact ⟨(HY5.out.1.set_ 13 _).drew, (mod_set HY5.out.2 _).drew⟩)⟩
            case measure => simp [intOf]
          | true =>
            go_upto_region 7 with fail
            obtain ⟨w5, hw5⟩ : ∃ w5, w5 = (((w4.setCell ⟨a, 9, none⟩ (.int .i64 x.m.id)).setCell ⟨a, 10, none⟩ (.int .i64 x.m.u)).setCell ⟨a, 11, none⟩ (.int .i64 x.m.v)).setCell ⟨a, 12, none⟩ (.int .i64 (x.m.w : Int)) := ⟨_, rfl⟩
            rw [← hw5]
            have HY5 : Hid (Blk w5 a 71 (encL { Y with m := x.m }) ∧ Mod (fun k => k = a) w w5) := Lib.hid (by rw [hw5]; exact ⟨((((HY4.out.1.set_ 9 _).set_ 10 _).set_ 11 _).set_ 12 _), mod_set (mod_set (mod_set (mod_set HY4.out.2 _) _) _) _⟩)
            have HX5 : Hid (Blk w5 b 71 (encL x)) := Lib.hid (by rw [hw5]; exact HX4.out.mod (mod_set (mod_set (mod_set (mod_set (Mod.refl _ _) _) _) _) _) hba)
            clear a9 a10 a11 a12 b9 b10 b11 b12 f9 f10 f11 f12 hw5
            have a13 : w5.cell? ⟨a, 13, none⟩ = some (.complex .f64 (fl Y.s) (fl Y.k)) := HY5.out.1.cell 13
            have b13 : w5.cell? ⟨b, 13, none⟩ = some (.complex .f64 (fl x.s) (fl x.k)) := HX5.out.cell 13
            have f13 := HY5.out.1.frozen 13
            have hcx := cx_add (P := Try.prog) Y.s Y.k x.s x.k HSB.out.1 HSB.out.2
            go_region
            go_wp2_with fail
            go_roundw
            case rel => exact ⟨Y.tellS (some x), .inr (.inr ⟨rfl, by rw [HYe.out]; rfl⟩), Lib.hid (by
              have e : Y.tellS (some x) = { Y with m := x.m, s := Y.s + x.s, k := Y.k + x.k } := by unfold NdL.tellS pickM sOf kOf; dsimp only; rw [← HAB.out]; rfl
              rw [e]
              first | exact ⟨HY5.out.1.drew.set_ 13 _, mod_set HY5.out.2.drew _⟩ | exact ⟨(HY5.out.1.set_ 13 _).drew, (mod_set HY5.out.2 _).drew⟩)⟩
            case measure => simp [intOf]
      · have HYe := Lib.hid hY
        clear hY
        go_wp2_with fail
        go_end0
        exact ⟨rfl, by unfold NdL.tellX; rw [← HYe.out]; exact HY.out.1, HY.out.2⟩

end Go.Proofs.Ytlhkajlkapoabaa
