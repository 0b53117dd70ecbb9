/-
  The walks of cmp.Compare at int64, cmp.Or of two, plain's byWeight; edges sorted by the library.
-/
import Derived.Test.YtghacfhpafbdmaaGreatG15
import Derived.Test.YtghacfhpafbdmaaGreatShelf
import Derived.StillTailTactics
namespace Go.Proofs.YtghacfhpafbdmaaGreat
open Go.RowKit Go.Sort Go.Shelf
set_option linter.unusedVariables false

theorem isNaN64_any (x : Int) (w : World) : Calls Tryz.prog 121 #[.int .i64 x] w fun e w' => e = .returned (.bool false) ∧ w = w' := by
  go_enter Tryz.func121, Tryz.ntmps121
  go_wp2
  go_ret
  exact ⟨rfl, rfl⟩

theorem compare64_any (x y r : Int) (hr : r = Lib.compareInt x y) (w : World) : Calls Tryz.prog 91 #[.int .i64 x, .int .i64 y] w fun e w' => e = .returned (.int .i64 r) ∧ w = w' := by
  unfold Lib.compareInt at hr
  by_cases h1 : x < y
  · rw [if_pos h1] at hr
    subst hr
    go_enter Tryz.func91, Tryz.ntmps91
    go_wp2_with (go_at_call 121; refine (isNaN64_any _ _).mono ?_; rintro e w' ⟨rfl, rfl⟩)
    go_ret
    exact ⟨rfl, rfl⟩
  · rw [if_neg h1] at hr
    by_cases h2 : x > y
    · rw [if_pos h2] at hr
      subst hr
      go_enter Tryz.func91, Tryz.ntmps91
      go_wp2_with (go_at_call 121; refine (isNaN64_any _ _).mono ?_; rintro e w' ⟨rfl, rfl⟩)
      go_ret
      exact ⟨rfl, rfl⟩
    · rw [if_neg h2] at hr
      subst hr
      go_enter Tryz.func91, Tryz.ntmps91
      go_wp2_with (go_at_call 121; refine (isNaN64_any _ _).mono ?_; rintro e w' ⟨rfl, rfl⟩)
      go_ret
      exact ⟨rfl, rfl⟩
theorem compareI_any (x y r : Int) (hr : r = Lib.compareInt x y) (w : World) : Calls Tryz.prog 92 #[.int .i64 x, .int .i64 y] w fun e w' => e = .returned (.int .i64 r) ∧ w = w' := by
  subst hr
  exact (Go.Proofs.Tryz.cmp_Compare_int x y w).mono fun e w' ⟨h1, h2⟩ => ⟨h1, h2.symm⟩

/-- 'cmp.Or' of two. -/
def or2 (x y : Int) : Int := if x ≠ 0 then x else y
theorem or2_any (h : Nat) (x y : Int) (w : World) (c0 : w.cell? ⟨h, 0, none⟩ = some (.int .i64 x)) (c1 : w.cell? ⟨h, 1, none⟩ = some (.int .i64 y)) :
    Calls Tryz.prog 90 #[.slice (some ⟨h, 0, none⟩) 2 2] w fun e w' => e = .returned (.int .i64 (or2 x y)) ∧ w = w' := by
  unfold or2
  by_cases h1 : x = 0
  · subst h1
    by_cases h2 : y = 0
    · subst h2
      go_enter Tryz.func90, Tryz.ntmps90
      go_wp2
      refine wp_loop_rounds 3 ?_
      rw [rounds_succ]
      go_wp2
      rw [rounds_succ]
      go_wp2
      rw [rounds_succ]
      go_wp2
      go_ret
      exact ⟨rfl, rfl⟩
    · rw [if_neg (by simp)]
      go_enter Tryz.func90, Tryz.ntmps90
      go_wp2
      refine wp_loop_rounds 3 ?_
      rw [rounds_succ]
      go_wp2
      rw [rounds_succ]
      go_wp2
      go_ret
      exact ⟨rfl, rfl⟩
  · rw [if_pos h1]
    go_enter Tryz.func90, Tryz.ntmps90
    go_wp2
    refine wp_loop_rounds 3 ?_
    rw [rounds_succ]
    go_wp2
    go_ret
    exact ⟨rfl, rfl⟩

theorem grown3 (W : World) (a b c : Obj) : ∃ q os', (((W.alloc a).alloc b).alloc c).drew = grow (W.drewN q) os' := by
  refine ⟨1, #[a] ++ #[b] ++ #[c], ?_⟩
  rw [alloc_eq_grow, alloc_eq_grow, alloc_eq_grow, grow_grow, grow_grow]
  simp only [Array.append_assoc]
  rfl

def cfW (x y : Ed) : Int := or2 (Lib.compareInt x.w y.w) (Lib.compareInt x.id y.id)

set_option maxRecDepth 100000 in
set_option maxHeartbeats 2000000 in
theorem byWeight_any (x y : Ed) (W : World) : Calls Tryz.prog 55 #[.agg (encE x).toArray, .agg (encE y).toArray] W fun e w' => e = .returned (.int .i64 (cfW x y)) ∧ ∃ q os', w' = grow (W.drewN q) os' := by
  obtain ⟨xi, xu, xv, xw⟩ := x
  obtain ⟨yi, yu, yv, yw⟩ := y
  show Calls Tryz.prog 55 #[.agg #[.int .i64 xi, .int .i64 xu, .int .i64 xv, .int .i64 xw], .agg #[.int .i64 yi, .int .i64 yu, .int .i64 yv, .int .i64 yw]] W _
  unfold cfW
  dsimp only
  obtain ⟨a, ha⟩ : ∃ a, a = Lib.compareInt xw yw := ⟨_, rfl⟩
  obtain ⟨b, hb⟩ : ∃ b, b = Lib.compareInt xi yi := ⟨_, rfl⟩
  rw [← ha, ← hb]
  have HA := Lib.hid ha
  have HB := Lib.hid hb
  clear ha hb
  go_enter Tryz.func55, Tryz.ntmps55
  go_wp2_with fail
  refine wp_region_still_tail 10 (by kernel_rfl) (by kernel_rfl) ?_
  simp only [List.take_succ_cons, List.take_zero, List.drop_succ_cons, List.drop_zero]
  change wpStill _ _ (World.drew _) _ _ _
  repeat still_step
  still_call (by exact (compare64_any _ _ _ HA.out _).mono (fun e w' ⟨he, hw⟩ => ⟨he, hw.symm⟩))
  repeat still_step
  still_call (by exact (compareI_any _ _ _ HB.out _).mono (fun e w' ⟨he, hw⟩ => ⟨he, hw.symm⟩))
  repeat still_step
  refine wpStill_nil ?_
  change wpList _ _ _ _ _ (World.drew _)
  go_wp2_with fail
  refine (or2_any _ a b _ (by simp; rw [World.cell?_alloc_at _ _ _ _ (by simp)]; rfl) (by simp; rw [World.cell?_alloc_at _ _ _ _ (by simp)]; rfl)).mono ?_
  rintro e w' ⟨rfl, rfl⟩
  go_wp2_with fail
  go_ret
  exact ⟨rfl, grown3 _ _ _ _⟩

theorem ltOf_cfW (x y : Ed) : ltOf cfW x y = ltW x y := by
  unfold ltOf cfW or2 Lib.compareInt ltW
  rw [Bool.eq_iff_iff]
  simp only [decide_eq_true_eq]
  by_cases h1 : x.w < y.w
  · simp [h1]
  · by_cases h2 : x.w > y.w
    · simp [h1, h2]; omega
    · by_cases h3 : x.id < y.id
      · simp [h1, h2, h3]; omega
      · by_cases h4 : x.id > y.id
        · simp [h1, h2, h3, h4]
        · simp [h1, h2, h3, h4]
theorem swoW : SWO (ltOf cfW) where
  irrefl x := by rw [ltOf_cfW]; simp [ltW]
  trans x y z h1 h2 := by rw [ltOf_cfW] at *; simp [ltW] at *; omega
  ntrans x y z h1 h2 := by rw [ltOf_cfW] at *; simp [ltW] at *; omega
end Go.Proofs.YtghacfhpafbdmaaGreat
