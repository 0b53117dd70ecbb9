/-
  The walk of keys.Parse.
-/
import Derived.Test.YtbmjiheclagfiaaK4
import Derived.StillTailTactics
import Derived.ScopeJumps
import Derived.WalkMore
import Derived.Outline
namespace Go.Proofs.Ytbmjiheclagfiaa
open Go.RowKit
set_option linter.unusedVariables false

/-- What a key names. -/
def parseL (l : List Nat) : Option (Bool × Nat × ByteArray) :=
  if l.length = 5 ∧ (l.getD 0 0 = 1 ∨ l.getD 0 0 = 2) then (if idB (val4 l 1) then some (decide (l.getD 0 0 = 2), val4 l 1, ByteArray.empty) else none)
  else if 6 < l.length ∧ l.getD 0 0 = 3 ∧ l.getD 1 0 ≤ 1 then (if idB (val4 l 2) && nameB (strOf (l.drop 6)) then some (decide (l.getD 1 0 = 1), val4 l 2, strOf (l.drop 6)) else none)
  else none
def parsedV : Option (Bool × Nat × ByteArray) → Value
  | some (e, n, s) => .tuple #[refV e n, .string s, .bool true]
  | none => .tuple #[refV false 0, .string ByteArray.empty, .bool false]

/-- What holds where a goto comes to the end. -/
def ParseJ (w : World) (a' : Act) (w' : World) : Prop := ∃ (u0 u1 u5 u6 u7 u8 u9 u10 u11 u12 u13 u14 u15 u16 u17 u18 u19 u20 u21 u22 u23 u24 u25 u26 u27 u28 u29 u30 u31 u32 u33 u34 u35 u36 u37 u38 u39 u40 u41 u42 u43 u44 u45 u46 u47 u48 u49 u50 u51 u52 u53 u54 u55 u56 u57 u58 u59 u60 u61 u62 u63 u64 u65 : Value) (x y : Value) (k : Nat), a' = { tmps := #[u0, u1, .pointer (some ⟨w.heap.size, 0, none⟩), .string ByteArray.empty, .bool false, u5, u6, u7, u8, u9, u10, u11, u12, u13, u14, u15, u16, u17, u18, u19, u20, u21, u22, u23, u24, u25, u26, u27, u28, u29, u30, u31, u32, u33, u34, u35, u36, u37, u38, u39, u40, u41, u42, u43, u44, u45, u46, u47, u48, u49, u50, u51, u52, u53, u54, u55, u56, u57, u58, u59, u60, u61, u62, u63, u64, u65], defers := [] } ∧ w' = ((w.alloc (.cells #[.bool false, .int .i64 0] 29)).alloc (.cells #[x, y] 29)).drewN k
theorem parse_below (w : World) (x y : Value) (k : Nat) : Below w.heap.size w (((w.alloc (.cells #[.bool false, .int .i64 0] 29)).alloc (.cells #[x, y] 29)).drewN k) := by
  have h : Below w.heap.size w ((w.alloc (.cells #[.bool false, .int .i64 0] 29)).alloc (.cells #[x, y] 29)) := ((Below.refl _ _).alloc (Nat.le_refl _) _).alloc (by simp) _
  exact ⟨h.os, h.tape, h.output, h.size, h.block⟩
theorem drewN_zero (w : World) : w = w.drewN 0 := rfl
theorem drewN_one (w : World) : w.drew = w.drewN 1 := rfl

def ParseQ (w : World) (r : Option (Bool × Nat × ByteArray)) (e : Ending) (w' : World) : Prop := e = .returned (parsedV r) ∧ Below w.heap.size w w'

set_option maxRecDepth 100000 in
set_option maxHeartbeats 4000000 in
theorem parse_elem_ok1 (b off c : Nat) (l : List Nat) (w : World) (hv : Hid (RB w w.heap.size (.slice (some ⟨b, off, none⟩) l.length c) l)) (hb : b < w.heap.size) (h5 : Hid (l.length = 5)) (hc : w.cell? ⟨b, off, none⟩ = some (.int .u8 1)) (h5i : ((l.length : Int) == 5) = true) (h0 : 0 < l.length) (h0i : (0 : Int) < l.length) (h5c : (l.length : Int) ≤ c) (n : Nat) (hn : Hid (val4 l 1 = n)) (hid : Hid (idB n = true)) (HR : Hid (parseL l = some (false, n, ByteArray.empty))) : Calls Try.prog 20 #[.slice (some ⟨b, off, none⟩) l.length c] w (ParseQ w (parseL l)) := by
  go_enter Try.func20, Try.ntmps20
  go_wp2
  go_step3
  go_wp2_with fail
  refine wp_region_still_tail 7 (by kernel_rfl) (by kernel_rfl) ?_
  simp only [List.take_succ_cons, List.take_zero, List.drop_succ_cons, List.drop_zero]
  change wpStill _ _ (World.drew _) _ _ _
  repeat still_step
  still_call (by exact (getId_any _ l 1 _ w.heap.size (by exact (hv.out.alloc (Nat.le_refl _) _).alloc (by simp) _) (by have := h5.out; omega)).mono (fun e w' ⟨he, hw⟩ => ⟨he, hw.symm⟩))
  repeat still_step
  refine wpStill_nil ?_
  change wpList _ _ _ _ _ (World.drew _)
  rw [hn.out]
  go_wp2_with fail
  refine (isId_any _ _).mono ?_
  rw [hid.out]
  rintro e w1 ⟨rfl, rfl⟩
  go_wp2
  try rw [Exit.noGoto_ret]
  refine bodyPost_ret (v := .tuple #[refV false n, .string ByteArray.empty, .bool true]) (by unfold refV; simp [results, Try.results20, go_sem]; try rfl) rfl ⟨by rw [HR.out]; rfl, ?_⟩
  go_grown

set_option maxRecDepth 100000 in
set_option maxHeartbeats 4000000 in
theorem parse_elem_bad1 (b off c : Nat) (l : List Nat) (w : World) (hv : Hid (RB w w.heap.size (.slice (some ⟨b, off, none⟩) l.length c) l)) (hb : b < w.heap.size) (h5 : Hid (l.length = 5)) (hc : w.cell? ⟨b, off, none⟩ = some (.int .u8 1)) (h5i : ((l.length : Int) == 5) = true) (h0 : 0 < l.length) (h0i : (0 : Int) < l.length) (h5c : (l.length : Int) ≤ c) (n : Nat) (hn : Hid (val4 l 1 = n)) (hid : Hid (idB n = false)) (HR : Hid (parseL l = none)) : Calls Try.prog 20 #[.slice (some ⟨b, off, none⟩) l.length c] w (ParseQ w (parseL l)) := by
  go_enter Try.func20, Try.ntmps20
  go_wp2
  refine wp_scope_jumps 0 (ParseJ w) (fun _ _ => 0) rfl ?_ ?_
  · go_wp2_with fail
    refine wp_region_still_tail 7 (by kernel_rfl) (by kernel_rfl) ?_
    simp only [List.take_succ_cons, List.take_zero, List.drop_succ_cons, List.drop_zero]
    change wpStill _ _ (World.drew _) _ _ _
    repeat still_step
    still_call (by exact (getId_any _ l 1 _ w.heap.size (by exact (hv.out.alloc (Nat.le_refl _) _).alloc (by simp) _) (by have := h5.out; omega)).mono (fun e w' ⟨he, hw⟩ => ⟨he, hw.symm⟩))
    repeat still_step
    refine wpStill_nil ?_
    change wpList _ _ _ _ _ (World.drew _)
    rw [hn.out]
    go_wp2_with fail
    refine (isId_any _ _).mono ?_
    rw [hid.out]
    rintro e w1 ⟨rfl, rfl⟩
    go_wp2
    go_step3
    exact ⟨rfl, _, _, _, _, _, _, _, _, _, _, _, _, _, _, _, _, _, _, _, _, _, _, _, _, _, _, _, _, _, _, _, _, _, _, _, _, _, _, _, _, _, _, _, _, _, _, _, _, _, _, _, _, _, _, _, _, _, _, _, _, _, _, _, _, _, _, rfl, drewN_one _⟩
  · rintro a' w' ⟨u0, u1, u5, u6, u7, u8, u9, u10, u11, u12, u13, u14, u15, u16, u17, u18, u19, u20, u21, u22, u23, u24, u25, u26, u27, u28, u29, u30, u31, u32, u33, u34, u35, u36, u37, u38, u39, u40, u41, u42, u43, u44, u45, u46, u47, u48, u49, u50, u51, u52, u53, u54, u55, u56, u57, u58, u59, u60, u61, u62, u63, u64, u65, x, y, k, rfl, rfl⟩
    go_wp2
    simp only [Exit.jump]
    refine bodyPost_ret (v := .tuple #[refV false 0, .string ByteArray.empty, .bool false]) (by unfold refV; simp [results, Try.results20, go_sem]; try rfl) rfl ⟨by rw [HR.out]; rfl, ?_⟩
    exact ((parse_below w x y k).setCell (p := ⟨w.heap.size, 0, none⟩) (Nat.le_refl _) _).setCell (p := ⟨w.heap.size, 1, none⟩) (Nat.le_refl _) _

set_option maxRecDepth 100000 in
set_option maxHeartbeats 4000000 in
theorem parse_elem_ok2 (b off c : Nat) (l : List Nat) (w : World) (hv : Hid (RB w w.heap.size (.slice (some ⟨b, off, none⟩) l.length c) l)) (hb : b < w.heap.size) (h5 : Hid (l.length = 5)) (hc : w.cell? ⟨b, off, none⟩ = some (.int .u8 2)) (h5i : ((l.length : Int) == 5) = true) (h0 : 0 < l.length) (h0i : (0 : Int) < l.length) (h5c : (l.length : Int) ≤ c) (n : Nat) (hn : Hid (val4 l 1 = n)) (hid : Hid (idB n = true)) (HR : Hid (parseL l = some (true, n, ByteArray.empty))) : Calls Try.prog 20 #[.slice (some ⟨b, off, none⟩) l.length c] w (ParseQ w (parseL l)) := by
  go_enter Try.func20, Try.ntmps20
  go_wp2
  go_step3
  go_wp2_with fail
  refine wp_region_still_tail 7 (by kernel_rfl) (by kernel_rfl) ?_
  simp only [List.take_succ_cons, List.take_zero, List.drop_succ_cons, List.drop_zero]
  change wpStill _ _ (World.drew _) _ _ _
  repeat still_step
  still_call (by exact (getId_any _ l 1 _ w.heap.size (by exact (hv.out.alloc (Nat.le_refl _) _).alloc (by simp) _) (by have := h5.out; omega)).mono (fun e w' ⟨he, hw⟩ => ⟨he, hw.symm⟩))
  repeat still_step
  refine wpStill_nil ?_
  change wpList _ _ _ _ _ (World.drew _)
  rw [hn.out]
  go_wp2_with fail
  refine (isId_any _ _).mono ?_
  rw [hid.out]
  rintro e w1 ⟨rfl, rfl⟩
  go_wp2
  try rw [Exit.noGoto_ret]
  refine bodyPost_ret (v := .tuple #[refV true n, .string ByteArray.empty, .bool true]) (by unfold refV; simp [results, Try.results20, go_sem]; try rfl) rfl ⟨by rw [HR.out]; rfl, ?_⟩
  go_grown

set_option maxRecDepth 100000 in
set_option maxHeartbeats 4000000 in
theorem parse_elem_bad2 (b off c : Nat) (l : List Nat) (w : World) (hv : Hid (RB w w.heap.size (.slice (some ⟨b, off, none⟩) l.length c) l)) (hb : b < w.heap.size) (h5 : Hid (l.length = 5)) (hc : w.cell? ⟨b, off, none⟩ = some (.int .u8 2)) (h5i : ((l.length : Int) == 5) = true) (h0 : 0 < l.length) (h0i : (0 : Int) < l.length) (h5c : (l.length : Int) ≤ c) (n : Nat) (hn : Hid (val4 l 1 = n)) (hid : Hid (idB n = false)) (HR : Hid (parseL l = none)) : Calls Try.prog 20 #[.slice (some ⟨b, off, none⟩) l.length c] w (ParseQ w (parseL l)) := by
  go_enter Try.func20, Try.ntmps20
  go_wp2
  refine wp_scope_jumps 0 (ParseJ w) (fun _ _ => 0) rfl ?_ ?_
  · go_wp2_with fail
    refine wp_region_still_tail 7 (by kernel_rfl) (by kernel_rfl) ?_
    simp only [List.take_succ_cons, List.take_zero, List.drop_succ_cons, List.drop_zero]
    change wpStill _ _ (World.drew _) _ _ _
    repeat still_step
    still_call (by exact (getId_any _ l 1 _ w.heap.size (by exact (hv.out.alloc (Nat.le_refl _) _).alloc (by simp) _) (by have := h5.out; omega)).mono (fun e w' ⟨he, hw⟩ => ⟨he, hw.symm⟩))
    repeat still_step
    refine wpStill_nil ?_
    change wpList _ _ _ _ _ (World.drew _)
    rw [hn.out]
    go_wp2_with fail
    refine (isId_any _ _).mono ?_
    rw [hid.out]
    rintro e w1 ⟨rfl, rfl⟩
    go_wp2
    go_step3
    exact ⟨rfl, _, _, _, _, _, _, _, _, _, _, _, _, _, _, _, _, _, _, _, _, _, _, _, _, _, _, _, _, _, _, _, _, _, _, _, _, _, _, _, _, _, _, _, _, _, _, _, _, _, _, _, _, _, _, _, _, _, _, _, _, _, _, _, _, _, _, rfl, drewN_one _⟩
  · rintro a' w' ⟨u0, u1, u5, u6, u7, u8, u9, u10, u11, u12, u13, u14, u15, u16, u17, u18, u19, u20, u21, u22, u23, u24, u25, u26, u27, u28, u29, u30, u31, u32, u33, u34, u35, u36, u37, u38, u39, u40, u41, u42, u43, u44, u45, u46, u47, u48, u49, u50, u51, u52, u53, u54, u55, u56, u57, u58, u59, u60, u61, u62, u63, u64, u65, x, y, k, rfl, rfl⟩
    go_wp2
    simp only [Exit.jump]
    refine bodyPost_ret (v := .tuple #[refV false 0, .string ByteArray.empty, .bool false]) (by unfold refV; simp [results, Try.results20, go_sem]; try rfl) rfl ⟨by rw [HR.out]; rfl, ?_⟩
    exact ((parse_below w x y k).setCell (p := ⟨w.heap.size, 0, none⟩) (Nat.le_refl _) _).setCell (p := ⟨w.heap.size, 1, none⟩) (Nat.le_refl _) _

end Go.Proofs.Ytbmjiheclagfiaa
