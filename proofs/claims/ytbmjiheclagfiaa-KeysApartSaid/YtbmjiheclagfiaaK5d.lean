/-
  The walk of keys.Parse, part 4.
-/
import Derived.Test.YtbmjiheclagfiaaK5
namespace Go.Proofs.Ytbmjiheclagfiaa
open Go.RowKit
set_option linter.unusedVariables false

set_option maxRecDepth 100000 in
set_option maxHeartbeats 4000000 in
theorem parse_not_short (A : Option Addr) (c : Nat) (l : List Nat) (w : World) (h5i : ((l.length : Int) == 5) = false) (h7i : decide ((6 : Int) < l.length) = false) (h7n : decide (6 < l.length) = false) (HR : Hid (parseL l = none)) : Calls Try.prog 20 #[.slice A l.length c] w (ParseQ w (parseL l)) := by
  go_enter Try.func20, Try.ntmps20
  go_wp2
  refine wp_scope_jumps 0 (ParseJ w) (fun _ _ => 0) rfl ?_ ?_
  · go_wp2
    go_step3
    exact ⟨rfl, _, _, _, _, _, _, _, _, _, _, _, _, _, _, _, _, _, _, _, _, _, _, _, _, _, _, _, _, _, _, _, _, _, _, _, _, _, _, _, _, _, _, _, _, _, _, _, _, _, _, _, _, _, _, _, _, _, _, _, _, _, _, _, _, _, _, rfl, drewN_zero _⟩
  · rintro a' w' ⟨u0, u1, u5, u6, u7, u8, u9, u10, u11, u12, u13, u14, u15, u16, u17, u18, u19, u20, u21, u22, u23, u24, u25, u26, u27, u28, u29, u30, u31, u32, u33, u34, u35, u36, u37, u38, u39, u40, u41, u42, u43, u44, u45, u46, u47, u48, u49, u50, u51, u52, u53, u54, u55, u56, u57, u58, u59, u60, u61, u62, u63, u64, u65, x, y, k, rfl, rfl⟩
    go_wp2
    simp only [Exit.jump]
    refine bodyPost_ret (v := .tuple #[refV false 0, .string ByteArray.empty, .bool false]) (by unfold refV; simp [results, Try.results20, go_sem]; try rfl) rfl ⟨by rw [HR.out]; rfl, ?_⟩
    exact ((parse_below w x y k).setCell (p := ⟨w.heap.size, 0, none⟩) (Nat.le_refl _) _).setCell (p := ⟨w.heap.size, 1, none⟩) (Nat.le_refl _) _

set_option maxRecDepth 100000 in
set_option maxHeartbeats 4000000 in
theorem parse_not_five (A : Option Addr) (c : Nat) (l : List Nat) (w : World) (h5i : ((l.length : Int) == 5) = true) (h7i : decide ((6 : Int) < l.length) = false) (h7n : decide (6 < l.length) = false) (b off : Nat) (hA : A = some ⟨b, off, none⟩) (hb : b < w.heap.size) (x : Nat) (hc : w.cell? ⟨b, off, none⟩ = some (.int .u8 (x : Int))) (h0 : 0 < l.length) (h0i : (0 : Int) < l.length) (x1 : ((x : Int) == 1) = false) (x2 : ((x : Int) == 2) = false) (HR : Hid (parseL l = none)) : Calls Try.prog 20 #[.slice A l.length c] w (ParseQ w (parseL l)) := by
  subst hA
  go_enter Try.func20, Try.ntmps20
  go_wp2
  refine wp_scope_jumps 0 (ParseJ w) (fun _ _ => 0) rfl ?_ ?_
  · go_wp2
    go_step3
    exact ⟨rfl, _, _, _, _, _, _, _, _, _, _, _, _, _, _, _, _, _, _, _, _, _, _, _, _, _, _, _, _, _, _, _, _, _, _, _, _, _, _, _, _, _, _, _, _, _, _, _, _, _, _, _, _, _, _, _, _, _, _, _, _, _, _, _, _, _, _, rfl, drewN_zero _⟩
  · rintro a' w' ⟨u0, u1, u5, u6, u7, u8, u9, u10, u11, u12, u13, u14, u15, u16, u17, u18, u19, u20, u21, u22, u23, u24, u25, u26, u27, u28, u29, u30, u31, u32, u33, u34, u35, u36, u37, u38, u39, u40, u41, u42, u43, u44, u45, u46, u47, u48, u49, u50, u51, u52, u53, u54, u55, u56, u57, u58, u59, u60, u61, u62, u63, u64, u65, x, y, k, rfl, rfl⟩
    go_wp2
    simp only [Exit.jump]
    refine bodyPost_ret (v := .tuple #[refV false 0, .string ByteArray.empty, .bool false]) (by unfold refV; simp [results, Try.results20, go_sem]; try rfl) rfl ⟨by rw [HR.out]; rfl, ?_⟩
    exact ((parse_below w x y k).setCell (p := ⟨w.heap.size, 0, none⟩) (Nat.le_refl _) _).setCell (p := ⟨w.heap.size, 1, none⟩) (Nat.le_refl _) _

set_option maxRecDepth 100000 in
set_option maxHeartbeats 4000000 in
theorem parse_not_head (A : Option Addr) (c : Nat) (l : List Nat) (w : World) (h5i : ((l.length : Int) == 5) = false) (h7i : decide ((6 : Int) < l.length) = true) (h7n : decide (6 < l.length) = true) (b off : Nat) (hA : A = some ⟨b, off, none⟩) (hb : b < w.heap.size) (x : Nat) (hc : w.cell? ⟨b, off, none⟩ = some (.int .u8 (x : Int))) (h0 : 0 < l.length) (h0i : (0 : Int) < l.length) (x3 : ((x : Int) == 3) = false) (HR : Hid (parseL l = none)) : Calls Try.prog 20 #[.slice A l.length c] w (ParseQ w (parseL l)) := by
  subst hA
  go_enter Try.func20, Try.ntmps20
  go_wp2
  refine wp_scope_jumps 0 (ParseJ w) (fun _ _ => 0) rfl ?_ ?_
  · go_wp2
    go_step3
    exact ⟨rfl, _, _, _, _, _, _, _, _, _, _, _, _, _, _, _, _, _, _, _, _, _, _, _, _, _, _, _, _, _, _, _, _, _, _, _, _, _, _, _, _, _, _, _, _, _, _, _, _, _, _, _, _, _, _, _, _, _, _, _, _, _, _, _, _, _, _, rfl, drewN_zero _⟩
  · rintro a' w' ⟨u0, u1, u5, u6, u7, u8, u9, u10, u11, u12, u13, u14, u15, u16, u17, u18, u19, u20, u21, u22, u23, u24, u25, u26, u27, u28, u29, u30, u31, u32, u33, u34, u35, u36, u37, u38, u39, u40, u41, u42, u43, u44, u45, u46, u47, u48, u49, u50, u51, u52, u53, u54, u55, u56, u57, u58, u59, u60, u61, u62, u63, u64, u65, x, y, k, rfl, rfl⟩
    go_wp2
    simp only [Exit.jump]
    refine bodyPost_ret (v := .tuple #[refV false 0, .string ByteArray.empty, .bool false]) (by unfold refV; simp [results, Try.results20, go_sem]; try rfl) rfl ⟨by rw [HR.out]; rfl, ?_⟩
    exact ((parse_below w x y k).setCell (p := ⟨w.heap.size, 0, none⟩) (Nat.le_refl _) _).setCell (p := ⟨w.heap.size, 1, none⟩) (Nat.le_refl _) _

set_option maxRecDepth 100000 in
set_option maxHeartbeats 4000000 in
theorem parse_not_class (A : Option Addr) (c : Nat) (l : List Nat) (w : World) (h5i : ((l.length : Int) == 5) = false) (h7i : decide ((6 : Int) < l.length) = true) (h7n : decide (6 < l.length) = true) (b off : Nat) (hA : A = some ⟨b, off, none⟩) (hb : b < w.heap.size) (x : Nat) (hc : w.cell? ⟨b, off, none⟩ = some (.int .u8 (x : Int))) (h0 : 0 < l.length) (h0i : (0 : Int) < l.length) (x3 : ((x : Int) == 3) = true) (y : Nat) (hc1 : w.cell? ⟨b, off + 1, none⟩ = some (.int .u8 (y : Int))) (h1i : (1 : Int) < l.length) (y1 : decide ((y : Int) ≤ 1) = false) (y1n : decide (y ≤ 1) = false) (HR : Hid (parseL l = none)) : Calls Try.prog 20 #[.slice A l.length c] w (ParseQ w (parseL l)) := by
  subst hA
  go_enter Try.func20, Try.ntmps20
  go_wp2
  refine wp_scope_jumps 0 (ParseJ w) (fun _ _ => 0) rfl ?_ ?_
  · go_wp2
    go_step3
    exact ⟨rfl, _, _, _, _, _, _, _, _, _, _, _, _, _, _, _, _, _, _, _, _, _, _, _, _, _, _, _, _, _, _, _, _, _, _, _, _, _, _, _, _, _, _, _, _, _, _, _, _, _, _, _, _, _, _, _, _, _, _, _, _, _, _, _, _, _, _, rfl, drewN_zero _⟩
  · rintro a' w' ⟨u0, u1, u5, u6, u7, u8, u9, u10, u11, u12, u13, u14, u15, u16, u17, u18, u19, u20, u21, u22, u23, u24, u25, u26, u27, u28, u29, u30, u31, u32, u33, u34, u35, u36, u37, u38, u39, u40, u41, u42, u43, u44, u45, u46, u47, u48, u49, u50, u51, u52, u53, u54, u55, u56, u57, u58, u59, u60, u61, u62, u63, u64, u65, x, y, k, rfl, rfl⟩
    go_wp2
    simp only [Exit.jump]
    refine bodyPost_ret (v := .tuple #[refV false 0, .string ByteArray.empty, .bool false]) (by unfold refV; simp [results, Try.results20, go_sem]; try rfl) rfl ⟨by rw [HR.out]; rfl, ?_⟩
    exact ((parse_below w x y k).setCell (p := ⟨w.heap.size, 0, none⟩) (Nat.le_refl _) _).setCell (p := ⟨w.heap.size, 1, none⟩) (Nat.le_refl _) _

end Go.Proofs.Ytbmjiheclagfiaa
