/-
  The walk of the reference's Parse, part 1.
-/
import Derived.Test.YtbmjiheclagfiaaK5
namespace Go.Proofs.Ytbmjiheclagfiaa
open Go.RowKit
set_option linter.unusedVariables false

set_option maxRecDepth 100000 in
set_option maxHeartbeats 4000000 in
theorem rparse_elem_ok1 (b off c : Nat) (l : List Nat) (w : World) (hv : Hid (RB w w.heap.size (.slice (some ⟨b, off, none⟩) l.length c) l)) (hb : b < w.heap.size) (h5 : Hid (l.length = 5)) (hc : w.cell? ⟨b, off, none⟩ = some (.int .u8 1)) (h5i : ((l.length : Int) == 5) = true) (h0 : 0 < l.length) (h0i : (0 : Int) < l.length) (h5c : (l.length : Int) ≤ c) (n : Nat) (hn : Hid (val4 l 1 = n)) (hid1 : decide ((1 : Int) ≤ n) = true) (hid2 : decide ((n : Int) ≤ 2147483647) = true) (hid3 : decide (1 ≤ n) = true) (hid4 : decide (n ≤ 2147483647) = true) (HR : Hid (parseL l = some (false, n, ByteArray.empty))) : Calls Try.prog 21 #[.slice (some ⟨b, off, none⟩) l.length c] w (ParseQ w (parseL l)) := by
  go_enter Try.func21, Try.ntmps21
  go_wp2_with fail
  refine (value4_any _ l 1 _ w.heap.size (by exact hv.out.alloc (Nat.le_refl _) _) (by have := h5.out; omega)).mono ?_
  rw [hn.out]
  rintro e w1 ⟨rfl, rfl⟩
  go_wp2
  refine bodyPost_ret (v := .tuple #[refV false n, .string ByteArray.empty, .bool true]) (by unfold refV; simp [results, Try.results21, go_sem]; try rfl) rfl ⟨by rw [HR.out]; rfl, ?_⟩
  go_grown

set_option maxRecDepth 100000 in
set_option maxHeartbeats 4000000 in
theorem rparse_elem_lo1 (b off c : Nat) (l : List Nat) (w : World) (hv : Hid (RB w w.heap.size (.slice (some ⟨b, off, none⟩) l.length c) l)) (hb : b < w.heap.size) (h5 : Hid (l.length = 5)) (hc : w.cell? ⟨b, off, none⟩ = some (.int .u8 1)) (h5i : ((l.length : Int) == 5) = true) (h0 : 0 < l.length) (h0i : (0 : Int) < l.length) (h5c : (l.length : Int) ≤ c) (n : Nat) (hn : Hid (val4 l 1 = n)) (hid1 : decide ((1 : Int) ≤ n) = false) (hid3 : decide (1 ≤ n) = false) (HR : Hid (parseL l = none)) : Calls Try.prog 21 #[.slice (some ⟨b, off, none⟩) l.length c] w (ParseQ w (parseL l)) := by
  go_enter Try.func21, Try.ntmps21
  go_wp2_with fail
  refine (value4_any _ l 1 _ w.heap.size (by exact hv.out.alloc (Nat.le_refl _) _) (by have := h5.out; omega)).mono ?_
  rw [hn.out]
  rintro e w1 ⟨rfl, rfl⟩
  go_wp2
  refine bodyPost_ret (v := .tuple #[refV false 0, .string ByteArray.empty, .bool false]) (by unfold refV; simp [results, Try.results21, go_sem]; try rfl) rfl ⟨by rw [HR.out]; rfl, ?_⟩
  go_grown

set_option maxRecDepth 100000 in
set_option maxHeartbeats 4000000 in
theorem rparse_elem_hi1 (b off c : Nat) (l : List Nat) (w : World) (hv : Hid (RB w w.heap.size (.slice (some ⟨b, off, none⟩) l.length c) l)) (hb : b < w.heap.size) (h5 : Hid (l.length = 5)) (hc : w.cell? ⟨b, off, none⟩ = some (.int .u8 1)) (h5i : ((l.length : Int) == 5) = true) (h0 : 0 < l.length) (h0i : (0 : Int) < l.length) (h5c : (l.length : Int) ≤ c) (n : Nat) (hn : Hid (val4 l 1 = n)) (hid1 : decide ((1 : Int) ≤ n) = true) (hid2 : decide ((n : Int) ≤ 2147483647) = false) (hid3 : decide (1 ≤ n) = true) (hid4 : decide (n ≤ 2147483647) = false) (HR : Hid (parseL l = none)) : Calls Try.prog 21 #[.slice (some ⟨b, off, none⟩) l.length c] w (ParseQ w (parseL l)) := by
  go_enter Try.func21, Try.ntmps21
  go_wp2_with fail
  refine (value4_any _ l 1 _ w.heap.size (by exact hv.out.alloc (Nat.le_refl _) _) (by have := h5.out; omega)).mono ?_
  rw [hn.out]
  rintro e w1 ⟨rfl, rfl⟩
  go_wp2
  refine bodyPost_ret (v := .tuple #[refV false 0, .string ByteArray.empty, .bool false]) (by unfold refV; simp [results, Try.results21, go_sem]; try rfl) rfl ⟨by rw [HR.out]; rfl, ?_⟩
  go_grown

set_option maxRecDepth 100000 in
set_option maxHeartbeats 4000000 in
theorem rparse_elem_ok2 (b off c : Nat) (l : List Nat) (w : World) (hv : Hid (RB w w.heap.size (.slice (some ⟨b, off, none⟩) l.length c) l)) (hb : b < w.heap.size) (h5 : Hid (l.length = 5)) (hc : w.cell? ⟨b, off, none⟩ = some (.int .u8 2)) (h5i : ((l.length : Int) == 5) = true) (h0 : 0 < l.length) (h0i : (0 : Int) < l.length) (h5c : (l.length : Int) ≤ c) (n : Nat) (hn : Hid (val4 l 1 = n)) (hid1 : decide ((1 : Int) ≤ n) = true) (hid2 : decide ((n : Int) ≤ 2147483647) = true) (hid3 : decide (1 ≤ n) = true) (hid4 : decide (n ≤ 2147483647) = true) (HR : Hid (parseL l = some (true, n, ByteArray.empty))) : Calls Try.prog 21 #[.slice (some ⟨b, off, none⟩) l.length c] w (ParseQ w (parseL l)) := by
  go_enter Try.func21, Try.ntmps21
  go_wp2_with fail
  refine (value4_any _ l 1 _ w.heap.size (by exact hv.out.alloc (Nat.le_refl _) _) (by have := h5.out; omega)).mono ?_
  rw [hn.out]
  rintro e w1 ⟨rfl, rfl⟩
  go_wp2
  refine bodyPost_ret (v := .tuple #[refV true n, .string ByteArray.empty, .bool true]) (by unfold refV; simp [results, Try.results21, go_sem]; try rfl) rfl ⟨by rw [HR.out]; rfl, ?_⟩
  go_grown

set_option maxRecDepth 100000 in
set_option maxHeartbeats 4000000 in
theorem rparse_elem_lo2 (b off c : Nat) (l : List Nat) (w : World) (hv : Hid (RB w w.heap.size (.slice (some ⟨b, off, none⟩) l.length c) l)) (hb : b < w.heap.size) (h5 : Hid (l.length = 5)) (hc : w.cell? ⟨b, off, none⟩ = some (.int .u8 2)) (h5i : ((l.length : Int) == 5) = true) (h0 : 0 < l.length) (h0i : (0 : Int) < l.length) (h5c : (l.length : Int) ≤ c) (n : Nat) (hn : Hid (val4 l 1 = n)) (hid1 : decide ((1 : Int) ≤ n) = false) (hid3 : decide (1 ≤ n) = false) (HR : Hid (parseL l = none)) : Calls Try.prog 21 #[.slice (some ⟨b, off, none⟩) l.length c] w (ParseQ w (parseL l)) := by
  go_enter Try.func21, Try.ntmps21
  go_wp2_with fail
  refine (value4_any _ l 1 _ w.heap.size (by exact hv.out.alloc (Nat.le_refl _) _) (by have := h5.out; omega)).mono ?_
  rw [hn.out]
  rintro e w1 ⟨rfl, rfl⟩
  go_wp2
  refine bodyPost_ret (v := .tuple #[refV false 0, .string ByteArray.empty, .bool false]) (by unfold refV; simp [results, Try.results21, go_sem]; try rfl) rfl ⟨by rw [HR.out]; rfl, ?_⟩
  go_grown

set_option maxRecDepth 100000 in
set_option maxHeartbeats 4000000 in
theorem rparse_elem_hi2 (b off c : Nat) (l : List Nat) (w : World) (hv : Hid (RB w w.heap.size (.slice (some ⟨b, off, none⟩) l.length c) l)) (hb : b < w.heap.size) (h5 : Hid (l.length = 5)) (hc : w.cell? ⟨b, off, none⟩ = some (.int .u8 2)) (h5i : ((l.length : Int) == 5) = true) (h0 : 0 < l.length) (h0i : (0 : Int) < l.length) (h5c : (l.length : Int) ≤ c) (n : Nat) (hn : Hid (val4 l 1 = n)) (hid1 : decide ((1 : Int) ≤ n) = true) (hid2 : decide ((n : Int) ≤ 2147483647) = false) (hid3 : decide (1 ≤ n) = true) (hid4 : decide (n ≤ 2147483647) = false) (HR : Hid (parseL l = none)) : Calls Try.prog 21 #[.slice (some ⟨b, off, none⟩) l.length c] w (ParseQ w (parseL l)) := by
  go_enter Try.func21, Try.ntmps21
  go_wp2_with fail
  refine (value4_any _ l 1 _ w.heap.size (by exact hv.out.alloc (Nat.le_refl _) _) (by have := h5.out; omega)).mono ?_
  rw [hn.out]
  rintro e w1 ⟨rfl, rfl⟩
  go_wp2
  refine bodyPost_ret (v := .tuple #[refV false 0, .string ByteArray.empty, .bool false]) (by unfold refV; simp [results, Try.results21, go_sem]; try rfl) rfl ⟨by rw [HR.out]; rfl, ?_⟩
  go_grown

set_option maxRecDepth 100000 in
set_option maxHeartbeats 4000000 in
theorem rparse_not_short (A : Option Addr) (c : Nat) (l : List Nat) (w : World) (h5i : ((l.length : Int) == 5) = false) (h7i : decide ((6 : Int) < l.length) = false) (h7n : decide (6 < l.length) = false) (HR : Hid (parseL l = none)) : Calls Try.prog 21 #[.slice A l.length c] w (ParseQ w (parseL l)) := by
  go_enter Try.func21, Try.ntmps21
  go_wp2
  refine bodyPost_ret (v := .tuple #[refV false 0, .string ByteArray.empty, .bool false]) (by unfold refV; simp [results, Try.results21, go_sem]; try rfl) rfl ⟨by rw [HR.out]; rfl, ?_⟩
  go_grown

set_option maxRecDepth 100000 in
set_option maxHeartbeats 4000000 in
theorem rparse_not_five (A : Option Addr) (c : Nat) (l : List Nat) (w : World) (h5i : ((l.length : Int) == 5) = true) (h7i : decide ((6 : Int) < l.length) = false) (h7n : decide (6 < l.length) = false) (b off : Nat) (hA : A = some ⟨b, off, none⟩) (hb : b < w.heap.size) (x : Nat) (hc : w.cell? ⟨b, off, none⟩ = some (.int .u8 (x : Int))) (h0 : 0 < l.length) (h0i : (0 : Int) < l.length) (x1 : ((x : Int) == 1) = false) (x2 : ((x : Int) == 2) = false) (HR : Hid (parseL l = none)) : Calls Try.prog 21 #[.slice A l.length c] w (ParseQ w (parseL l)) := by
  subst hA
  go_enter Try.func21, Try.ntmps21
  go_wp2
  refine bodyPost_ret (v := .tuple #[refV false 0, .string ByteArray.empty, .bool false]) (by unfold refV; simp [results, Try.results21, go_sem]; try rfl) rfl ⟨by rw [HR.out]; rfl, ?_⟩
  go_grown

set_option maxRecDepth 100000 in
set_option maxHeartbeats 4000000 in
theorem rparse_not_head (A : Option Addr) (c : Nat) (l : List Nat) (w : World) (h5i : ((l.length : Int) == 5) = false) (h7i : decide ((6 : Int) < l.length) = true) (h7n : decide (6 < l.length) = true) (b off : Nat) (hA : A = some ⟨b, off, none⟩) (hb : b < w.heap.size) (x : Nat) (hc : w.cell? ⟨b, off, none⟩ = some (.int .u8 (x : Int))) (h0 : 0 < l.length) (h0i : (0 : Int) < l.length) (x3 : ((x : Int) == 3) = false) (HR : Hid (parseL l = none)) : Calls Try.prog 21 #[.slice A l.length c] w (ParseQ w (parseL l)) := by
  subst hA
  go_enter Try.func21, Try.ntmps21
  go_wp2
  refine bodyPost_ret (v := .tuple #[refV false 0, .string ByteArray.empty, .bool false]) (by unfold refV; simp [results, Try.results21, go_sem]; try rfl) rfl ⟨by rw [HR.out]; rfl, ?_⟩
  go_grown

set_option maxRecDepth 100000 in
set_option maxHeartbeats 4000000 in
theorem rparse_not_class (A : Option Addr) (c : Nat) (l : List Nat) (w : World) (h5i : ((l.length : Int) == 5) = false) (h7i : decide ((6 : Int) < l.length) = true) (h7n : decide (6 < l.length) = true) (b off : Nat) (hA : A = some ⟨b, off, none⟩) (hb : b < w.heap.size) (x : Nat) (hc : w.cell? ⟨b, off, none⟩ = some (.int .u8 (x : Int))) (h0 : 0 < l.length) (h0i : (0 : Int) < l.length) (x3 : ((x : Int) == 3) = true) (y : Nat) (hc1 : w.cell? ⟨b, off + 1, none⟩ = some (.int .u8 (y : Int))) (h1i : (1 : Int) < l.length) (y1 : decide ((y : Int) ≤ 1) = false) (y1n : decide (y ≤ 1) = false) (HR : Hid (parseL l = none)) : Calls Try.prog 21 #[.slice A l.length c] w (ParseQ w (parseL l)) := by
  subst hA
  go_enter Try.func21, Try.ntmps21
  go_wp2
  refine bodyPost_ret (v := .tuple #[refV false 0, .string ByteArray.empty, .bool false]) (by unfold refV; simp [results, Try.results21, go_sem]; try rfl) rfl ⟨by rw [HR.out]; rfl, ?_⟩
  go_grown
end Go.Proofs.Ytbmjiheclagfiaa
