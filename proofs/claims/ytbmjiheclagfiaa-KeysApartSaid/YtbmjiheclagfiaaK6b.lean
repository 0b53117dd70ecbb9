/-
  The walk of the reference's Parse, part 2.
-/
import Derived.Test.YtbmjiheclagfiaaK5
namespace Go.Proofs.Ytbmjiheclagfiaa
open Go.RowKit
set_option linter.unusedVariables false

set_option maxRecDepth 100000 in
set_option maxHeartbeats 4000000 in
theorem rparse_prop_ok0 (b off c : Nat) (l : List Nat) (w : World) (hv : Hid (RB w w.heap.size (.slice (some ⟨b, off, none⟩) l.length c) l)) (hb : b < w.heap.size) (h7 : Hid (6 < l.length)) (hc : w.cell? ⟨b, off, none⟩ = some (.int .u8 3)) (hc1 : w.cell? ⟨b, off + 1, none⟩ = some (.int .u8 0)) (h5i : ((l.length : Int) == 5) = false) (h7i : decide ((6 : Int) < l.length) = true) (h7n : decide (6 < l.length) = true) (h0 : 0 < l.length) (h0i : (0 : Int) < l.length) (h1i : (1 : Int) < l.length) (h6i : (6 : Int) ≤ l.length) (h5c : (l.length : Int) ≤ c) (hcap : ¬ (c = 6)) (n : Nat) (hn : Hid (val4 l 2 = n)) (s : ByteArray) (hs : s.size ≤ 9223372036854775807) (hcv : ∀ o1, (convert 22 9 (.slice (some ⟨b, off + 6, none⟩) (l.length - 6) (c - 6))).run Try.prog (w.alloc o1) = .ok (.string s) (w.alloc o1)) (hid1 : decide ((1 : Int) ≤ n) = true) (hid2 : decide ((n : Int) ≤ 2147483647) = true) (hid3 : decide (1 ≤ n) = true) (hid4 : decide (n ≤ 2147483647) = true) (hnm : Hid (nameB s = true)) (HR : Hid (parseL l = some (false, n, s))) : Calls Try.prog 21 #[.slice (some ⟨b, off, none⟩) l.length c] w (ParseQ w (parseL l)) := by
  go_enter Try.func21, Try.ntmps21
  go_wp2_with fail
  refine (value4_any _ l 2 _ w.heap.size (by exact hv.out.alloc (Nat.le_refl _) _) (by have := h7.out; omega)).mono ?_
  rw [hn.out]
  rintro e w1 ⟨rfl, rfl⟩
  go_wp2_with fail
  refine (rname_any s _ hs).mono ?_
  rw [hnm.out]
  rintro e w1 ⟨rfl, rfl⟩
  go_wp2
  refine bodyPost_ret (v := .tuple #[refV false n, .string s, .bool true]) (by unfold refV; simp [results, Try.results21, go_sem]; try rfl) rfl ⟨by rw [HR.out]; rfl, ?_⟩
  go_grown

set_option maxRecDepth 100000 in
set_option maxHeartbeats 4000000 in
theorem rparse_prop_badname0 (b off c : Nat) (l : List Nat) (w : World) (hv : Hid (RB w w.heap.size (.slice (some ⟨b, off, none⟩) l.length c) l)) (hb : b < w.heap.size) (h7 : Hid (6 < l.length)) (hc : w.cell? ⟨b, off, none⟩ = some (.int .u8 3)) (hc1 : w.cell? ⟨b, off + 1, none⟩ = some (.int .u8 0)) (h5i : ((l.length : Int) == 5) = false) (h7i : decide ((6 : Int) < l.length) = true) (h7n : decide (6 < l.length) = true) (h0 : 0 < l.length) (h0i : (0 : Int) < l.length) (h1i : (1 : Int) < l.length) (h6i : (6 : Int) ≤ l.length) (h5c : (l.length : Int) ≤ c) (hcap : ¬ (c = 6)) (n : Nat) (hn : Hid (val4 l 2 = n)) (s : ByteArray) (hs : s.size ≤ 9223372036854775807) (hcv : ∀ o1, (convert 22 9 (.slice (some ⟨b, off + 6, none⟩) (l.length - 6) (c - 6))).run Try.prog (w.alloc o1) = .ok (.string s) (w.alloc o1)) (hid1 : decide ((1 : Int) ≤ n) = true) (hid2 : decide ((n : Int) ≤ 2147483647) = true) (hid3 : decide (1 ≤ n) = true) (hid4 : decide (n ≤ 2147483647) = true) (hnm : Hid (nameB s = false)) (HR : Hid (parseL l = none)) : Calls Try.prog 21 #[.slice (some ⟨b, off, none⟩) l.length c] w (ParseQ w (parseL l)) := by
  go_enter Try.func21, Try.ntmps21
  go_wp2_with fail
  refine (value4_any _ l 2 _ w.heap.size (by exact hv.out.alloc (Nat.le_refl _) _) (by have := h7.out; omega)).mono ?_
  rw [hn.out]
  rintro e w1 ⟨rfl, rfl⟩
  go_wp2_with fail
  refine (rname_any s _ hs).mono ?_
  rw [hnm.out]
  rintro e w1 ⟨rfl, rfl⟩
  go_wp2
  refine bodyPost_ret (v := .tuple #[refV false 0, .string ByteArray.empty, .bool false]) (by unfold refV; simp [results, Try.results21, go_sem]; try rfl) rfl ⟨by rw [HR.out]; rfl, ?_⟩
  go_grown

set_option maxRecDepth 100000 in
set_option maxHeartbeats 4000000 in
theorem rparse_prop_lo0 (b off c : Nat) (l : List Nat) (w : World) (hv : Hid (RB w w.heap.size (.slice (some ⟨b, off, none⟩) l.length c) l)) (hb : b < w.heap.size) (h7 : Hid (6 < l.length)) (hc : w.cell? ⟨b, off, none⟩ = some (.int .u8 3)) (hc1 : w.cell? ⟨b, off + 1, none⟩ = some (.int .u8 0)) (h5i : ((l.length : Int) == 5) = false) (h7i : decide ((6 : Int) < l.length) = true) (h7n : decide (6 < l.length) = true) (h0 : 0 < l.length) (h0i : (0 : Int) < l.length) (h1i : (1 : Int) < l.length) (h6i : (6 : Int) ≤ l.length) (h5c : (l.length : Int) ≤ c) (hcap : ¬ (c = 6)) (n : Nat) (hn : Hid (val4 l 2 = n)) (s : ByteArray) (hs : s.size ≤ 9223372036854775807) (hcv : ∀ o1, (convert 22 9 (.slice (some ⟨b, off + 6, none⟩) (l.length - 6) (c - 6))).run Try.prog (w.alloc o1) = .ok (.string s) (w.alloc o1)) (hid1 : decide ((1 : Int) ≤ n) = false) (hid3 : decide (1 ≤ n) = false) (HR : Hid (parseL l = none)) : Calls Try.prog 21 #[.slice (some ⟨b, off, none⟩) l.length c] w (ParseQ w (parseL l)) := by
  go_enter Try.func21, Try.ntmps21
  go_wp2_with fail
  refine (value4_any _ l 2 _ w.heap.size (by exact hv.out.alloc (Nat.le_refl _) _) (by have := h7.out; omega)).mono ?_
  rw [hn.out]
  rintro e w1 ⟨rfl, rfl⟩
  go_wp2
  refine bodyPost_ret (v := .tuple #[refV false 0, .string ByteArray.empty, .bool false]) (by unfold refV; simp [results, Try.results21, go_sem]; try rfl) rfl ⟨by rw [HR.out]; rfl, ?_⟩
  go_grown

set_option maxRecDepth 100000 in
set_option maxHeartbeats 4000000 in
theorem rparse_prop_hi0 (b off c : Nat) (l : List Nat) (w : World) (hv : Hid (RB w w.heap.size (.slice (some ⟨b, off, none⟩) l.length c) l)) (hb : b < w.heap.size) (h7 : Hid (6 < l.length)) (hc : w.cell? ⟨b, off, none⟩ = some (.int .u8 3)) (hc1 : w.cell? ⟨b, off + 1, none⟩ = some (.int .u8 0)) (h5i : ((l.length : Int) == 5) = false) (h7i : decide ((6 : Int) < l.length) = true) (h7n : decide (6 < l.length) = true) (h0 : 0 < l.length) (h0i : (0 : Int) < l.length) (h1i : (1 : Int) < l.length) (h6i : (6 : Int) ≤ l.length) (h5c : (l.length : Int) ≤ c) (hcap : ¬ (c = 6)) (n : Nat) (hn : Hid (val4 l 2 = n)) (s : ByteArray) (hs : s.size ≤ 9223372036854775807) (hcv : ∀ o1, (convert 22 9 (.slice (some ⟨b, off + 6, none⟩) (l.length - 6) (c - 6))).run Try.prog (w.alloc o1) = .ok (.string s) (w.alloc o1)) (hid1 : decide ((1 : Int) ≤ n) = true) (hid2 : decide ((n : Int) ≤ 2147483647) = false) (hid3 : decide (1 ≤ n) = true) (hid4 : decide (n ≤ 2147483647) = false) (HR : Hid (parseL l = none)) : Calls Try.prog 21 #[.slice (some ⟨b, off, none⟩) l.length c] w (ParseQ w (parseL l)) := by
  go_enter Try.func21, Try.ntmps21
  go_wp2_with fail
  refine (value4_any _ l 2 _ w.heap.size (by exact hv.out.alloc (Nat.le_refl _) _) (by have := h7.out; omega)).mono ?_
  rw [hn.out]
  rintro e w1 ⟨rfl, rfl⟩
  go_wp2
  refine bodyPost_ret (v := .tuple #[refV false 0, .string ByteArray.empty, .bool false]) (by unfold refV; simp [results, Try.results21, go_sem]; try rfl) rfl ⟨by rw [HR.out]; rfl, ?_⟩
  go_grown
end Go.Proofs.Ytbmjiheclagfiaa
