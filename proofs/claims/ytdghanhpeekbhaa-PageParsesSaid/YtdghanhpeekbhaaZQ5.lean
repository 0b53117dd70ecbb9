/-
  The walk of skeinref08's value.
-/
import Derived.Test.YtdghanhpeekbhaaZQ3
namespace Go.Proofs.Ytdghanhpeekbhaa
open Go.RowKit Go.Maps
set_option linter.unusedVariables false

theorem leV_cons8 (x : Nat) (r : List Nat) : leV (x :: r) = x + 256 * leV r := by simp [leV]
set_option maxHeartbeats 1000000 in
theorem refValue_any (w : World) (v : Value) (l : List Nat) (hv : RB w w.heap.size v l) (a n : Nat) (hl : a + n ≤ l.length) (hn : n ≤ 8) :
    Calls Try.prog 32 #[v, .int .i64 (a : Int), .int .i64 (n : Int)] w fun e w' => e = .returned (.int .u64 (leV ((l.drop a).take n) : Nat)) ∧ w' = w := by
  have HV := Lib.hid hv
  obtain ⟨m, hm⟩ : ∃ m, m = l.length := ⟨_, rfl⟩
  have hm2 : m ≤ 140737488355328 := by rw [hm]; exact hv.2.1
  obtain ⟨A, c, rfl, hc1, hc2, -, HC⟩ := hv.open_
  rw [← hm] at HV hc1 hl ⊢
  have HM := Lib.hid hm
  have hcell : Hid (∀ j : Nat, j < m → ∃ g off, A = some ⟨g, off, none⟩ ∧ w.cell? ⟨g, off + j, none⟩ = some (.int .u8 ((l.getD j 0 : Nat) : Int)) ∧ l.getD j 0 < 256) := Lib.hid (fun j hj => by
    obtain ⟨g', off', e', _, h1, h2⟩ := HC.out j (by rw [← HM.out]; exact hj)
    have hd : l.getD j 0 = l[j]'(by rw [← HM.out]; exact hj) := by simp [List.getD, ← HM.out, hj]
    rw [hd]
    exact ⟨g', off', e', h1, h2⟩)
  clear hv hm HC
  have hw1 : IntKind.i64.wrap ((a : Int) + (n : Int)) = (a : Int) + (n : Int) := by rw [IntKind.wrap_i64]; omega
  have hw2 : IntKind.i64.wrap ((a : Int) + (n : Int) - 1) = (a : Int) + (n : Int) - 1 := by rw [IntKind.wrap_i64]; omega
  go_enter Try.func32, Try.ntmps32
  go_wp2_with fail
  go_loopw [7, 8] (fun u i wr => ∃ (k un : Nat), k ≤ n ∧ i = .int .i64 ((a : Int) + (n : Int) - 1 - (k : Int)) ∧ u = .int .u64 (un : Int) ∧ Hid (un = leV ((l.drop (a + n - k)).take k)) ∧ Hid (un < 256 ^ k) ∧ wr = w) (fun u i wr => ((intOf i) + 1 - (a : Int)).toNat)
  case atStart => exact ⟨0, 0, by omega, by simp, rfl, Lib.hid (by simp [leV]), Lib.hid (by simp), rfl⟩
  case round =>
    obtain ⟨k, un, hk, rfl, rfl, HU, HUB, rfl⟩ := hrel
    by_cases hk0 : k < n
    · obtain ⟨j, hj⟩ : ∃ j : Nat, j = a + n - 1 - k := ⟨_, rfl⟩
      have hjm : j < m := by omega
      obtain ⟨g, off, rfl, z, hz⟩ := hcell.out j hjm
      obtain ⟨x, hx⟩ : ∃ x, x = l.getD j 0 := ⟨_, rfl⟩
      rw [← hx] at z hz
      have hji : (a : Int) + (n : Int) - 1 - (k : Int) = (j : Int) := by omega
      have hub : un < 72057594037927936 := by
        have h1 := HUB.out
        have h2 : 256 ^ k ≤ 256 ^ 7 := Nat.pow_le_pow_right (by omega) (by omega)
        have h3 : (256 : Nat) ^ 7 = 72057594037927936 := by decide
        omega
      have haj : (a : Int) ≤ (j : Int) := by omega
      have hjmi : (j : Int) < (m : Int) := by omega
      have hw3 : IntKind.u64.wrap ((un : Int) * 256) = (un : Int) * 256 := by rw [IntKind.wrap_u64]; omega
      have hw4 : IntKind.u64.wrap ((un : Int) * 256 + (x : Int)) = (un : Int) * 256 + (x : Int) := by rw [IntKind.wrap_u64]; omega
      have hw5 : IntKind.u64.wrap (x : Int) = (x : Int) := by rw [IntKind.wrap_u64]; omega
      have hw6 : IntKind.i64.wrap ((j : Int) - 1) = (j : Int) - 1 := by rw [IntKind.wrap_i64]; omega
      have HX := Lib.hid hx
      rw [hji]
      have HJ := Lib.hid hj
      have hju : ((j : Int) - (1 : Int)) = (a : Int) + (n : Int) - 1 - ((k + 1 : Nat) : Int) := by omega
      have HJU := Lib.hid hju
      clear hx hj hji hju
      go_wp2_with fail
      go_roundw
      case rel =>
        have hj := HJ.out
        have hjl : j < l.length := by rw [← HM.out]; exact hjm
        have hd : (l.drop (a + n - (k + 1))).take (k + 1) = x :: (l.drop (a + n - k)).take k := by
          rw [show a + n - (k + 1) = j by omega, show a + n - k = j + 1 by omega, List.drop_eq_getElem_cons hjl, List.take_succ_cons]
          congr 1
          rw [HX.out]
          simp [List.getD, hjl]
        refine ⟨k + 1, un * 256 + x, by omega, by first | rfl | (rw [← HJU.out]) | (congr 1; omega), by first | rfl | simp, Lib.hid ?_, Lib.hid ?_, by first | rfl | trivial⟩
        · rw [hd, leV_cons8, ← HU.out]; omega
        · have h1 := HUB.out
          rw [Nat.pow_succ]
          omega
      case measure => have hj := HJ.out; simp [intOf] <;> omega
    · obtain rfl : k = n := by omega
      have e1 : un = leV ((l.drop a).take k) := by
        have := HU.out
        rw [show a + k - k = a by omega] at this
        exact this
      have hno : ¬ (a : Int) ≤ (a : Int) + (k : Int) - 1 - (k : Int) := by omega
      have E1 := Lib.hid e1
      clear e1
      go_wp2_with fail
      go_ret
      rw [E1.out]
      exact ⟨rfl, rfl⟩
end Go.Proofs.Ytdghanhpeekbhaa
