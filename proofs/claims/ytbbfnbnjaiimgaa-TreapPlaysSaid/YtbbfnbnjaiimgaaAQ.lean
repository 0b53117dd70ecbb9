/-
  skeinref01's SameInts at equal rows (the law of MV16, for any seat).
-/
import Derived.Test.YtbbfnbnjaiimgaaAP
import Derived.Deep.QuietTactic
import Derived.BigQuiet
namespace Go.Proofs.Ytbbfnbnjaiimgaa
open Go.RowKit
set_option linter.unusedVariables false

set_option maxRecDepth 100000 in
set_option maxHeartbeats 2000000 in
theorem SameInts_yes (v v2 : Value) (V : List Int) (w : World) (B B2 : Nat) (hv : RI w B v V) (hv2 : RI w B2 v2 V) :
    Calls Try.prog 21 #[v, v2] w fun e w' => e = .returned (.bool true) ∧ ∃ q, w' = w.drewN q := by
  obtain ⟨A, c, rfl, hc1, hc2, hc3, HC⟩ := hv.open_
  obtain ⟨A2, c2, rfl, hd1, hd2, hd3, HD⟩ := hv2.open_
  clear hv hv2
  obtain ⟨n, hn⟩ : ∃ n, n = V.length := ⟨_, rfl⟩
  rw [← hn] at hc1 hc3 hd1 hd3 ⊢
  have HN := Lib.hid hn
  clear hn
  go_enter Try.func21, Try.ntmps21
  go_wp2
  go_loopw [5] (fun i wr => ∃ (k q : Nat), k ≤ n ∧ i = .int .i64 k ∧ wr = w.drewN q) (fun i wr => n - (intOf i).toNat)
  case atStart => exact ⟨0, 0, Nat.zero_le _, rfl, rfl⟩
  case round =>
    obtain ⟨k, q, hk, rfl, rfl⟩ := hrel
    by_cases hlt : k < n
    · obtain ⟨b, o, rfl, hb, hx⟩ := HC.out k (by have := HN.out; omega)
      obtain ⟨b2, o2, rfl, hb2, hx2⟩ := HD.out k (by have := HN.out; omega)
      obtain ⟨y, hy⟩ : ∃ y, y = V[k]'(by have := HN.out; omega) := ⟨_, rfl⟩
      rw [← hy] at hx hx2
      have hx := cellI hx
      have hx2 := cellI hx2
      have hx : (w.drewN q).cell? ⟨b, o + k, none⟩ = some (.int .i64 y) := hx
      have hx2 : (w.drewN q).cell? ⟨b2, o2 + k, none⟩ = some (.int .i64 y) := hx2
      clear hy
      obtain ⟨wr, hwr⟩ : ∃ wr, wr = w.drewN q := ⟨_, rfl⟩
      rw [← hwr] at hx hx2 ⊢
      have HWr := Lib.hid hwr
      clear hwr
      go_wp2_with fail
      go_quiet (fail)
      go_wp2_with fail
      go_roundw
      case rel => exact ⟨k + 1, _, by omega, by go_num, by rw [HWr.out, World.drewN_drewN]⟩
      case measure => simp [intOf]; omega
    · obtain rfl : k = n := by omega
      go_wp2
      go_ret
      exact ⟨rfl, q, rfl⟩

end Go.Proofs.Ytbbfnbnjaiimgaa
