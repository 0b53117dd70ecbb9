/-
  The walks of mix and seed.
-/
import Derived.Test.YtlakcldgolpaiaaEP19
namespace Go.Proofs.Ytlakcldgolpaiaa
open Go.RowKit
set_option linter.unusedVariables false

theorem xor_nat (x y : Int) : ∃ k : Nat, bits BinOp.xor IntKind.u64 x y = (k : Int) := by
  refine ⟨(bits BinOp.xor IntKind.u64 x y).toNat, (Int.toNat_of_nonneg ?_).symm⟩
  unfold bits
  simp only [IntKind.wrap_u64]
  omega

set_option maxRecDepth 100000 in
set_option maxHeartbeats 2000000 in
theorem mix_any (s a : Int) (w : World) :
    Calls Try.prog 97 #[.int .i64 s, .int .i64 a] w fun e w' => (∃ x : Nat, e = .returned (.int .u64 (x : Int))) ∧ w' = w := by
  go_enter Try.func97, Try.ntmps97
  go_wp2_with fail
  refine bodyPost_ret (results_tmp rfl _ _ _) rfl ?_
  obtain ⟨k, hk⟩ := xor_nat _ _
  exact ⟨⟨k, congrArg (fun z => Ending.returned (Value.int IntKind.u64 z)) hk⟩, rfl⟩

set_option maxRecDepth 100000 in
set_option maxHeartbeats 2000000 in
theorem seed_any (w : World) (g : Nat) (S : Nat → Prop) (M : RM SV) (h : Rp w g S M) (a : Nat) (h1 : 1 ≤ a) (ha : a ≤ 65536) :
    Calls Try.prog 98 #[.pointer (some ⟨g, 0, none⟩), .int .i64 (a : Int)] w fun e w' => (∃ x : Int, e = .returned (.int .i64 x)) ∧ ∃ q, w' = w.drewN q := by
  obtain ⟨B, sv, nb, cap, N, ss, hX, hSS⟩ := h
  by_cases hs : ss = []
  · obtain ⟨A, c, rfl⟩ : ∃ A c, sv = .slice A 0 c := by
      rcases hX.seeds with h | h
      · exact h.2
      · obtain ⟨A, c, e, -⟩ := (h.rk encI_len (Nat.le_refl _)).open_
        rw [hs] at e
        exact ⟨A, c, e⟩
    have b0 : w.cell? ⟨g, 0, none⟩ = _ := hX.mem.blk.cell 0
    clear hX hSS
    go_enter Try.func98, Try.ntmps98
    go_wp2_with fail
    go_ret
    exact ⟨⟨_, rfl⟩, 0, rfl⟩
  · rcases hX.seeds with h | h
    · exact absurd h.1 hs
    · obtain ⟨A, c, rfl, -, -, -, HC⟩ := (h.rk encI_len (Nat.le_refl _)).open_
      have hl := List.length_pos_iff.2 hs
      have hsm := hX.small
      obtain ⟨k, hk⟩ : ∃ k, k = ss.length := ⟨_, rfl⟩
      have hm : (a - 1) % k < k := Nat.mod_lt _ (by omega)
      obtain ⟨b, off, rfl, hb, hx⟩ := HC.out ((a - 1) % k) (by omega)
      have hcell := cellI hx
      obtain ⟨y, hy⟩ : ∃ y, y = ss[(a - 1) % k]'(by omega) := ⟨_, rfl⟩
      rw [← hy] at hcell
      have b0 : w.cell? ⟨g, 0, none⟩ = _ := hX.mem.blk.cell 0
      rw [← hk] at b0 hl hsm
      change _ = some (Value.slice (some ⟨b, off, none⟩) k c) at b0
      obtain ⟨m, hm0⟩ : ∃ m, m = (a - 1) % k := ⟨_, rfl⟩
      rw [← hm0] at hcell hm
      have hw1 : IntKind.i64.wrap ((a : Int) - 1) = ((a - 1 : Nat) : Int) := by rw [IntKind.wrap_i64]; omega
      have hk0 : ((k : Int) == 0) = false := by simp; omega
      have hrem : ((a - 1 : Nat) : Int).tmod (k : Int) = (m : Int) := by
        rw [Int.tmod_eq_emod_of_nonneg (by omega), hm0]; rfl
      have hw2 : IntKind.i64.wrap (m : Int) = (m : Int) := by rw [IntKind.wrap_i64]; omega
      have hmk : (m : Int) < (k : Int) := by omega
      clear hX hSS h HC hx hy hk hm0
      go_enter Try.func98, Try.ntmps98
      go_wp2_with fail
      go_region
      go_wp2_with fail
      go_ret
      exact ⟨⟨_, rfl⟩, 1, rfl⟩

end Go.Proofs.Ytlakcldgolpaiaa
