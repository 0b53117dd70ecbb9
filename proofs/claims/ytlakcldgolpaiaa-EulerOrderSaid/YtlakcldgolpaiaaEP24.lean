/-
  The walk of New.
-/
import Derived.Test.YtlakcldgolpaiaaEP23
namespace Go.Proofs.Ytlakcldgolpaiaa
open Go.RowKit
set_option linter.unusedVariables false

def zeroNd : Nd SV := ⟨⟨0, 0, 0⟩, ⟨0, 0, 0⟩, 0, 0, 0, 0, 0⟩

def zeroCs : Array Value := #[.int .i64 0, .int .i64 0, .int .i64 0, .int .i64 0, .int .i64 0, .int .i64 0, .int .i64 0, .int .u64 0, .int .i64 0, .int .i64 0, .int .i64 0]

theorem run_make1 (w : World) : (Instr.makeSlice 113 (.int .i64 1) (.int .i64 1)).run Try.prog w = .ok (.slice (some ⟨w.heap.size, 0, none⟩) 1 1) (w.alloc (.cells zeroCs 112)) := by
  obtain ⟨i, hi, hz0, hz1, hz2⟩ := info_parts (show (Try.prog.info? 112).map (fun i => (i.zero, i.size, i.bytes)) = some (some (Value.agg #[.int .i64 0, .int .i64 0, .int .i64 0, .int .i64 0, .int .i64 0, .int .i64 0, .int .i64 0, .int .u64 0, .int .i64 0, .int .i64 0, .int .i64 0]), 11, 88) by kernel_rfl)
  have := run_makeSlice (P := Try.prog) w 113 112 i _ Try.underlying113 hi hz0 .i64 .i64 1 1 (by omega) (by omega) (by rw [hz1]; simp) (by rw [hz2]; omega) (by omega)
  rw [this, hz1]
  refine congrArg (fun cs => Result.ok _ (w.alloc (.cells cs _))) ?_
  kernel_rfl

/-- What New leaves. -/
theorem new_rp {w W : World} {sv : Value} {ss : List Int} {nb : Nat} (hb : Below w.heap.size w W) (hs : OK encI 1 3 W w.heap.size sv ss) (hl : ss.length ≤ 65536) (hn : Blk W nb 112 zeroCs) (hnb : w.heap.size ≤ nb) :
    (∃ S, Rp (W.alloc (.cells #[sv, .slice (some ⟨nb, 0, none⟩) 1 1] 115)) W.heap.size S RM.new ∧ ∀ k, S k → w.heap.size ≤ k) ∧ Below w.heap.size w (W.alloc (.cells #[sv, .slice (some ⟨nb, 0, none⟩) 1 1] 115)) := by
  refine ⟨⟨fun k => k = W.heap.size ∨ k = nb ∨ (ss ≠ [] ∧ sv.ownBlock = some k), ⟨w.heap.size, sv, nb, 1, fun _ => zeroNd, ss, ⟨⟨Blk.new _ _ _, ?_⟩, rope_new rfl, by simp [RM.new], .inr (hs.alloc _), hl⟩, fun k => Iff.rfl⟩, ?_⟩, hb.alloc hb.size _⟩
  · refine ⟨by simp [RM.new, rowN], by simp [RM.new, rowN, encNd], .inr ⟨nb, 1, zeroCs, by simp [RM.new, rowN], hnb, hn.alloc _, by simp [RM.new, rowN], by simp [maxLen], by simp [zeroCs], ?_⟩⟩
    simp [RM.new, rowN, zeroCs, encNd, zeroNd]
  · rintro k (rfl | rfl | hk)
    · exact hb.size
    · exact hnb
    · exact (hs.lt k hk.2).1

set_option maxRecDepth 100000 in
set_option maxHeartbeats 2000000 in
theorem rNew (w : World) (v : Value) (ss : List Int) (hv : RI w w.heap.size v ss) :
    Calls Try.prog 58 #[v] w fun e w' => ∃ g S, e = .returned (.pointer (some ⟨g, 0, none⟩)) ∧ Rp w' g S RM.new ∧ (∀ k, S k → w.heap.size ≤ k) ∧ Below w.heap.size w w' := by
  obtain ⟨A, c, rfl, hc1, hc2, hc3, HC⟩ := hv.open_
  obtain ⟨m, hm⟩ : ∃ m, m = min ss.length 65536 := ⟨_, rfl⟩
  have hcut : RI w w.heap.size (.slice A m c) (ss.take m) := RK.cutTo hv m (by omega)
  have hl2 : (ss.take m).length ≤ 65536 := by rw [List.length_take]; omega
  obtain ⟨n, hn⟩ : ∃ n, n = ss.length := ⟨_, rfl⟩
  rw [← hn] at hm hc1 ⊢
  have hmin : ∀ (ty : TypeId) (W : World), (Builtin.min_ #[3, 3] ty #[.int .i64 (n : Int), .int .i64 65536]).run Try.prog W = .ok (.int .i64 (m : Int)) W := by
    intro ty W
    simp [Builtin.min_, Builtin.min2, List.foldlM]
    omega
  have hmk := run_make1
  have hmc : m ≤ c := by omega
  have hmc2 : (m : Int) ≤ (c : Int) := by omega
  have HCUT := Lib.hid hcut
  have HL2 := Lib.hid hl2
  have HBZ : Hid (Below w.heap.size w (w.alloc (.cells zeroCs 112)).drew) := Lib.hid (((Below.refl _ _).alloc (Nat.le_refl _) _).drew)
  clear hv HC hcut hl2 hm hn
  go_enter Try.func58, Try.ntmps58
  go_wp2_with fail
  go_region_law (first
    | (go_simp; go_at_call 74; refine (clone_any _ (ss.take m) _ w.heap.size (by first | exact HCUT.out.drew | exact HCUT.out.below HBZ.out) (by have := HL2.out; omega)).mono ?_; rintro e w4 ⟨v4, rfl, ho4, hb4⟩; obtain ⟨A4, c4, hv4, -, -, -, -⟩ := (ho4.rk encI_len (Nat.le_refl _)).open_; obtain ⟨k4, hk4⟩ : ∃ k4, k4 = (ss.take m).length := ⟨_, rfl⟩; rw [← hk4] at hv4; clear hk4; subst hv4; have HO4 := Lib.hid ho4; have HB4 := Lib.hid hb4; clear ho4 hb4))
  all_goals (
    go_wp2_with fail
    go_ret
    first
      | (have hb : Below w.heap.size w (w4.alloc (.cells zeroCs 112)) := ((Below.refl _ _).drew.trans HB4.out).alloc HB4.out.size _
         obtain ⟨⟨S, h1, h2⟩, h3⟩ := new_rp hb (HO4.out.alloc _) HL2.out (Blk.new w4 _ _) HB4.out.size
         rw [show (w4.alloc (.cells zeroCs 112)).heap.size = w4.heap.size + 1 by simp] at h1
         exact ⟨w4.heap.size + 1, S, rfl, h1, h2, h3⟩)
      | (have hb : Below w.heap.size w w4 := HBZ.out.trans (HB4.out.mono (by simp))
         obtain ⟨⟨S, h1, h2⟩, h3⟩ := new_rp hb (HO4.out.base (by simp)) HL2.out ((Blk.new w _ zeroCs).drew.below HB4.out (by simp)) (Nat.le_refl _)
         exact ⟨_, S, rfl, h1, h2, h3⟩))

end Go.Proofs.Ytlakcldgolpaiaa
