/-
  What two bear together: the walks of Sum's Plus and of plus, whose deferred call recovers from nothing.
-/
import Derived.Test.YtlakcldgolpaiaaEP5
import Derived.Tactics
import Derived.Tactics2
import Derived.Defers
import Derived.Recover
namespace Go.Proofs.Ytlakcldgolpaiaa
open Go.RowKit
set_option linter.unusedVariables false

def SV.v (x : SV) : Value := .agg #[.int .i64 x.n, .int .i64 x.m, .int .i64 x.e]

set_option maxRecDepth 100000 in
theorem Plus_any (x y : SV) (w : World) :
    Calls Try.prog 124 #[x.v, y.v] w fun e w' => e = .returned (SV.plus x y).v ∧ Below w.heap.size w w' := by
  unfold SV.v SV.plus
  go_enter Try.func124, Try.ntmps124
  go_wp2_with fail
  obtain ⟨W0, hW0⟩ : ∃ W0, W0 = (w.alloc (.cells #[.int .i64 x.n, .int .i64 x.m, .int .i64 x.e] 68)).alloc (.cells #[.int .i64 y.n, .int .i64 y.m, .int .i64 y.e] 68) := ⟨_, rfl⟩
  rw [← hW0]
  obtain ⟨W, hW⟩ : ∃ W, W = W0.alloc (.cells #[.int .i64 (wrap64 (x.n + y.n)), .int .i64 (wrap64 (x.m + y.m)), .int .i64 (wrap64 (x.e + y.e))] 68) := ⟨_, rfl⟩
  rw [← hW]
  have hz : W0.heap.size = w.heap.size + 1 + 1 := by rw [hW0]; simp
  have hb : Below w.heap.size w W := by rw [hW, hW0]; exact (((Below.refl _ _).alloc (Nat.le_refl _) _).alloc (by simp) _).alloc (by simp; omega) _
  have hk : Blk W (w.heap.size + 1 + 1) 68 #[.int .i64 (wrap64 (x.n + y.n)), .int .i64 (wrap64 (x.m + y.m)), .int .i64 (wrap64 (x.e + y.e))] := by rw [hW, ← hz]; exact Blk.new _ _ _
  have r0 := hk.cell 0
  have r1 := hk.cell 1
  have r2 := hk.cell 2
  clear hW hW0 hk
  refine bodyPost_ret (v := .agg #[.int .i64 (wrap64 (x.n + y.n)), .int .i64 (wrap64 (x.m + y.m)), .int .i64 (wrap64 (x.e + y.e))]) (by simp [results, Try.results124, go_sem, r0, r1, r2]) rfl ?_
  exact ⟨by simp only [wrap64, IntKind.wrap_i64], hb⟩

theorem plus_d (w : World) : CallsD Try.prog 100 #[] .returning w fun e u' w' => e = .returned (.tuple #[]) ∧ u' = .returning ∧ w' = w := by
  refine callsD_of_wpS Try.func100 rfl fun c₀ cs hu => ?_
  apply wpS_region
  simp [wpOpsS, go_sem, recoverD, hu, Try.ntmps100]
  cases c₀
  simp_all [bodyPostS, results, Try.results100]

theorem run_method_Plus (n : Nat) (h : 0 < n) (a b c : Int) (w : World) : (method n 68 (.agg #[.int .i64 a, .int .i64 b, .int .i64 c]) "Plus").run Try.prog w = .ok (124, .agg #[.int .i64 a, .int .i64 b, .int .i64 c]) w := by
  cases n with
  | zero => omega
  | succ d => kernel_rfl

set_option maxRecDepth 100000 in
theorem plus_any (x y : SV) (w : World) :
    Calls Try.prog 84 #[x.v, y.v] w fun e w' => e = .returned (SV.plus x y).v ∧ Below w.heap.size w w' := by
  have HM := run_method_Plus
  obtain ⟨z, hz⟩ : ∃ z, z = SV.plus x y := ⟨_, rfl⟩
  have hc := fun w => Plus_any x y w
  rw [← hz] at hc ⊢
  have HC := Lib.hid hc
  clear hc hz
  unfold SV.v at *
  obtain ⟨W0, hW0⟩ : ∃ W0, W0 = ((w.alloc (.cells #[.int .i64 x.n, .int .i64 x.m, .int .i64 x.e] 68)).alloc (.cells #[.int .i64 y.n, .int .i64 y.m, .int .i64 y.e] 68)).alloc (.cells #[.int .i64 0, .int .i64 0, .int .i64 0] 68) := ⟨_, rfl⟩
  have hz0 : W0.heap.size = w.heap.size + 1 + 1 + 1 := by rw [hW0]; simp
  have hb0 : Below w.heap.size w W0 := by rw [hW0]; exact (((Below.refl _ _).alloc (Nat.le_refl _) _).alloc (by simp) _).alloc (by simp; omega) _
  have hk0 : Blk W0 (w.heap.size + 1 + 1) 68 #[.int .i64 0, .int .i64 0, .int .i64 0] := by
    rw [hW0, show w.heap.size + 1 + 1 = ((w.alloc (.cells #[.int .i64 x.n, .int .i64 x.m, .int .i64 x.e] 68)).alloc (.cells #[.int .i64 y.n, .int .i64 y.m, .int .i64 y.e] 68)).heap.size by simp]
    exact Blk.new _ _ _
  go_enter_defers Try.func84, Try.ntmps84
  go_wp2_with fail
  rw [← hW0]
  refine (HC.out W0).mono ?_
  rintro e w1 ⟨rfl, hb1⟩
  have hb := hb0.trans (hb1.mono hb0.size)
  have hk := hk0.below hb1 hk0.lt
  have hz1 := hb1.size
  have f0 := hk.frozen 0
  have f1 := hk.frozen 1
  have f2 := hk.frozen 2
  have k0 := hk.cell 0
  have k1 := hk.cell 1
  have k2 := hk.cell 2
  have HB := Lib.hid hb
  have HK := Lib.hid hk
  clear hW0 hk0 hb0 hb1 hb hk HM HC
  go_wp2_with fail
  obtain ⟨W2, hW2⟩ : ∃ W2, W2 = ((w1.setCell ⟨w.heap.size + 1 + 1, 0, none⟩ (.int .i64 z.n)).setCell ⟨w.heap.size + 1 + 1, 1, none⟩ (.int .i64 z.m)).setCell ⟨w.heap.size + 1 + 1, 2, none⟩ (.int .i64 z.e) := ⟨_, rfl⟩
  rw [← hW2]
  have hk2 : Blk W2 (w.heap.size + 1 + 1) 68 #[.int .i64 z.n, .int .i64 z.m, .int .i64 z.e] := by rw [hW2]; exact ((HK.out.set_ 0 _).set_ 1 _).set_ 2 _
  have HB2 : Hid (Below w.heap.size w W2) := Lib.hid (by rw [hW2]; exact ((HB.out.setCell (p := ⟨w.heap.size + 1 + 1, 0, none⟩) (by dsimp only; omega) _).setCell (p := ⟨w.heap.size + 1 + 1, 1, none⟩) (by dsimp only; omega) _).setCell (p := ⟨w.heap.size + 1 + 1, 2, none⟩) (by dsimp only; omega) _)
  have r0 := hk2.cell 0
  have r1 := hk2.cell 1
  have r2 := hk2.cell 2
  clear hW2 hk2 k0 k1 k2 f0 f1 f2
  refine leaves_cons (f := 100) (args := #[]) (by simp) (by simp [go_sem]) ?_
  refine (plus_d _).mono ?_
  rintro e u' w'' ⟨rfl, rfl, rfl⟩
  simp [Leaves, settle, results, Try.results84, go_sem, r0, r1, r2]
  exact HB2.out

end Go.Proofs.Ytlakcldgolpaiaa
