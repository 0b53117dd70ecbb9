/-
  The walks of gauss's functions at the numbers of the document's examples.
-/
import Derived.Test.YtbmjiheclagfiaaS3
import Derived.Laws.ComplexArith
namespace Go.Proofs.Ytbmjiheclagfiaa
open Go.RowKit
set_option linter.unusedVariables false

theorem run_arch (x : Nat) (w : World) (h : (Extern.MathFloor.toIntegral "math.archTrunc" .zero #[.float .f64 x]).run Try.prog w = .ok (.float .f64 x) w) : (callFunc 68 #[.float .f64 x]).run Try.prog w = .ok (.value (.float .f64 x)) w := by
  rw [run_callFunc_extern Try.func68 (by kernel_rfl) (by kernel_rfl) (by kernel_rfl) (e := Extern.MathFloor.toIntegral "math.archTrunc" .zero) (by kernel_rfl), h]
  rfl
theorem arch3 (w : World) : (callFunc 68 #[.float .f64 4613937818241073152]).run Try.prog w = .ok (.value (.float .f64 4613937818241073152)) w := run_arch _ w (by kernel_rfl)
theorem arch1 (w : World) : (callFunc 68 #[.float .f64 4607182418800017408]).run Try.prog w = .ok (.value (.float .f64 4607182418800017408)) w := run_arch _ w (by kernel_rfl)

set_option maxHeartbeats 400000 in
theorem trunc3 (w : World) : Calls Try.prog 67 #[.float .f64 4613937818241073152] w fun e w' => e = .returned (.float .f64 4613937818241073152) ∧ w = w' := by
  have ha := arch3
  go_enter Try.func67, Try.ntmps67
  go_wp2
  go_ret
  exact ⟨rfl, rfl⟩

set_option maxHeartbeats 400000 in
theorem fits3 (w : World) : Calls Try.prog 66 #[.float .f64 4613937818241073152] w fun e w' => e = .returned (.bool true) ∧ w = w' := by
  have o1 : FloatKind.f64.format.order 4613937818241073152 14055734437023318016 = some .gt := by kernel_rfl
  have o2 : FloatKind.f64.format.order 4613937818241073152 4832362400168542208 = some .lt := by kernel_rfl
  have o3 : FloatKind.f64.format.order 4613937818241073152 4613937818241073152 = some .eq := by kernel_rfl
  go_enter Try.func66, Try.ntmps66
  go_wp2_with fail
  refine (trunc3 _).mono ?_
  rintro e w1 ⟨rfl, rfl⟩
  go_wp2
  go_ret
  exact ⟨rfl, rfl⟩

set_option maxHeartbeats 400000 in
theorem trunc1 (w : World) : Calls Try.prog 67 #[.float .f64 4607182418800017408] w fun e w' => e = .returned (.float .f64 4607182418800017408) ∧ w = w' := by
  have ha := arch1
  go_enter Try.func67, Try.ntmps67
  go_wp2
  go_ret
  exact ⟨rfl, rfl⟩

set_option maxHeartbeats 400000 in
theorem fits1 (w : World) : Calls Try.prog 66 #[.float .f64 4607182418800017408] w fun e w' => e = .returned (.bool true) ∧ w = w' := by
  have o1 : FloatKind.f64.format.order 4607182418800017408 14055734437023318016 = some .gt := by kernel_rfl
  have o2 : FloatKind.f64.format.order 4607182418800017408 4832362400168542208 = some .lt := by kernel_rfl
  have o3 : FloatKind.f64.format.order 4607182418800017408 4607182418800017408 = some .eq := by kernel_rfl
  go_enter Try.func66, Try.ntmps66
  go_wp2_with fail
  refine (trunc1 _).mono ?_
  rintro e w1 ⟨rfl, rfl⟩
  go_wp2
  go_ret
  exact ⟨rfl, rfl⟩

set_option maxHeartbeats 400000 in
theorem Fits31 (w : World) : Calls Try.prog 62 #[.complex .f64 4613937818241073152 4607182418800017408] w fun e w' => e = .returned (.bool true) ∧ w = w' := by
  go_enter Try.func62, Try.ntmps62
  go_wp2_with fail
  refine (fits3 _).mono ?_
  rintro e w1 ⟨rfl, rfl⟩
  go_wp2_with fail
  refine (fits1 _).mono ?_
  rintro e w1 ⟨rfl, rfl⟩
  go_wp2
  go_ret
  exact ⟨rfl, rfl⟩

theorem toInt3 (w : World) : (convert 104 2 (.float .f64 4613937818241073152)).run Try.prog w = .ok (.int .i64 3) w := run_convert_float_int w _ _ .f64 .i64 _ 3 (by kernel_rfl) (by kernel_rfl) (by kernel_rfl)
theorem toInt1 (w : World) : (convert 104 2 (.float .f64 4607182418800017408)).run Try.prog w = .ok (.int .i64 1) w := run_convert_float_int w _ _ .f64 .i64 _ 1 (by kernel_rfl) (by kernel_rfl) (by kernel_rfl)

set_option maxHeartbeats 400000 in
theorem Parts31 (w : World) : Calls Try.prog 63 #[.complex .f64 4613937818241073152 4607182418800017408] w fun e w' => e = .returned (.tuple #[.int .i64 3, .int .i64 1, .int .i64 0]) ∧ w = w' := by
  have c3 := toInt3
  have c1 := toInt1
  go_enter Try.func63, Try.ntmps63
  go_wp2_with fail
  refine (Fits31 _).mono ?_
  rintro e w1 ⟨rfl, rfl⟩
  go_wp2
  go_ret3
  exact ⟨rfl, rfl⟩

theorem foldN3 : foldN 3 = 6 := by decide
theorem foldN1 : foldN 1 = 2 := by decide
theorem putL6 : putL 6 = [6] := putL_last 6 (by omega)
theorem putL2 : putL 2 = [2] := putL_last 2 (by omega)

set_option maxHeartbeats 1000000 in
theorem Put31 (w : World) : Calls Try.prog 54 #[.complex .f64 4613937818241073152 4607182418800017408] w fun e w' => ∃ v', e = .returned (.tuple #[v', .int .i64 0]) ∧ OB w' w.heap.size v' [6, 2] ∧ Below w.heap.size w w' := by
  have H3 : Hid ((putL (foldN 3)).length ≤ 10) := by rw [foldN3, putL6]; show _ ≤ _; simp
  have H1 : Hid ((putL (foldN 1)).length ≤ 10) := by rw [foldN1, putL2]; show _ ≤ _; simp
  go_enter Try.func54, Try.ntmps54
  go_wp2_with fail
  refine (Parts31 _).mono ?_
  rintro e w1 ⟨rfl, rfl⟩
  go_wp2_with fail
  refine (puts_any 3 w (by omega) (by omega) H3).mono ?_
  rw [foldN3, putL6]
  rintro e w1 ⟨v1, rfl, ho1, hb1⟩
  have HO1 := Lib.hid ho1
  have HB1 := Lib.hid hb1
  clear ho1 hb1
  go_wp2_with fail
  refine (puts_any 1 w1 (by omega) (by omega) H1).mono ?_
  rw [foldN1, putL2]
  rintro e w2 ⟨v2, rfl, ho2, hb2⟩
  have HO2 : Hid (OB w2 w.heap.size v1 [6]) := HO1.out.below hb2
  have HP2 : Hid (RB w2 w2.heap.size v2 [2]) := ho2.rb (Nat.le_refl _)
  have HB2 := Lib.hid (HB1.out.trans (hb2.mono HB1.out.size))
  clear ho2 hb2
  go_wp2_with (at_builtin; go_must (refine wpList_app rfl (.tmp 17) (.tmp 19) rfl w.heap.size _ [6] rfl HO2.out _ _ [2] rfl HP2.out HB2.out.size (by simp) ?_); intro v' w3 ho3 hg3 _; have HO3 := Lib.hid ho3; have HG3 := Lib.hid hg3; clear ho3 hg3)
  go_ret2
  exact ⟨_, rfl, HO3.out, HB2.out.grown HG3.out HB2.out.size (fun k hk => (HO2.out.lt k hk).1)⟩

theorem toF3 (w : World) : (convert 2 104 (.int .i64 3)).run Try.prog w = .ok (.float .f64 4613937818241073152) w := by
  rw [run_convert_int_float w _ _ .i64 .f64 3 (by kernel_rfl) (by kernel_rfl)]
  kernel_rfl
theorem toF1 (w : World) : (convert 2 104 (.int .i64 1)).run Try.prog w = .ok (.float .f64 4607182418800017408) w := by
  rw [run_convert_int_float w _ _ .i64 .f64 1 (by kernel_rfl) (by kernel_rfl)]
  kernel_rfl

set_option maxHeartbeats 400000 in
theorem Of31 (w : World) : Calls Try.prog 64 #[.int .i64 3, .int .i64 1] w fun e w' => e = .returned (.tuple #[.complex .f64 4613937818241073152 4607182418800017408, .int .i64 0]) ∧ w = w' := by
  have c3 := toF3
  have c1 := toF1
  go_enter Try.func64, Try.ntmps64
  go_wp2_with fail
  refine (Fits31 _).mono ?_
  rintro e w1 ⟨rfl, rfl⟩
  go_wp2
  go_ret2
  exact ⟨rfl, rfl⟩
end Go.Proofs.Ytbmjiheclagfiaa
