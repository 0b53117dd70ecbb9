/-
  The walks of keys's functions for values and ends at the document's examples.
-/
import Derived.Test.YtbmjiheclagfiaaA1
import Derived.Test.YtbmjiheclagfiaaN5
import Derived.Test.YtbmjiheclagfiaaN6
import Derived.Handy
namespace Go.Proofs.Ytbmjiheclagfiaa
open Go.RowKit
set_option linter.unusedVariables false

@[go_sem] theorem run_store_complex (P : Program) (w : World) (a : Addr) (m : Mode) (k : FloatKind) (x y : Nat) : (store a (.complex k x y) m).run P w = stored P w a (.complex k x y) m := run_store P w a _ m rfl

def C31 : Value := .complex .f64 4613937818241073152 4607182418800017408
theorem gs1 : getSA [2, 6, 2] 1 = (3, 2, 0) := by decide +kernel
theorem gs2 : getSA [2, 6, 2] 2 = (1, 3, 0) := by decide +kernel

set_option maxHeartbeats 400000 in
theorem Get31 (v : Value) (w : World) (B : Nat) (hv : Hid (RB w B v [2, 6, 2])) : Calls Try.prog 57 #[v, .int .i64 1] w fun e w' => e = .returned (.tuple #[.complex .f64 4613937818241073152 4607182418800017408, .int .i64 3, .int .i64 0]) ∧ w = w' := by
  go_enter Try.func57, Try.ntmps57
  go_wp2_with fail
  refine (gets_any v [2, 6, 2] 1 w B hv.out 3 2 0 gs1).mono ?_
  rintro e w1 ⟨rfl, rfl⟩
  go_wp2_with fail
  refine (gets_any v [2, 6, 2] 2 w B hv.out 1 3 0 gs2).mono ?_
  rintro e w1 ⟨rfl, rfl⟩
  go_wp2_with fail
  refine (Of31 _).mono ?_
  rintro e w1 ⟨rfl, rfl⟩
  go_wp2
  go_ret3
  exact ⟨rfl, rfl⟩

def val31 : Value := .agg #[.int .i64 2, .int .i64 0, .complex .f64 4613937818241073152 4607182418800017408, .slice none 0 0]

set_option maxHeartbeats 400000 in
theorem Right31 (w : World) : Calls Try.prog 37 #[val31] w fun e w' => e = .returned (.bool true) ∧ Below w.heap.size w w' := by
  unfold val31
  go_enter Try.func37, Try.ntmps37
  go_wp2_with fail
  refine (Fits31 _).mono ?_
  rintro e w1 ⟨rfl, rfl⟩
  go_wp2
  go_ret
  exact ⟨rfl, by go_grown⟩

set_option maxHeartbeats 1000000 in
theorem PutValue31 (w : World) : Calls Try.prog 33 #[val31] w fun e w' => ∃ v', e = .returned (.tuple #[v', .int .i64 0]) ∧ OB w' w.heap.size v' [2, 6, 2] ∧ Below w.heap.size w w' := by
  unfold val31
  go_enter Try.func33, Try.ntmps33
  go_wp2_with fail
  refine (Right31 _).mono ?_
  rintro e w1 ⟨rfl, hb1⟩
  have HB1 : Hid (Below w.heap.size w w1) := Below.trans (by go_grown) (hb1.mono (by simp))
  have c0 : w1.cell? ⟨w.heap.size, 0, none⟩ = some (.int .i64 2) := (hb1.cell (p := ⟨w.heap.size, 0, none⟩) (by simp)).trans (by simp)
  have c2 : w1.cell? ⟨w.heap.size, 2, none⟩ = some (.complex .f64 4613937818241073152 4607182418800017408) := (hb1.cell (p := ⟨w.heap.size, 2, none⟩) (by simp)).trans (by simp)
  have hz1 : w.heap.size < w1.heap.size := by have := hb1.size; simp at this; omega
  clear hb1
  go_wp2_with fail
  refine (Put31 _).mono ?_
  rintro e w2 ⟨v2, rfl, ho2, hb2⟩
  have HP2 : Hid (RB w2 w2.heap.size v2 [6, 2]) := ho2.rb (Nat.le_refl _)
  have HO1 : Hid (OB w2 (w1.heap.size) (.slice (some ⟨w1.heap.size, 0, none⟩) 1 1) [2]) := (OB.lit w1 w1.heap.size w1.heap.size #[.int .u8 2] [2] 1 rfl (by simp [bcell]) (by simp) rfl (by simp) (Nat.le_refl _)).below hb2
  have HB2 : Hid (Below w.heap.size w w2) := (HB1.out.alloc HB1.out.size _).trans (hb2.mono (by have := HB1.out.size; simp; omega))
  clear ho2 hb2
  go_wp2_with (at_builtin; go_must (refine wpList_app rfl (.tmp 34) (.tmp 35) rfl w.heap.size _ [2] rfl (HO1.out.base HB1.out.size) _ _ [6, 2] rfl HP2.out HB2.out.size (by simp) ?_); intro v' w3 ho3 hg3 _; have HO3 := Lib.hid ho3; have HG3 := Lib.hid hg3; clear ho3 hg3)
  go_ret2
  exact ⟨_, rfl, HO3.out, HB2.out.grown HG3.out HB2.out.size (fun k hk => ((HO1.out.base HB1.out.size).lt k hk).1)⟩

set_option maxRecDepth 100000 in
set_option maxHeartbeats 1000000 in
theorem GetValue31 (b off c : Nat) (w : World) (hv : Hid (RB w w.heap.size (.slice (some ⟨b, off, none⟩) 3 c) [2, 6, 2])) (hb : b < w.heap.size) (hc : w.cell? ⟨b, off, none⟩ = some (.int .u8 2)) : Calls Try.prog 34 #[.slice (some ⟨b, off, none⟩) 3 c] w fun e w' => e = .returned (.tuple #[val31, .int .i64 0]) ∧ Below w.heap.size w w' := by
  go_enter Try.func34, Try.ntmps34
  go_wp2_with fail
  refine (Get31 _ _ w.heap.size (by exact (hv.out.alloc (Nat.le_refl _) _).alloc (by simp) _)).mono ?_
  rintro e w1 ⟨rfl, rfl⟩
  go_wp2
  refine bodyPost_ret (v := .tuple #[val31, .int .i64 0]) (by unfold val31; simp [results, Try.results34, go_sem]; try rfl) rfl ⟨rfl, ?_⟩
  go_grown

def edge12 : Value := .agg #[.int .i64 0, .int .i64 1, .int .i64 2, .int .i64 300]
theorem checkEnds_ok (i u v t : Int) (w : World) (h1 : Hid (idB u = true)) (h2 : Hid (idB v = true)) (h3 : Hid (timeB t = true)) : Calls Try.prog 59 #[.agg #[.int .i64 i, .int .i64 u, .int .i64 v, .int .i64 t]] w fun e w' => e = .returned (.int .i64 0) ∧ ∃ o, w' = w.alloc o := by
  go_enter Try.func59, Try.ntmps59
  go_wp2_with fail
  refine (isId_any u _).mono ?_
  rw [h1.out]
  rintro e w1 ⟨rfl, rfl⟩
  go_wp2_with fail
  refine (isId_any v _).mono ?_
  rw [h2.out]
  rintro e w1 ⟨rfl, rfl⟩
  go_wp2_with fail
  refine (isWeight_any t _).mono ?_
  rw [h3.out]
  rintro e w1 ⟨rfl, rfl⟩
  go_wp2
  go_ret
  exact ⟨rfl, _, rfl⟩

theorem keepAt {w w' : World} {v u : Value} {p o : Nat} (hg : w.grownBy w' v.ownBlock) (h : w.cell? ⟨p, o, none⟩ = some u) (hn : ∀ b, v.ownBlock = some b → p < b) : w'.cell? ⟨p, o, none⟩ = some u :=
  hg.cell h (fun hh => by have := hn _ hh.symm; simp at this)
theorem p1 : putL 1 = [1] := putL_last 1 (by omega)
theorem p2 : putL 2 = [2] := putL_last 2 (by omega)
theorem p300 : putL 300 = [172, 2] := by rw [putL_more 300 (by omega), putL_last 2 (by omega)]

set_option maxHeartbeats 1000000 in
theorem PutEnds12 (w : World) : Calls Try.prog 35 #[edge12] w fun e w' => ∃ v', e = .returned (.tuple #[v', .int .i64 0]) ∧ OB w' w.heap.size v' [1, 2, 172, 2] ∧ Below w.heap.size w w' := by
  unfold edge12
  have L1 : Hid ((putL 1).length ≤ 10) := by rw [p1]; show _ ≤ _; simp
  have L2 : Hid ((putL 2).length ≤ 10) := by rw [p2]; show _ ≤ _; simp
  have L3 : Hid ((putL 300).length ≤ 10) := by rw [p300]; show _ ≤ _; simp
  go_enter Try.func35, Try.ntmps35
  go_wp2_with fail
  refine (checkEnds_ok 0 1 2 300 _ (by decide : idB 1 = true) (by decide : idB 2 = true) (by decide : timeB 300 = true)).mono ?_
  rintro e w1 ⟨rfl, o1, ho1⟩
  have hb1 : Below (w.alloc (Obj.cells #[Value.int IntKind.i64 0, Value.int IntKind.i64 1, Value.int IntKind.i64 2, Value.int IntKind.i64 300] 66)).heap.size (w.alloc (Obj.cells #[Value.int IntKind.i64 0, Value.int IntKind.i64 1, Value.int IntKind.i64 2, Value.int IntKind.i64 300] 66)) w1 := by rw [ho1]; exact (Below.refl _ _).alloc (Nat.le_refl _) _
  clear ho1
  have HB1 : Hid (Below w.heap.size w w1) := Below.trans (by go_grown) (hb1.mono (by simp))
  have c1 : Hid (w1.cell? ⟨w.heap.size, 1, none⟩ = some (.int .i64 1)) := (hb1.cell (p := ⟨w.heap.size, 1, none⟩) (by simp)).trans (by simp)
  have c2 : Hid (w1.cell? ⟨w.heap.size, 2, none⟩ = some (.int .i64 2)) := (hb1.cell (p := ⟨w.heap.size, 2, none⟩) (by simp)).trans (by simp)
  have c3 : Hid (w1.cell? ⟨w.heap.size, 3, none⟩ = some (.int .i64 300)) := (hb1.cell (p := ⟨w.heap.size, 3, none⟩) (by simp)).trans (by simp)
  have hz1 : w.heap.size < w1.heap.size := by have := hb1.size; simp at this; omega
  clear hb1
  have c1' := c1.out
  go_wp2_with fail
  refine (put_any 1 _ L1).mono ?_
  rw [p1]
  rintro e w2 ⟨v2, rfl, ho2, hb2⟩
  have HNB : Hid (∀ b, v2.ownBlock = some b → w.heap.size < b) := fun b hb => by have := (ho2.lt b hb).1; omega
  have HO2 := Lib.hid (ho2.base HB1.out.size)
  have HB2 := Lib.hid (HB1.out.trans (hb2.mono HB1.out.size))
  have c2' := (hb2.cell (p := ⟨w.heap.size, 2, none⟩) hz1).trans c2.out
  have c3' := Lib.hid ((hb2.cell (p := ⟨w.heap.size, 3, none⟩) hz1).trans c3.out)
  have hz2 : w.heap.size < w2.heap.size := by have := hb2.size; omega
  clear ho2 hb2 c1'
  go_wp2_with fail
  refine (put_any 2 _ L2).mono ?_
  rw [p2]
  rintro e w3 ⟨v3, rfl, ho3, hb3⟩
  have HO3 := Lib.hid (HO2.out.below hb3)
  have HP3 := Lib.hid (ho3.rb (Nat.le_refl _))
  have HQ3 := Lib.hid (HO2.out.apart ho3 (Nat.le_refl _))
  have HB3 := Lib.hid (HB2.out.trans (hb3.mono HB2.out.size))
  have c3'' := Lib.hid ((hb3.cell (p := ⟨w.heap.size, 3, none⟩) hz2).trans c3'.out)
  have hz3 : w.heap.size < w3.heap.size := by have := hb3.size; omega
  clear ho3 hb3 c2'
  go_wp2_with (at_builtin; go_must (refine wpList_app rfl (.tmp 15) (.tmp 19) rfl w.heap.size _ [1] rfl HO3.out _ _ [2] rfl HP3.out HB3.out.size (by simp) ?_); intro v' w4 ho4 hg4 _; have HO4 := Lib.hid ho4; have HG4 := Lib.hid hg4; have c34 := keepAt hg4 c3''.out HNB.out; clear ho4 hg4)
  have HB4 := Lib.hid (HB3.out.grown HG4.out HB3.out.size (fun k hk => (HO3.out.lt k hk).1))
  refine (put_any 300 _ L3).mono ?_
  rw [p300]
  rintro e w5 ⟨v5, rfl, ho5, hb5⟩
  have HO5 := Lib.hid (HO4.out.below hb5)
  have HP5 := Lib.hid (ho5.rb (Nat.le_refl _))
  have HB5 := Lib.hid (HB4.out.trans (hb5.mono HB4.out.size))
  clear ho5 hb5
  go_wp2_with (at_builtin; go_must (refine wpList_app rfl (.tmp 21) (.tmp 25) rfl w.heap.size _ [1, 2] rfl HO5.out _ _ [172, 2] rfl HP5.out HB5.out.size (by simp) ?_); intro v' w6 ho6 hg6 _; have HO6 := Lib.hid ho6; have HG6 := Lib.hid hg6; clear ho6 hg6)
  go_ret2
  exact ⟨_, rfl, HO6.out, HB5.out.grown HG6.out HB5.out.size (fun k hk => (HO5.out.lt k hk).1)⟩

theorem g1 : getR [1, 2, 172, 2] 0 = (1, 1, 0) := by decide +kernel
theorem g2 : getR [1, 2, 172, 2] 1 = (2, 2, 0) := by decide +kernel
theorem g3 : getR [1, 2, 172, 2] 2 = (300, 4, 0) := by decide +kernel

set_option maxHeartbeats 4000000 in
theorem GetEnds12 (b off c : Nat) (w : World) (hv : Hid (RB w w.heap.size (.slice (some ⟨b, off, none⟩) 4 c) [1, 2, 172, 2])) : Calls Try.prog 36 #[.int .i64 9, .slice (some ⟨b, off, none⟩) 4 c] w fun e w' => e = .returned (.tuple #[.agg #[.int .i64 9, .int .i64 1, .int .i64 2, .int .i64 300], .int .i64 0]) ∧ Below w.heap.size w w' := by
  go_enter Try.func36, Try.ntmps36
  go_wp2
  refine wp_loop_rounds 4 ?_
  rw [rounds_succ]
  go_wp2_with fail
  refine (get_ok _ [1, 2, 172, 2] 0 _ w.heap.size (by exact (hv.out.alloc (Nat.le_refl _) _).alloc (by simp) _) (by simp) 1 1 0 g1).mono ?_
  rintro e w1 ⟨rfl, rfl⟩
  go_wp2
  rw [rounds_succ]
  go_wp2_with fail
  refine (get_ok _ [1, 2, 172, 2] 1 _ w.heap.size (by exact (hv.out.alloc (Nat.le_refl _) _).alloc (by simp) _) (by simp) 2 2 0 g2).mono ?_
  rintro e w1 ⟨rfl, rfl⟩
  go_wp2
  rw [rounds_succ]
  go_wp2_with fail
  refine (get_ok _ [1, 2, 172, 2] 2 _ w.heap.size (by exact (hv.out.alloc (Nat.le_refl _) _).alloc (by simp) _) (by simp) 300 4 0 g3).mono ?_
  rintro e w1 ⟨rfl, rfl⟩
  go_wp2
  rw [rounds_succ]
  go_wp2_with fail
  refine (checkEnds_ok 9 1 2 300 _ (by decide : idB 1 = true) (by decide : idB 2 = true) (by decide : timeB 300 = true)).mono ?_
  rintro e w1 ⟨rfl, o1, rfl⟩
  go_wp2
  refine bodyPost_ret (v := .tuple #[.agg #[.int .i64 9, .int .i64 1, .int .i64 2, .int .i64 300], .int .i64 0]) (by simp [results, Try.results36, go_sem]; try rfl) rfl ⟨rfl, ?_⟩
  go_grown
end Go.Proofs.Ytbmjiheclagfiaa
