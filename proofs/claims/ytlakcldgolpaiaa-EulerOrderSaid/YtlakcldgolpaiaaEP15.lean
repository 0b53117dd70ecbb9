/-
  The walks of Size, Value, All.
-/
import Derived.Test.YtlakcldgolpaiaaEP14
namespace Go.Proofs.Ytlakcldgolpaiaa
open Go.RowKit
set_option linter.unusedVariables false

theorem below_drewN {B : Nat} {w w' : World} (h : Below B w w') (n : Nat) : Below B w (w'.drewN n) := ⟨h.os, h.tape, h.output, h.size, h.block⟩

theorem sizeOk {w : World} {g B : Nat} {sv : Value} {nb cap : Nat} {N : Nodes SV} {ss : List Int} {M : RM SV} (h : RpX w g B sv nb cap N ss M) {i : Nat} (hi : 1 ≤ i ∧ i ≤ M.own.length) : (M.rowOf i).length ≤ 65536 := Nat.le_trans (row_len h.ok.ok (row_mem h.ok.ok hi).1) h.few

set_option maxRecDepth 100000 in
set_option maxHeartbeats 2000000 in
theorem rAll (w : World) (g : Nat) (S : Nat → Prop) (M : RM SV) (h : Rp w g S M) (a : Int) :
    Calls Try.prog 49 #[.pointer (some ⟨g, 0, none⟩), .int .i64 a] w fun e w' => e = .returned (.tuple #[(M.allA a).v, .int .i64 (M.errA a)]) ∧ Below w.heap.size w w' := by
  obtain ⟨B, sv, nb, cap, N, ss, hX, hS⟩ := h
  obtain ⟨W, hW⟩ : ∃ W, W = w.alloc (.cells #[.int .i64 0, .int .i64 0, .int .i64 0] 68) := ⟨_, rfl⟩
  have hbW : Below w.heap.size w W := by rw [hW]; exact (Below.refl _ _).alloc (Nat.le_refl _) _
  have hkW : Blk W w.heap.size 68 #[.int .i64 0, .int .i64 0, .int .i64 0] := by rw [hW]; exact Blk.new _ _ _
  have hXW := hX.below hbW
  have hka := knownX W g sv nb cap M hXW.mem.blk a
  by_cases ha : M.known a = true
  · rw [ha] at hka
    obtain ⟨i, rfl, hi⟩ := known_nat ha
    have e1 : M.errA (i : Int) = 0 := by unfold RM.errA; rw [if_pos ha]
    obtain ⟨t, t1, t2, t3, t4, t5, t6⟩ := topX hXW hi
    have e2 : M.allA (i : Int) = (N t.root).sum := by
      unfold RM.allA
      rw [if_pos ha, Int.toNat_natCast, ← t1, t2.sum t4]
      exact (hX.ok.bears (fun j hj => by have := t5 j hj; omega)).symm
    rw [e1, e2]
    have hlt := (t5 _ (Tr.root_mem t4)).2
    obtain ⟨o, ho⟩ : ∃ o, o = (N t.root).sum := ⟨_, rfl⟩
    have b1 : W.cell? ⟨g, 1, none⟩ = _ := hXW.mem.blk.cell 1
    obtain ⟨-, -, -, o0, o1, o1x, -⟩ := hXW.mem.cells hlt
    rw [← ho] at o0 o1 o1x ⊢
    have HT := Lib.hid t6
    have HM := Lib.hid hXW.mem
    obtain ⟨x, hx⟩ : ∃ x, x = t.root := ⟨_, rfl⟩
    rw [← hx] at HT o0 o1 o1x hlt
    have hlt2 : (x : Int) < (M.own.length : Int) + 1 := by omega
    have hgw := hX.mem.lt.1
    have hnw := hX.mem.lt.2
    have HKA := Lib.hid hka
    have HW := Lib.hid hW
    have HBW := Lib.hid hbW
    have HKW := Lib.hid hkW
    have c0 : W.cell? ⟨w.heap.size, 0, none⟩ = _ := hkW.cell 0
    have c1 : W.cell? ⟨w.heap.size, 1, none⟩ = _ := hkW.cell 1
    have c2 : W.cell? ⟨w.heap.size, 2, none⟩ = _ := hkW.cell 2
    have d0 := hkW.frozen 0
    have d1 := hkW.frozen 1
    have d2 := hkW.frozen 2
    clear hka e1 e2 hX hXW ha hW hbW hkW ho hx t1 t2 t3 t4 t5 t6
    unfold SV.v
    go_enter Try.func49, Try.ntmps49
    go_wp2_with fail
    rw [← HW.out]
    refine HKA.out.mono ?_
    rintro e w1 ⟨rfl, h1⟩
    subst w1
    go_wp2_with fail
    go_region_law (first
      | (go_simp; go_at_call 71; refine (HT.out _ HM.out.drew).mono ?_; rintro e w4 ⟨rfl, h4⟩; subst w4))
    all_goals (
      go_wp2_with fail
      have hk3 : Blk (((W.setCell ⟨w.heap.size, 0, none⟩ (.int .i64 o.n)).setCell ⟨w.heap.size, 1, none⟩ (.int .i64 o.m)).setCell ⟨w.heap.size, 2, none⟩ (.int .i64 o.e)).drew w.heap.size 68 #[.int .i64 o.n, .int .i64 o.m, .int .i64 o.e] := (((HKW.out.set_ 0 _).set_ 1 _).set_ 2 _).drew
      have HB3 : Hid (Below w.heap.size w (((W.setCell ⟨w.heap.size, 0, none⟩ (.int .i64 o.n)).setCell ⟨w.heap.size, 1, none⟩ (.int .i64 o.m)).setCell ⟨w.heap.size, 2, none⟩ (.int .i64 o.e)).drew) := Lib.hid (below_drewN (((HBW.out.setCell (p := ⟨w.heap.size, 0, none⟩) (Nat.le_refl _) _).setCell (p := ⟨w.heap.size, 1, none⟩) (Nat.le_refl _) _).setCell (p := ⟨w.heap.size, 2, none⟩) (Nat.le_refl _) _) 1)
      generalize (((W.setCell ⟨w.heap.size, 0, none⟩ (.int .i64 o.n)).setCell ⟨w.heap.size, 1, none⟩ (.int .i64 o.m)).setCell ⟨w.heap.size, 2, none⟩ (.int .i64 o.e)).drew = W3 at *
      have r0 := hk3.cell 0
      have r1 := hk3.cell 1
      have r2 := hk3.cell 2
      refine bodyPost_ret (v := .tuple #[.agg #[.int .i64 o.n, .int .i64 o.m, .int .i64 o.e], .int .i64 0]) (by simp [results, Try.results49, go_sem, r0, r1, r2, Act.put]) rfl ?_
      exact ⟨rfl, HB3.out⟩)
  · have e1 : M.errA a = 150 := by unfold RM.errA; rw [if_neg ha]
    have e2 : M.allA a = ⟨0, 0, 0⟩ := by unfold RM.allA; rw [if_neg ha]
    have ha' : M.known a = false := by simpa using ha
    rw [ha'] at hka
    rw [e1, e2]
    have HKA := Lib.hid hka
    have HW := Lib.hid hW
    have HBW := Lib.hid hbW
    have HKW := Lib.hid hkW
    clear hka e1 e2 hX hXW ha ha' hW hbW hkW
    unfold SV.v
    go_enter Try.func49, Try.ntmps49
    go_wp2_with fail
    rw [← HW.out]
    refine HKA.out.mono ?_
    rintro e w1 ⟨rfl, h1⟩
    subst w1
    have c0 : W.cell? ⟨w.heap.size, 0, none⟩ = _ := HKW.out.cell 0
    have c1 : W.cell? ⟨w.heap.size, 1, none⟩ = _ := HKW.out.cell 1
    have c2 : W.cell? ⟨w.heap.size, 2, none⟩ = _ := HKW.out.cell 2
    have d0 := HKW.out.frozen 0
    have d1 := HKW.out.frozen 1
    have d2 := HKW.out.frozen 2
    go_wp2_with fail
    obtain ⟨W3, hW3⟩ : ∃ W3, W3 = ((W.setCell ⟨w.heap.size, 0, none⟩ (.int .i64 0)).setCell ⟨w.heap.size, 1, none⟩ (.int .i64 0)).setCell ⟨w.heap.size, 2, none⟩ (.int .i64 0) := ⟨_, rfl⟩
    rw [← hW3]
    have hk3 : Blk W3 w.heap.size 68 #[.int .i64 0, .int .i64 0, .int .i64 0] := by rw [hW3]; exact ((HKW.out.set_ 0 _).set_ 1 _).set_ 2 _
    have HB3 : Hid (Below w.heap.size w W3) := Lib.hid (by rw [hW3]; exact ((HBW.out.setCell (p := ⟨w.heap.size, 0, none⟩) (Nat.le_refl _) _).setCell (p := ⟨w.heap.size, 1, none⟩) (Nat.le_refl _) _).setCell (p := ⟨w.heap.size, 2, none⟩) (Nat.le_refl _) _)
    have r0 := hk3.cell 0
    have r1 := hk3.cell 1
    have r2 := hk3.cell 2
    clear hW3 hk3
    refine bodyPost_ret (v := .tuple #[.agg #[.int .i64 0, .int .i64 0, .int .i64 0], .int .i64 150]) (by simp [results, Try.results49, go_sem, r0, r1, r2]) rfl ?_
    exact ⟨rfl, HB3.out⟩

end Go.Proofs.Ytlakcldgolpaiaa
