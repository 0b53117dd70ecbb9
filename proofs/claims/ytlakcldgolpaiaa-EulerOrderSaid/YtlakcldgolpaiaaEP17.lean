/-
  The walk of List.
-/
import Derived.Test.YtlakcldgolpaiaaEP16
import Derived.Laws.MakeOwn
namespace Go.Proofs.Ytlakcldgolpaiaa
open Go.RowKit
set_option linter.unusedVariables false

theorem run_make22 (n : Nat) (hn : n ≤ 1000000) (w : World) : (Instr.makeSlice 22 (.int .i64 0) (.int .i64 (n : Int))).run Try.prog w = .ok (.slice (some ⟨w.heap.size, 0, none⟩) 0 n) (w.alloc (.cells (madeCells #[.int .i64 0] n) 3)) := by
  obtain ⟨i, hi, hz0, hz1, hz2⟩ := info_parts (show (Try.prog.info? 3).map (fun i => (i.zero, i.size, i.bytes)) = some (some (Value.int .i64 0), 1, 8) by kernel_rfl)
  have := run_makeSlice (P := Try.prog) w 22 3 i _ Try.underlying22 hi hz0 .i64 .i64 0 n (by omega) (by omega) (by rw [hz1]; simp; omega) (by rw [hz2]; omega) (by omega)
  rw [this, hz1]
  simp [Value.cells]

set_option maxRecDepth 100000 in
set_option maxHeartbeats 2000000 in
theorem rList (w : World) (g : Nat) (S : Nat → Prop) (M : RM SV) (h : Rp w g S M) (a : Int) :
    Calls Try.prog 60 #[.pointer (some ⟨g, 0, none⟩), .int .i64 a] w fun e w' => ∃ v, e = .returned (.tuple #[v, .int .i64 (M.errA a)]) ∧ OK encI 1 3 w' w.heap.size v ((M.rowA a).map natI) ∧ Below w.heap.size w w' := by
  obtain ⟨B, sv, nb, cap, N, ss, hX, hSS⟩ := h
  have hka := knownX w g sv nb cap M hX.mem.blk a
  by_cases ha : M.known a = true
  · rw [ha] at hka
    obtain ⟨i, rfl, hi⟩ := known_nat ha
    have e1 : M.errA (i : Int) = 0 := by unfold RM.errA; rw [if_pos ha]
    have e2 : M.rowA (i : Int) = M.rowOf i := by unfold RM.rowA; rw [if_pos ha, Int.toNat_natCast]
    rw [e1, e2]
    obtain ⟨t, t1, t2, t3, t4, t5, t6⟩ := topX hX hi
    have hlt := (t5 _ (Tr.root_mem t4)).2
    have hsz := sizeOk hX hi
    have b1 : w.cell? ⟨g, 1, none⟩ = _ := hX.mem.blk.cell 1
    have s4 := (hX.mem.cells hlt).2.2.2.2.2.2.1
    rw [t2.size t4, t1] at s4
    have HKA := Lib.hid hka
    have HT := Lib.hid (t6 w hX.mem)
    obtain ⟨x, hx⟩ : ∃ x, x = t.root := ⟨_, rfl⟩
    obtain ⟨k, hk⟩ : ∃ k, k = (M.rowOf i).length := ⟨_, rfl⟩
    obtain ⟨n, hn⟩ : ∃ n, n = M.own.length + 1 := ⟨_, rfl⟩
    rw [← hn] at b1 hlt
    rw [← hk] at s4 hsz
    have hc : ∀ W v, Mem W g B sv nb n cap N → OK encI 1 3 W w.heap.size v [] → w.heap.size ≤ W.heap.size → Calls Try.prog 76 #[.pointer (some ⟨g, 0, none⟩), v, .int .i64 (x : Int)] W fun e w' => ∃ v', e = .returned v' ∧ OK encI 1 3 w' w.heap.size v' ((M.rowOf i).map natI) ∧ Below w.heap.size W w' := by
      intro W v hM hO hB
      have := list_any (g := g) (B := B) (sv := sv) (nb := nb) (n := n) (cap := cap) (B2 := w.heap.size) (by have := hX.few; omega) hX.mem.lt.1 hX.mem.lt.2 t W N v [] hM t2 hO hB (by rw [hn]; exact t5) (by rw [t1]; simp; omega)
      rw [hx, ← t1]
      simpa using this
    have HC := Lib.hid hc
    have HM : Hid (Mem w g B sv nb n cap N) := Lib.hid (by rw [hn]; exact hX.mem)
    rw [← hx] at HT hlt s4
    have hlt2 : (x : Int) < (n : Int) := by omega
    clear hka e1 e2 ha hi hX hSS t1 t2 t3 t4 t5 t6 hx hk hn hc
    have hmk := fun w => run_make22 k (by omega) w
    have hmade : OK encI 1 3 (w.alloc (.cells (madeCells #[.int .i64 0] k) 3)) w.heap.size (.slice (some ⟨w.heap.size, 0, none⟩) 0 k) [] := ⟨by simp, World.ownsRow_made w _ k (Nat.le_refl _) (by simp only [maxLen]; omega) (by simp [madeCells])⟩
    have HMADE := Lib.hid hmade
    clear hmade
    go_enter Try.func60, Try.ntmps60
    go_wp2_with fail
    refine HKA.out.mono ?_
    rintro e w1 ⟨rfl, h1⟩
    subst w1
    go_wp2_with fail
    refine HT.out.mono ?_
    rintro e w1 ⟨rfl, h1⟩
    subst w1
    go_wp2_with fail
    have hba : Below w.heap.size w (w.alloc (.cells (madeCells #[.int .i64 0] k) 3)) := (Below.refl _ _).alloc (Nat.le_refl _) _
    refine (HC.out _ _ (HM.out.below hba) HMADE.out hba.size).mono ?_
    rintro e w2 ⟨v2, rfl, ho2, hb2⟩
    obtain ⟨A2, c2, hv2, -, -, -, -⟩ := (ho2.rk encI_len (Nat.le_refl _)).open_
    obtain ⟨n2, hn2⟩ : ∃ n2, n2 = ((M.rowOf i).map natI).length := ⟨_, rfl⟩
    rw [← hn2] at hv2
    clear hn2
    subst hv2
    have HR : Hid (OK encI 1 3 w2 w.heap.size (.slice A2 n2 c2) ((M.rowOf i).map natI) ∧ Below w.heap.size w w2) := Lib.hid ⟨ho2, hba.trans hb2⟩
    clear ho2 hb2 hba
    go_wp2_with fail
    go_ret2
    exact ⟨_, rfl, HR.out.1, HR.out.2⟩
  · have e1 : M.errA a = 150 := by unfold RM.errA; rw [if_neg ha]
    have e2 : M.rowA a = [] := by unfold RM.rowA; rw [if_neg ha]
    have ha' : M.known a = false := by simpa using ha
    rw [ha'] at hka
    rw [e1, e2]
    have HKA := Lib.hid hka
    clear hka e1 e2 hX ha ha'
    go_enter Try.func60, Try.ntmps60
    go_wp2_with fail
    refine HKA.out.mono ?_
    rintro e w1 ⟨rfl, h1⟩
    subst w1
    go_wp2_with fail
    go_ret2
    exact ⟨_, rfl, OK.nil _ _, Below.refl _ _⟩

end Go.Proofs.Ytlakcldgolpaiaa
