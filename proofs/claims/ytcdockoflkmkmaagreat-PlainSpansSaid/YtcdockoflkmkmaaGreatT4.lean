/-
  The net of the document's example: how it is made, and what is told of it.
-/
import Derived.Test.YtcdockoflkmkmaaGreatT2
import Derived.Test.YtcdockoflkmkmaaGreatT3
namespace Go.Proofs.YtcdockoflkmkmaaGreat
open Go.RowKit
set_option linter.unusedVariables false

theorem RK.of_blk {α : Type} {enc : α → List Value} {k : Nat} (hk : ∀ x, (enc x).length = k) {w : World} {g t c B : Nat} {cs : Array Value} {xs : List α} (h : Blk w g t cs) (hc : cs.toList = xs.flatMap enc) (hl : xs.length * k ≤ 140737488355328) (h1 : xs.length ≤ c) (h2 : c ≤ 9223372036854775807) (hB : g < B) :
    RK enc k w B (.slice (some ⟨g, 0, none⟩) xs.length c) xs := by
  refine ⟨hl, _, c, rfl, h1, h2, .inr ⟨g, 0, rfl, hB, fun i x hx j u hu => ?_⟩⟩
  have h3 := flat_get hk xs i x hx j u hu
  rw [h.cell, ← Array.getElem?_toList, hc, Nat.zero_add]
  exact h3

def smV : List Int := [1, 2, 3, 4]
def smE : List Ed := [⟨1, 1, 2, 5⟩, ⟨2, 2, 3, 4⟩, ⟨3, 1, 3, 4⟩]
theorem small_right : rightN smV smE = true := by decide
theorem small_forE : forE smV smE = [⟨2, 2, 3, 4⟩, ⟨3, 1, 3, 4⟩] := by
  have h : [⟨2, 2, 3, 4⟩, ⟨3, 1, 3, 4⟩, ⟨1, 1, 2, 5⟩] = sortE smE := sortE_of (right_of small_right).eup (by decide) (by decide)
  unfold forE
  rw [← h]
  decide
theorem small_forest : forestL smV smE = [2, 3] := by
  unfold forestL
  rw [small_forE]
  exact List.mergeSort_of_pairwise (by decide)
theorem small_weight : weightV smV smE = 8 := by
  unfold weightV
  rw [small_forE]
  decide
theorem small_path : pathL smV smE 1 2 = [⟨3, 1, 3, 4⟩, ⟨2, 2, 3, 4⟩] := by
  unfold pathL goneF
  rw [small_forE]
  decide
theorem small_pathErr : pathErr smV smE 1 2 = 0 := by
  unfold pathErr pathK goneF
  rw [small_forE]
  decide
theorem small_noPath : pathErr smV smE 1 4 = 61 := by
  unfold pathErr pathK goneF
  rw [small_forE]
  decide
theorem small_span : spanV smV smE 1 = 8 := by
  unfold spanV goneP endOf goneF
  rw [small_forE]
  decide
theorem small_trees : treesL smV smE = [[1, 2, 3], [4]] := by decide
theorem small_joined : joinedB smV smE 1 3 = true := by decide
theorem small_chk1 : chkV smV smE [1] = 0 := by decide
theorem small_chk13 : chkV smV smE [1, 3] = 0 := by decide

set_option maxRecDepth 100000 in
set_option maxHeartbeats 1000000 in
theorem small_any (w : World) : Calls Tryz.prog 32 #[] w fun e w' => ∃ sv se, e = .returned (netV sv se) ∧ RI w' w'.heap.size sv smV ∧ RE w' w'.heap.size se smE ∧ Below w.heap.size w w' := by
  go_enter Tryz.func32, Tryz.ntmps32
  go_wp2
  have k0 : Blk (((w.alloc (.cells #[.slice (some ⟨w.heap.size + 1, 0, none⟩) 4 4, .slice (some ⟨w.heap.size + 1 + 1, 0, none⟩) 3 3] 25)).alloc (.cells #[.int .i64 1, .int .i64 2, .int .i64 3, .int .i64 4] 3)).alloc (.cells #[.int .i64 1, .int .i64 1, .int .i64 2, .int .i64 5, .int .i64 2, .int .i64 2, .int .i64 3, .int .i64 4, .int .i64 3, .int .i64 1, .int .i64 3, .int .i64 4] 47)) w.heap.size 25 #[.slice (some ⟨w.heap.size + 1, 0, none⟩) 4 4, .slice (some ⟨w.heap.size + 1 + 1, 0, none⟩) 3 3] := ((Blk.new w 25 _).alloc _).alloc _
  have k1 := Blk.alloc (Blk.new (w.alloc (.cells #[.slice (some ⟨w.heap.size + 1, 0, none⟩) 4 4, .slice (some ⟨w.heap.size + 1 + 1, 0, none⟩) 3 3] 25)) 3 #[.int .i64 1, .int .i64 2, .int .i64 3, .int .i64 4]) (.cells #[.int .i64 1, .int .i64 1, .int .i64 2, .int .i64 5, .int .i64 2, .int .i64 2, .int .i64 3, .int .i64 4, .int .i64 3, .int .i64 1, .int .i64 3, .int .i64 4] 47)
  have k2 := Blk.new ((w.alloc (.cells #[.slice (some ⟨w.heap.size + 1, 0, none⟩) 4 4, .slice (some ⟨w.heap.size + 1 + 1, 0, none⟩) 3 3] 25)).alloc (.cells #[.int .i64 1, .int .i64 2, .int .i64 3, .int .i64 4] 3)) 47 #[.int .i64 1, .int .i64 1, .int .i64 2, .int .i64 5, .int .i64 2, .int .i64 2, .int .i64 3, .int .i64 4, .int .i64 3, .int .i64 1, .int .i64 3, .int .i64 4]
  rw [show (w.alloc (.cells #[.slice (some ⟨w.heap.size + 1, 0, none⟩) 4 4, .slice (some ⟨w.heap.size + 1 + 1, 0, none⟩) 3 3] 25)).heap.size = w.heap.size + 1 by simp] at k1
  rw [show ((w.alloc (.cells #[.slice (some ⟨w.heap.size + 1, 0, none⟩) 4 4, .slice (some ⟨w.heap.size + 1 + 1, 0, none⟩) 3 3] 25)).alloc (.cells #[.int .i64 1, .int .i64 2, .int .i64 3, .int .i64 4] 3)).heap.size = w.heap.size + 1 + 1 by simp] at k2
  have hb : Below w.heap.size w (((w.alloc (.cells #[.slice (some ⟨w.heap.size + 1, 0, none⟩) 4 4, .slice (some ⟨w.heap.size + 1 + 1, 0, none⟩) 3 3] 25)).alloc (.cells #[.int .i64 1, .int .i64 2, .int .i64 3, .int .i64 4] 3)).alloc (.cells #[.int .i64 1, .int .i64 1, .int .i64 2, .int .i64 5, .int .i64 2, .int .i64 2, .int .i64 3, .int .i64 4, .int .i64 3, .int .i64 1, .int .i64 3, .int .i64 4] 47)) := (((Below.refl _ _).alloc (Nat.le_refl _) _).alloc (by simp) _).alloc (by simp; omega) _
  generalize (((w.alloc (.cells #[.slice (some ⟨w.heap.size + 1, 0, none⟩) 4 4, .slice (some ⟨w.heap.size + 1 + 1, 0, none⟩) 3 3] 25)).alloc (.cells #[.int .i64 1, .int .i64 2, .int .i64 3, .int .i64 4] 3)).alloc (.cells #[.int .i64 1, .int .i64 1, .int .i64 2, .int .i64 5, .int .i64 2, .int .i64 2, .int .i64 3, .int .i64 4, .int .i64 3, .int .i64 1, .int .i64 3, .int .i64 4] 47)) = W at k0 k1 k2 hb ⊢
  have c0 := k0.cell 0
  have c1 := k0.cell 1
  refine ret_cell1 (p := 0) (v := netV (.slice (some ⟨w.heap.size + 1, 0, none⟩) 4 4) (.slice (some ⟨w.heap.size + 1 + 1, 0, none⟩) 3 3)) rfl rfl (by go_simp) rfl ⟨_, _, rfl, ?_, ?_, hb⟩
  · exact RK.of_blk (xs := smV) encI_len k1 rfl (by decide) (by decide) (by decide) k1.lt
  · exact RK.of_blk (xs := smE) encE_len k2 rfl (by decide) (by decide) (by decide) k2.lt
end Go.Proofs.YtcdockoflkmkmaaGreat
