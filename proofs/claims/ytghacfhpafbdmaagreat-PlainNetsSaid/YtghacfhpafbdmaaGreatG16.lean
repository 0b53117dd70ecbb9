/-
  The walk of plain's Trees: the lists as they fill.
-/
import Derived.Test.YtghacfhpafbdmaaGreatG14
import Derived.Test.YtghacfhpafbdmaaGreatG15
import Derived.Test.YtghacfhpafbdmaaGreatShelf
namespace Go.Proofs.YtghacfhpafbdmaaGreat
open Go.RowKit Go.Sort
set_option linter.unusedVariables false

/-- The vertices of set i among the first k. -/
def mem (Lb : List Nat) (V : List Int) (k i : Nat) : List Int := ((List.range k).filter fun j => lab Lb j == i).map fun j => V.getD j 0
def allL (Lb : List Nat) (V : List Int) (k : Nat) : List (List Int) := (List.range V.length).map (mem Lb V k)
def treesL (V : List Int) (E : List Ed) : List (List Int) := (allL (labs V E) V V.length).filter fun l => !l.isEmpty
theorem mem_succ (Lb : List Nat) (V : List Int) (k i : Nat) : mem Lb V (k + 1) i = if lab Lb k = i then mem Lb V k i ++ [V.getD k 0] else mem Lb V k i := by
  unfold mem
  rw [List.range_succ, List.filter_append]
  by_cases h : lab Lb k = i
  · rw [if_pos h]; simp [h]
  · rw [if_neg h]; simp [h]
theorem allL_len (Lb : List Nat) (V : List Int) (k : Nat) : (allL Lb V k).length = V.length := by simp [allL]
theorem allL_get (Lb : List Nat) (V : List Int) (k i : Nat) (h : i < V.length) : (allL Lb V k)[i]? = some (mem Lb V k i) := by simp [allL, h]
theorem allL_zero (Lb : List Nat) (V : List Int) : allL Lb V 0 = List.replicate V.length [] := by
  apply List.ext_getElem
  · simp [allL]
  · intro i h1 h2; simp [allL, mem]
theorem allL_succ (Lb : List Nat) (V : List Int) (k f : Nat) (hf : lab Lb k = f) (h : f < V.length) : (allL Lb V k).set f (mem Lb V k f ++ [V.getD k 0]) = allL Lb V (k + 1) := by
  apply List.ext_getElem?
  intro i
  by_cases hi : i < V.length
  · rw [allL_get _ _ _ _ hi, mem_succ, hf]
    by_cases hif : f = i
    · subst hif
      rw [if_pos rfl, List.getElem?_set_self (by rw [allL_len]; exact h)]
    · rw [if_neg hif, List.getElem?_set_ne hif, allL_get _ _ _ _ hi]
  · rw [List.getElem?_eq_none (by simp [allL]; omega), List.getElem?_eq_none (by simp [allL]; omega)]
theorem mem_len (Lb : List Nat) (V : List Int) (k i : Nat) : (mem Lb V k i).length ≤ k := by
  unfold mem
  rw [List.length_map]
  have := List.length_filter_le (fun j => lab Lb j == i) (List.range k)
  simpa using this

theorem run_make57 (n : Nat) (hn : n ≤ 1000000) (w : World) : (Instr.makeSlice 57 (.int .i64 (n : Int)) (.int .i64 (n : Int))).run Tryz.prog w = .ok (.slice (some ⟨w.heap.size, 0, none⟩) n n) (w.alloc (.cells (madeCells #[.slice none 0 0] n) 22)) := by
  obtain ⟨i, hi, hz0, hz1, hz2⟩ := info_parts (P := Tryz.prog) (e := 22) (z := .slice none 0 0) (size := 1) (bytes := 24) (by kernel_rfl)
  have := run_makeSlice (P := Tryz.prog) w 57 22 i _ Tryz.underlying57 hi hz0 .i64 .i64 n n (by omega) (Int.le_refl _) (by rw [hz1]; simp; omega) (by rw [hz2]; omega) (by omega)
  rw [this, hz1]
  simp [Value.cells]

/-- What stands behind the slice that Trees is filling. -/
structure Fill (w : World) (B G g : Nat) (Lb : List Nat) (V : List Int) (k : Nat) : Prop where
  sets : SB w G Lb
  grp : ∃ vs, Grp encI 1 3 w B g 22 vs (allL Lb V k)

set_option maxRecDepth 100000 in
set_option maxHeartbeats 4000000 in
theorem trees_no (sv se : Value) (V : List Int) (E : List Ed) (w : World) (B : Nat) (hv : RI w B sv V) (he : RE w B se E) (hB : B ≤ w.heap.size) (hr : rightN V E = false) :
    Calls Tryz.prog 25 #[netV sv se] w fun e w' => e = .returned (.tuple #[.slice none 0 0, .int .i64 60]) ∧ Below w.heap.size w w' := by
  have HV := Lib.hid hv
  have HE := Lib.hid he
  clear hv he
  go_enter Tryz.func25, Tryz.ntmps25
  go_wp2_with fail
  refine (check_no _ _ V E _ B (HV.out.alloc hB _) (HE.out.alloc hB _) (by simp; omega) hr).mono ?_
  rintro e w1 ⟨rfl, hb⟩
  have HB1 : Hid (Below w.heap.size w w1) := ((Below.refl _ _).alloc (Nat.le_refl _) _).trans (hb.mono (by simp))
  clear hb hr
  go_wp2_with fail
  go_ret2
  exact ⟨rfl, HB1.out⟩
end Go.Proofs.YtghacfhpafbdmaaGreat
