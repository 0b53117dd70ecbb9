/-
  The walks of plain's at, isVert, rightEdges, Check, checkVerts, told.
-/
import Derived.Test.YtghacfhpafbdmaaGreatG6
import Derived.Test.YtghacfhpafbdmaaGreatShelf
namespace Go.Proofs.YtghacfhpafbdmaaGreat
open Go.RowKit
set_option linter.unusedVariables false

theorem bsearch_any (v : Value) (V : List Int) (x : Int) (w : World) (B : Nat) (hv : RI w B v V) (hs : V.Pairwise (· < ·)) :
    Calls Tryz.prog 82 #[v, .int .i64 x] w fun e w' => e = .returned (.tuple #[.int .i64 (pl V x), .bool (V.contains x)]) ∧ ∃ q, w' = w.drewN q := by
  obtain ⟨A, c, rfl, hc1, hc2, hc3, HC⟩ := hv.open_
  rcases Nat.eq_zero_or_pos V.length with h0 | h0
  · have hV : V = [] := List.eq_nil_of_length_eq_zero h0
    subst hV
    refine (Go.Proofs.Tryz.slices_BinarySearch_int_empty A c x w).mono ?_
    rintro e w' ⟨rfl, rfl⟩
    exact ⟨rfl, 0, rfl⟩
  · obtain ⟨b, off, rfl, hb, _⟩ := HC.out 0 h0
    have hcell : ∀ j, j < V.length → w.cell? ⟨b, off + j, none⟩ = some (.int .i64 (V.getD j 0)) := by
      intro j hj
      obtain ⟨b', off', he, _, hx⟩ := HC.out j hj
      simp only [Option.some.injEq, Addr.mk.injEq, and_true] at he
      obtain ⟨rfl, rfl⟩ := he
      have := cellI hx
      rw [this]; simp [List.getD, hj]
    have hle : (V.take V.length).Pairwise (· ≤ ·) := by
      rw [List.take_length]
      exact hs.imp (fun h => by omega)
    refine (Go.Proofs.Tryz.slices_BinarySearch_int b off V.length c V x w (Nat.le_refl _) (by omega) hcell hle).mono ?_
    rintro e w' ⟨rfl, q, rfl⟩
    rw [List.take_length]
    exact ⟨rfl, q, rfl⟩

theorem at_any (sv se : Value) (V : List Int) (x : Int) (w : World) (B : Nat) (hv : RI w B sv V) (hB : B ≤ w.heap.size) (hs : V.Pairwise (· < ·)) :
    Calls Tryz.prog 43 #[netV sv se, .int .i64 x] w fun e w' => e = .returned (.int .i64 (pl V x)) ∧ Below w.heap.size w w' := by
  have HS := Lib.hid hs
  clear hs
  have HV := Lib.hid (hv.alloc hB (.cells #[sv, se] 25))
  have hsz : True := trivial
  clear hv
  go_enter Tryz.func43, Tryz.ntmps43
  go_wp2_with (go_at_call 82; refine (bsearch_any _ V _ _ B HV.out HS.out).mono ?_; rintro e w' ⟨rfl, q, rfl⟩)
  go_ret
  exact ⟨rfl, ((Below.refl _ _).alloc (Nat.le_refl _) _).trans (by exact ⟨rfl, rfl, rfl, Nat.le_refl _, fun _ _ => rfl⟩)⟩

theorem isVert_any (sv se : Value) (V : List Int) (x : Int) (w : World) (B : Nat) (hv : RI w B sv V) (hB : B ≤ w.heap.size) (hs : V.Pairwise (· < ·)) :
    Calls Tryz.prog 79 #[netV sv se, .int .i64 x] w fun e w' => e = .returned (.bool (V.contains x)) ∧ Below w.heap.size w w' := by
  have HS := Lib.hid hs
  clear hs
  have HV := Lib.hid (hv.alloc hB (.cells #[sv, se] 25))
  clear hv
  obtain ⟨r, hr⟩ : ∃ r, r = V.contains x := ⟨_, rfl⟩
  rw [← hr]
  have HR := Lib.hid hr
  clear hr
  go_enter Tryz.func79, Tryz.ntmps79
  go_wp2_with (go_at_call 82; refine (bsearch_any _ V _ _ B HV.out HS.out).mono ?_; rw [← HR.out]; rintro e w' ⟨rfl, q, rfl⟩)
  go_ret
  exact ⟨rfl, ((Below.refl _ _).alloc (Nat.le_refl _) _).trans (by exact ⟨rfl, rfl, rfl, Nat.le_refl _, fun _ _ => rfl⟩)⟩
end Go.Proofs.YtghacfhpafbdmaaGreat
