/-
  The walk of skeinlaw01.alive.
-/
import Derived.Test.YtaboknjokdgjeaaN8
import Derived.Lib.SlBytesConst
namespace Go.Proofs.Ytaboknjokdgjeaa
open Go.RowKit
set_option linter.unusedVariables false

theorem al1 : getA [172, 2] 0 = (300, 2, 0) := by decide +kernel
theorem al2 : getSA [5] 0 = (-3, 1, 0) := by decide +kernel
theorem al3 : getA [2, 97, 98] 0 = (2, 1, 0) := by decide +kernel
theorem al4 : textA [2, 97, 98] 0 2 = ([97, 98], 3, 0) := by decide +kernel
theorem putL_300 : putL 300 = [172, 2] := by rw [putL_more 300 (by omega), putL_last _ (by omega)]
theorem putL_5 : putL (foldN (-3)) = [5] := by rw [show foldN (-3) = 5 by decide, putL_last _ (by omega)]
theorem putL_2 : putL 2 = [2] := putL_last _ (by omega)

theorem below_drewN' {B : Nat} {w w' : World} (h : Below B w w') (n : Nat) : Below B w (w'.drewN n) := ⟨h.os, h.tape, h.output, h.size, h.block⟩

/-- A literal slice of bytes, new. -/
theorem RB.lit (w : World) (g : Nat) (cs : Array Value) (t : TypeId) (l : List Nat) (n : Nat) (fr : Nat × Nat) (hg : g = w.heap.size) (h : cs.toList = l.map bcell) (hl : ∀ x ∈ l, x < 256) (hn : n = l.length) (hlen : l.length ≤ 1000) :
    RB (w.alloc (.cells cs t fr)) (w.alloc (.cells cs t fr)).heap.size (.slice (some ⟨g, 0, none⟩) n n) l := by
  subst hn
  exact RB.newRow w _ g cs t l l.length hg h hl (by omega) (Nat.le_refl _) (by omega) (by simp; omega) fr

theorem getText_lit (v : Value) (w : World) (hv : RB w w.heap.size v [2, 97, 98]) :
    Calls Try.prog 24 #[v, .int .i64 0, .int .i64 2] w fun e w' => ∃ v', e = .returned (.tuple #[v', .int .i64 3, .int .i64 0]) ∧ OB w' w.heap.size v' [97, 98] ∧ Below w.heap.size w w' := by
  have := getText_ok v _ 0 2 w hv 2 1 al3 (by omega) (by omega)
  rw [al4] at this
  exact this

/-- Eight bytes at block g. -/
def Cells8 (w : World) (g x0 x1 x2 x3 x4 x5 x6 x7 : Nat) : Prop := w.cell? ⟨g, 0, none⟩ = some (.int .u8 (x0 : Int)) ∧ w.cell? ⟨g, 1, none⟩ = some (.int .u8 (x1 : Int)) ∧ w.cell? ⟨g, 2, none⟩ = some (.int .u8 (x2 : Int)) ∧ w.cell? ⟨g, 3, none⟩ = some (.int .u8 (x3 : Int)) ∧
  w.cell? ⟨g, 4, none⟩ = some (.int .u8 (x4 : Int)) ∧ w.cell? ⟨g, 5, none⟩ = some (.int .u8 (x5 : Int)) ∧ w.cell? ⟨g, 6, none⟩ = some (.int .u8 (x6 : Int)) ∧ w.cell? ⟨g, 7, none⟩ = some (.int .u8 (x7 : Int))
theorem Cells8.keep {w w' : World} {g x0 x1 x2 x3 x4 x5 x6 x7 B : Nat} (h : Cells8 w g x0 x1 x2 x3 x4 x5 x6 x7) (hb : Below B w w') (hg : g < B) : Cells8 w' g x0 x1 x2 x3 x4 x5 x6 x7 := by
  have c : ∀ k, w'.cell? ⟨g, k, none⟩ = w.cell? ⟨g, k, none⟩ := fun k => hb.cell (p := ⟨g, k, none⟩) hg
  unfold Cells8
  rw [c, c, c, c, c, c, c, c]
  exact h

set_option maxRecDepth 100000 in
set_option maxHeartbeats 2000000 in
theorem alive1 (w : World) : Calls Try.prog 12 #[] w fun e w' => e = .returned (.bool true) ∧ Below w.heap.size w w' := by
  have kc := fun (w : World) (C : Array Value) (n c : Nat) => Lib.run_convert_bytes_const (P := Try.prog) w 23 5 C n c Try.underlying23 Try.underlying5
  go_enter Try.func12, Try.ntmps12
  go_wp2_with fail
  refine (get_any _ [172, 2] 0 _ _ (by exact RB.lit _ _ _ _ [172, 2] 2 _ (by simp) (by simp [bcell]) (by simp) (by simp) (by simp)) 300 2 0 al1).mono ?_
  rintro e w1 ⟨rfl, rfl⟩
  go_wp2_with fail
  refine (gets_any _ [5] 0 _ _ (by exact RB.lit _ _ _ _ [5] 1 _ (by simp) (by simp [bcell]) (by simp) (by simp) (by simp)) (-3) 1 0 al2).mono ?_
  rintro e w1 ⟨rfl, rfl⟩
  go_wp2_with fail
  refine (getText_lit _ _ (by exact RB.lit _ _ _ _ [2, 97, 98] 3 _ (by simp) (by simp [bcell]) (by simp) (by simp) (by simp))).mono ?_
  rintro e w3 ⟨v3, rfl, ho3, hb3⟩
  have HB3 : Hid (Below w.heap.size w w3) := Below.trans (((Below.refl _ _).alloc (Nat.le_refl _) _).alloc (by simp) _ |>.alloc (by simp; omega) _) (hb3.mono (by simp; omega))
  have HO3 := Lib.hid (ho3.rb (B' := w3.heap.size) (Nat.le_refl _))
  clear ho3 hb3
  go_wp2_with fail
  refine (big_any (-1) w3 (by omega) (by omega) 9223372036854775807 (by show _ = _; decide)).mono ?_
  rintro e w4 ⟨rfl, o4, rfl⟩
  have hcv : ∀ o1 o2, (convert 23 9 v3).run Try.prog ((w3.alloc o1).alloc o2) = .ok (.string ⟨#[97, 98]⟩) ((w3.alloc o1).alloc o2) :=
    fun o1 o2 => run_b2s _ _ v3 [97, 98] ((HO3.out.alloc (Nat.le_refl _) _).alloc (by simp) _)
  go_wp2_with fail
  generalize hW5 : ((w3.alloc o4).alloc (Obj.cells #[Value.int IntKind.u8 127, Value.int IntKind.u8 255, Value.int IntKind.u8 255, Value.int IntKind.u8 255, Value.int IntKind.u8 255, Value.int IntKind.u8 255, Value.int IntKind.u8 255, Value.int IntKind.u8 255] 50)) = W5
  have HC5 : Hid (Cells8 W5 (w3.heap.size + 1) 127 255 255 255 255 255 255 255) := by
    rw [← hW5]
    show Cells8 _ _ _ _ _ _ _ _ _ _
    unfold Cells8
    simp
  have HB5 : Hid (Below w.heap.size w W5) := by rw [← hW5]; exact (HB3.out.alloc HB3.out.size _).alloc (by have := HB3.out.size; simp; omega) _
  have HG5 : Hid (w3.heap.size + 1 < W5.heap.size) := by rw [← hW5]; show _ < _; simp
  clear hW5 HB3 HO3 hcv
  refine (put_any 300 W5 (by show _ ≤ _; rw [putL_300]; simp)).mono ?_
  rw [putL_300]
  rintro e w6 ⟨v6, rfl, ho6, hb6⟩
  have HO6 := Lib.hid ho6
  have HB6 := Lib.hid (HB5.out.trans (hb6.mono HB5.out.size))
  have HC6 : Hid (Cells8 w6 (w3.heap.size + 1) 127 255 255 255 255 255 255 255) := HC5.out.keep hb6 HG5.out
  have HG6 : Hid (w3.heap.size + 1 < w6.heap.size) := Nat.lt_of_lt_of_le HG5.out hb6.size
  clear ho6 hb6 HC5 HB5 HG5
  go_wp2_with fail
  refine (same_yes v6 _ [172, 2] _ (w6.heap.size + 1) ((HO6.out.alloc _).rb (by simp)) (by exact RB.newRow _ _ _ _ _ [172, 2] 2 rfl (by simp [bcell]) (by simp) (by simp) (by simp) (by simp) (by omega))).mono ?_
  rintro e w7 ⟨rfl, n7, rfl⟩
  have HB7 : Hid (Below w.heap.size w _) := below_drewN' (HB6.out.alloc HB6.out.size (Obj.cells #[Value.int IntKind.u8 172, Value.int IntKind.u8 2] 5)) n7
  have HC7 : Hid (Cells8 _ (w3.heap.size + 1) 127 255 255 255 255 255 255 255) := HC6.out.keep (below_drewN' ((Below.refl w6.heap.size w6).alloc (Nat.le_refl _) (Obj.cells #[Value.int IntKind.u8 172, Value.int IntKind.u8 2] 5)) n7) HG6.out
  have HG7 : Hid (w3.heap.size + 1 < ((w6.alloc (Obj.cells #[Value.int IntKind.u8 172, Value.int IntKind.u8 2] 5)).drewN n7).heap.size) := by have := HG6.out; show _ < _; simp; omega
  clear HB6 HC6 HG6
  generalize ((w6.alloc (Obj.cells #[Value.int IntKind.u8 172, Value.int IntKind.u8 2] 5)).drewN n7) = W7 at HB7 HC7 HG7 ⊢
  go_wp2_with fail
  refine (puts_any (-3) W7 (by omega) (by omega) (by show _ ≤ _; rw [putL_5]; simp)).mono ?_
  rw [putL_5]
  rintro e w8 ⟨v8, rfl, ho8, hb8⟩
  have HO8 := Lib.hid ho8
  have HB8 := Lib.hid (HB7.out.trans (hb8.mono HB7.out.size))
  have HC8 : Hid (Cells8 w8 (w3.heap.size + 1) 127 255 255 255 255 255 255 255) := HC7.out.keep hb8 HG7.out
  have HG8 : Hid (w3.heap.size + 1 < w8.heap.size) := Nat.lt_of_lt_of_le HG7.out hb8.size
  clear ho8 hb8 HC7 HB7 HG7
  go_wp2_with fail
  refine (same_yes v8 _ [5] _ (w8.heap.size + 1) ((HO8.out.alloc _).rb (by simp)) (by exact RB.newRow _ _ _ _ _ [5] 1 rfl (by simp [bcell]) (by simp) (by simp) (by simp) (by simp) (by omega))).mono ?_
  rintro e w9 ⟨rfl, n9, rfl⟩
  have HB9 : Hid (Below w.heap.size w _) := below_drewN' (HB8.out.alloc HB8.out.size (Obj.cells #[Value.int IntKind.u8 5] 5)) n9
  have HC9 : Hid (Cells8 _ (w3.heap.size + 1) 127 255 255 255 255 255 255 255) := HC8.out.keep (below_drewN' ((Below.refl w8.heap.size w8).alloc (Nat.le_refl _) (Obj.cells #[Value.int IntKind.u8 5] 5)) n9) HG8.out
  have HG9 : Hid (w3.heap.size + 1 < ((w8.alloc (Obj.cells #[Value.int IntKind.u8 5] 5)).drewN n9).heap.size) := by have := HG8.out; show _ < _; simp; omega
  clear HB8 HC8 HG8
  generalize ((w8.alloc (Obj.cells #[Value.int IntKind.u8 5] 5)).drewN n9) = W9 at HB9 HC9 HG9 ⊢
  go_wp2_with fail
  refine (putText_any _ [97, 98] _ (by exact RB.lit _ _ _ _ [97, 98] 2 _ rfl (by simp [bcell]) (by simp) (by simp) (by simp)) (by simp)).mono ?_
  rw [show putL [97, 98].length ++ [97, 98] = [2, 97, 98] by simp [putL_2]]
  rintro e w10 ⟨v10, rfl, ho10, hb10⟩
  have HO10 := Lib.hid ho10
  have hbb : Below W9.heap.size W9 w10 := ((Below.refl _ _).alloc (Nat.le_refl _) _).trans (hb10.mono (by simp))
  have HB10 := Lib.hid (HB9.out.trans (hbb.mono HB9.out.size))
  have HC10 : Hid (Cells8 w10 (w3.heap.size + 1) 127 255 255 255 255 255 255 255) := HC9.out.keep hbb HG9.out
  have HG10 : Hid (w3.heap.size + 1 < w10.heap.size) := Nat.lt_of_lt_of_le HG9.out hbb.size
  clear ho10 hb10 hbb HC9 HB9 HG9
  go_wp2_with fail
  refine (same_yes v10 _ [2, 97, 98] _ (w10.heap.size + 1) ((HO10.out.alloc _).rb (by simp)) (by exact RB.newRow _ _ _ _ _ [2, 97, 98] 3 rfl (by simp [bcell]) (by simp) (by simp) (by simp) (by simp) (by omega))).mono ?_
  rintro e w11 ⟨rfl, n11, rfl⟩
  have HB11 : Hid (Below w.heap.size w _) := below_drewN' (HB10.out.alloc HB10.out.size (Obj.cells #[Value.int IntKind.u8 2, Value.int IntKind.u8 97, Value.int IntKind.u8 98] 5)) n11
  have HC11 : Hid (Cells8 _ (w3.heap.size + 1) 127 255 255 255 255 255 255 255) := HC10.out.keep (below_drewN' ((Below.refl w10.heap.size w10).alloc (Nat.le_refl _) (Obj.cells #[Value.int IntKind.u8 2, Value.int IntKind.u8 97, Value.int IntKind.u8 98] 5)) n11) HG10.out
  clear HB10 HC10 HG10
  generalize ((w10.alloc (Obj.cells #[Value.int IntKind.u8 2, Value.int IntKind.u8 97, Value.int IntKind.u8 98] 5)).drewN n11) = W11 at HB11 HC11 ⊢
  obtain ⟨c0, c1, c2, c3, c4, c5, c6, c7⟩ := HC11.out
  go_wp2_with fail
  refine (unbig_any 127 255 255 255 255 255 255 255 W11 (by simp)).mono ?_
  rw [show ((val [127, 255, 255, 255, 255, 255, 255, 255] : Nat) : Int) - 9223372036854775808 = -1 by decide +kernel]
  rintro e w12 ⟨rfl, o12, rfl⟩
  go_wp2
  go_ret
  exact ⟨rfl, HB11.out.alloc HB11.out.size _⟩
end Go.Proofs.Ytaboknjokdgjeaa
