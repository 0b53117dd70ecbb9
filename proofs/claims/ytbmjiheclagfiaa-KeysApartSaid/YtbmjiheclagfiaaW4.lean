/-
  The walk of skeinlaw04.KeysApart.
-/
import Derived.Test.YtbmjiheclagfiaaO3
import Derived.Test.YtbmjiheclagfiaaW3
namespace Go.Proofs.Ytbmjiheclagfiaa
open Go.RowKit
set_option linter.unusedVariables false

set_option maxRecDepth 100000 in
set_option maxHeartbeats 4000000 in
theorem keysApart_no1 (e0 : Bool) (n0 : Int) (e1 : Bool) (n1 : Int) (x y : ByteArray) (s t : Int) (w : World) (hx : x.size ≤ 140737488351232) (hy : y.size ≤ 140737488351232) (hs : (Lit.int .i64 s).wf = true) (ht : (Lit.int .i64 t).wf = true) (c : Nat) (hR : propR e0 n0 x = ([], c)) (hc : c = 1 ∨ c = 54) :
    Calls Try.prog 8 #[refV e0 n0, refV e1 n1, .string x, .string y, .int .i64 s, .int .i64 t] w fun e w' => e = .returned (.bool true) ∧ Below w.heap.size w w' := by
  have HR := Lib.hid hR
  clear hR
  clear hs ht
  have HX : Hid (x.size ≤ 140737488351232) := Lib.hid hx
  have HY : Hid (y.size ≤ 140737488351232) := Lib.hid hy
  unfold refV
  go_enter Try.func8, Try.ntmps8
  go_wp2_with fail
  have X0 : Hid (Box ((w.alloc (.cells #[Value.bool e0, Value.int IntKind.i64 n0] 29)).alloc (.cells #[Value.bool e1, Value.int IntKind.i64 n1] 29)) w.heap.size #[Value.bool e0, Value.int IntKind.i64 n0].toList) := (Box.new w _ _).next ((Below.refl _ _).alloc (Nat.le_refl _) _)
  have Y0 : Hid (Box ((w.alloc (.cells #[Value.bool e0, Value.int IntKind.i64 n0] 29)).alloc (.cells #[Value.bool e1, Value.int IntKind.i64 n1] 29)) (w.heap.size + 1) #[Value.bool e1, Value.int IntKind.i64 n1].toList) := by
    have := Box.new (w.alloc (.cells #[Value.bool e0, Value.int IntKind.i64 n0] 29)) #[Value.bool e1, Value.int IntKind.i64 n1] 29
    rwa [show (w.alloc (.cells #[Value.bool e0, Value.int IntKind.i64 n0] 29)).heap.size = w.heap.size + 1 by simp] at this
  have HB0 : Hid (Below w.heap.size w ((w.alloc (.cells #[Value.bool e0, Value.int IntKind.i64 n0] 29)).alloc (.cells #[Value.bool e1, Value.int IntKind.i64 n1] 29))) := ((Below.refl w.heap.size w).alloc (Nat.le_refl _) _).alloc (by simp) _
  refine (alive4 _).mono ?_
  rintro e w1 ⟨rfl, hb⟩
  have X1 := Lib.hid (X0.out.next hb)
  have Y1 := Lib.hid (Y0.out.next hb)
  have HB1 : Hid (Below w.heap.size w w1) := HB0.out.trans (hb.mono HB0.out.size)
  clear X0 Y0 HB0 hb
  have x0 := X1.out.at 0 (.bool e0) rfl
  have x1 := X1.out.at 1 (.int .i64 n0) rfl
  have y0 := Y1.out.at 0 (.bool e1) rfl
  have y1 := Y1.out.at 1 (.int .i64 n1) rfl
  go_wp2_with fail
  refine (prop_any e0 n0 x _ HX.out).mono ?_
  unfold Bytes2
  rintro e w2 ⟨v2, rfl, ho, hb⟩
  have HO2 := Lib.hid ho.rw
  have HB2 : Hid (Below w.heap.size w w2) := HB1.out.trans (hb.mono HB1.out.size)
  have X2 := Lib.hid (X1.out.next hb)
  have Y2 := Lib.hid (Y1.out.next hb)
  clear ho hb x0 x1 y0 y1 X1 Y1 HB1
  have x0 := X2.out.at 0 (.bool e0) rfl
  have x1 := X2.out.at 1 (.int .i64 n0) rfl
  have y0 := Y2.out.at 0 (.bool e1) rfl
  have y1 := Y2.out.at 1 (.int .i64 n1) rfl
  go_wp2_with fail
  refine (prop_any e1 n1 y _ HY.out).mono ?_
  unfold Bytes2
  rintro e w3 ⟨v3, rfl, ho, hb⟩
  have HO3 := Lib.hid ho.rw
  have HO2' := Lib.hid (RBn HO2.out hb)
  have HB3 : Hid (Below w.heap.size w w3) := HB2.out.trans (hb.mono HB2.out.size)
  have X3 := Lib.hid (X2.out.next hb)
  have Y3 := Lib.hid (Y2.out.next hb)
  clear ho hb x0 x1 y0 y1 X2 Y2 HB2 HO2
  have x0 := X3.out.at 0 (.bool e0) rfl
  have x1 := X3.out.at 1 (.int .i64 n0) rfl
  have y0 := Y3.out.at 0 (.bool e1) rfl
  have y1 := Y3.out.at 1 (.int .i64 n1) rfl
  go_wp2_with fail
  refine (elem_any e0 n0 _).mono ?_
  unfold Bytes2
  rintro e w4 ⟨v4, rfl, ho, hb⟩
  have HO4 : Hid (RB w4 w4.heap.size v4 _) := ho.rw
  have HO2 := Lib.hid (RBn HO2'.out hb)
  have HO3' := Lib.hid (RBn HO3.out hb)
  have HB4 : Hid (Below w.heap.size w w4) := HB3.out.trans (hb.mono HB3.out.size)
  have X4 := Lib.hid (X3.out.next hb)
  have Y4 := Lib.hid (Y3.out.next hb)
  clear ho hb x0 x1 y0 y1 X3 Y3 HB3 HO2' HO3
  rw [HR.out] at HO2 ⊢
  simp only [] at HO2 ⊢
  obtain ⟨A, cc, rfl, _, _, _, _⟩ := HO2.out.open_
  simp only [List.length_nil]
  clear HR
  rcases hc with rfl | rfl
  · go_wp2
    go_ret
    exact ⟨rfl, HB4.out⟩
  · go_wp2
    go_ret
    exact ⟨rfl, HB4.out⟩

set_option maxRecDepth 100000 in
set_option maxHeartbeats 4000000 in
theorem keysApart_no2 (e0 : Bool) (n0 : Int) (e1 : Bool) (n1 : Int) (x y : ByteArray) (s t : Int) (w : World) (hx : x.size ≤ 140737488351232) (hy : y.size ≤ 140737488351232) (hs : (Lit.int .i64 s).wf = true) (ht : (Lit.int .i64 t).wf = true) (L : List Nat) (hL : 0 < L.length) (hR0 : propR e0 n0 x = (L, 0)) (c : Nat) (hR : propR e1 n1 y = ([], c)) (hc : c = 1 ∨ c = 54) :
    Calls Try.prog 8 #[refV e0 n0, refV e1 n1, .string x, .string y, .int .i64 s, .int .i64 t] w fun e w' => e = .returned (.bool true) ∧ Below w.heap.size w w' := by
  have HR := Lib.hid hR
  have HR0 := Lib.hid hR0
  have hL0 : ((L.length : Int) == 0) = false := by simp; intro h; subst h; simp at hL
  clear hR hR0 hL
  clear hs ht
  have HX : Hid (x.size ≤ 140737488351232) := Lib.hid hx
  have HY : Hid (y.size ≤ 140737488351232) := Lib.hid hy
  unfold refV
  go_enter Try.func8, Try.ntmps8
  go_wp2_with fail
  have X0 : Hid (Box ((w.alloc (.cells #[Value.bool e0, Value.int IntKind.i64 n0] 29)).alloc (.cells #[Value.bool e1, Value.int IntKind.i64 n1] 29)) w.heap.size #[Value.bool e0, Value.int IntKind.i64 n0].toList) := (Box.new w _ _).next ((Below.refl _ _).alloc (Nat.le_refl _) _)
  have Y0 : Hid (Box ((w.alloc (.cells #[Value.bool e0, Value.int IntKind.i64 n0] 29)).alloc (.cells #[Value.bool e1, Value.int IntKind.i64 n1] 29)) (w.heap.size + 1) #[Value.bool e1, Value.int IntKind.i64 n1].toList) := by
    have := Box.new (w.alloc (.cells #[Value.bool e0, Value.int IntKind.i64 n0] 29)) #[Value.bool e1, Value.int IntKind.i64 n1] 29
    rwa [show (w.alloc (.cells #[Value.bool e0, Value.int IntKind.i64 n0] 29)).heap.size = w.heap.size + 1 by simp] at this
  have HB0 : Hid (Below w.heap.size w ((w.alloc (.cells #[Value.bool e0, Value.int IntKind.i64 n0] 29)).alloc (.cells #[Value.bool e1, Value.int IntKind.i64 n1] 29))) := ((Below.refl w.heap.size w).alloc (Nat.le_refl _) _).alloc (by simp) _
  refine (alive4 _).mono ?_
  rintro e w1 ⟨rfl, hb⟩
  have X1 := Lib.hid (X0.out.next hb)
  have Y1 := Lib.hid (Y0.out.next hb)
  have HB1 : Hid (Below w.heap.size w w1) := HB0.out.trans (hb.mono HB0.out.size)
  clear X0 Y0 HB0 hb
  have x0 := X1.out.at 0 (.bool e0) rfl
  have x1 := X1.out.at 1 (.int .i64 n0) rfl
  have y0 := Y1.out.at 0 (.bool e1) rfl
  have y1 := Y1.out.at 1 (.int .i64 n1) rfl
  go_wp2_with fail
  refine (prop_any e0 n0 x _ HX.out).mono ?_
  unfold Bytes2
  rintro e w2 ⟨v2, rfl, ho, hb⟩
  have HO2 := Lib.hid ho.rw
  have HB2 : Hid (Below w.heap.size w w2) := HB1.out.trans (hb.mono HB1.out.size)
  have X2 := Lib.hid (X1.out.next hb)
  have Y2 := Lib.hid (Y1.out.next hb)
  clear ho hb x0 x1 y0 y1 X1 Y1 HB1
  have x0 := X2.out.at 0 (.bool e0) rfl
  have x1 := X2.out.at 1 (.int .i64 n0) rfl
  have y0 := Y2.out.at 0 (.bool e1) rfl
  have y1 := Y2.out.at 1 (.int .i64 n1) rfl
  go_wp2_with fail
  refine (prop_any e1 n1 y _ HY.out).mono ?_
  unfold Bytes2
  rintro e w3 ⟨v3, rfl, ho, hb⟩
  have HO3 := Lib.hid ho.rw
  have HO2' := Lib.hid (RBn HO2.out hb)
  have HB3 : Hid (Below w.heap.size w w3) := HB2.out.trans (hb.mono HB2.out.size)
  have X3 := Lib.hid (X2.out.next hb)
  have Y3 := Lib.hid (Y2.out.next hb)
  clear ho hb x0 x1 y0 y1 X2 Y2 HB2 HO2
  have x0 := X3.out.at 0 (.bool e0) rfl
  have x1 := X3.out.at 1 (.int .i64 n0) rfl
  have y0 := Y3.out.at 0 (.bool e1) rfl
  have y1 := Y3.out.at 1 (.int .i64 n1) rfl
  go_wp2_with fail
  refine (elem_any e0 n0 _).mono ?_
  unfold Bytes2
  rintro e w4 ⟨v4, rfl, ho, hb⟩
  have HO4 : Hid (RB w4 w4.heap.size v4 _) := ho.rw
  have HO2 := Lib.hid (RBn HO2'.out hb)
  have HO3' := Lib.hid (RBn HO3.out hb)
  have HB4 : Hid (Below w.heap.size w w4) := HB3.out.trans (hb.mono HB3.out.size)
  have X4 := Lib.hid (X3.out.next hb)
  have Y4 := Lib.hid (Y3.out.next hb)
  clear ho hb x0 x1 y0 y1 X3 Y3 HB3 HO2' HO3
  rw [HR0.out] at HO2 ⊢
  rw [HR.out] at HO3' ⊢
  simp only [] at HO2 HO3' ⊢
  obtain ⟨A, cc, rfl, _, _, _, _⟩ := HO2.out.open_
  obtain ⟨A', cc', rfl, _, _, _, _⟩ := HO3'.out.open_
  simp only [List.length_nil]
  clear HR HR0
  rcases hc with rfl | rfl
  · go_wp2
    go_ret
    exact ⟨rfl, HB4.out⟩
  · go_wp2
    go_ret
    exact ⟨rfl, HB4.out⟩

end Go.Proofs.Ytbmjiheclagfiaa
