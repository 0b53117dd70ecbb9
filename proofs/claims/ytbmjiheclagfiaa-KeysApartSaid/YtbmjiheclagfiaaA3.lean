/-
  The walk of skeinlaw04.alive.
-/
import Derived.Test.YtbmjiheclagfiaaA2
import Derived.Test.YtbmjiheclagfiaaK8
namespace Go.Proofs.Ytbmjiheclagfiaa
open Go.RowKit
set_option linter.unusedVariables false

def ab : ByteArray := ⟨#[97, 98]⟩
theorem xe1 : elemR false 7 = ([1, 0, 0, 0, 7], 0) := by decide +kernel
theorem xe2 : propR true 1 ⟨#[97, 98]⟩ = ([3, 1, 0, 0, 0, 1, 97, 98], 0) := by decide +kernel
theorem xe3 : versR [97] 5 = ([97, 0, 0, 127, 255, 255, 255, 255, 255, 255, 251], 0) := by decide +kernel
theorem xe4 : splitR [97, 0, 0, 127, 255, 255, 255, 255, 255, 255, 251] = ([97], 5, 0) := by decide +kernel
theorem xe7 : parseL [3, 1, 0, 0, 0, 1, 97, 98] = some (true, 1, ⟨#[97, 98]⟩) := by decide +kernel
theorem xe8 : nameB ⟨#[97, 98]⟩ = true := by decide +kernel
theorem xe9 : strOf [97] = ⟨#[97]⟩ := by decide +kernel

/-- v reads as l, in whatever world comes after w. -/
def RW (w : World) (v : Value) (l : List Nat) : Prop := RB w w.heap.size v l
theorem RW.next {w w' : World} {v : Value} {l : List Nat} (h : RW w v l) (hb : Below w.heap.size w w') : RW w' v l := RBn h hb
theorem OB.rw {w : World} {B : Nat} {v : Value} {l : List Nat} (h : OB w B v l) : RW w v l := h.rb (Nat.le_refl _)
/-- A block's first cells. -/
def Box (w : World) (g : Nat) (vs : List Value) : Prop := g < w.heap.size ∧ ∀ i v, vs[i]? = some v → w.cell? ⟨g, i, none⟩ = some v
theorem Box.next {w w' : World} {g : Nat} {vs : List Value} (h : Box w g vs) (hb : Below w.heap.size w w') : Box w' g vs :=
  ⟨Nat.lt_of_lt_of_le h.1 hb.size, fun i v hv => (hb.cell (p := ⟨g, i, none⟩) h.1).trans (h.2 i v hv)⟩
theorem Box.at {w : World} {g : Nat} {vs : List Value} (h : Box w g vs) (i : Nat) (v : Value) (hv : vs[i]? = some v) : w.cell? ⟨g, i, none⟩ = some v := h.2 i v hv
theorem Box.new (w : World) (cs : Array Value) (t : TypeId) : Box (w.alloc (.cells cs t)) w.heap.size cs.toList := by
  refine ⟨by simp, fun i v hv => ?_⟩
  rw [cell_of_row _ w.heap.size i cs t (0, 0) (heap_alloc_new w _)]
  simpa using hv

set_option maxRecDepth 100000 in
set_option maxHeartbeats 4000000 in
theorem alive4 (w : World) : Calls Try.prog 11 #[] w fun e w' => e = .returned (.bool true) ∧ Below w.heap.size w w' := by
  go_enter Try.func11, Try.ntmps11
  go_wp2_with fail
  refine (elem_any false 7 _).mono ?_
  unfold Bytes2
  rw [xe1]
  rintro e w1 ⟨va, rfl, ho, hb⟩
  have HB : Hid (Below w.heap.size w w1) := hb
  have HA := Lib.hid ho.rw
  clear ho hb
  go_wp2_with fail
  refine (prop_any true 1 ⟨#[97, 98]⟩ _ (by decide)).mono ?_
  unfold Bytes2
  rw [xe2]
  rintro e w2 ⟨vb, rfl, ho, hb⟩
  have HA2 := Lib.hid (HA.out.next hb)
  have HBv := Lib.hid ho.rw
  have HB2 : Hid (Below w.heap.size w w2) := HB.out.trans (hb.mono HB.out.size)
  clear ho hb HA HB
  go_wp2_with fail
  refine (version_any _ [97] 5 _ (by exact RB.lit _ _ _ _ [97] 1 _ rfl (by simp [bcell]) (by simp) rfl (by simp)) (by simp)).mono ?_
  unfold Bytes2
  rw [xe3]
  rintro e w3 ⟨vc, rfl, ho, hb⟩
  have hb' : Below w2.heap.size w2 w3 := ((Below.refl _ _).alloc (Nat.le_refl _) _).trans (hb.mono (by simp))
  have HA3 := Lib.hid (HA2.out.next hb')
  have HBv3 := Lib.hid (HBv.out.next hb')
  have HC3 := Lib.hid ho.rw
  have HB3 : Hid (Below w.heap.size w w3) := HB2.out.trans (hb'.mono HB2.out.size)
  clear ho hb hb' HA2 HBv HB2
  go_wp2_with fail
  refine (split_any _ _ _ HC3.out (by simp)).mono ?_
  unfold Bytes3
  rw [xe4]
  rintro e w4 ⟨vk, rfl, ho, hb⟩
  have HA4 := Lib.hid (HA3.out.next hb)
  have HBv4 := Lib.hid (HBv3.out.next hb)
  have HC4 := Lib.hid (HC3.out.next hb)
  have HK4 := Lib.hid ho.rw
  have HB4 : Hid (Below w.heap.size w w4) := HB3.out.trans (hb.mono HB3.out.size)
  clear ho hb HA3 HBv3 HC3 HB3
  go_wp2_with fail
  refine (PutValue31 _).mono ?_
  rintro e w5 ⟨vv, rfl, ho, hb⟩
  have HA5 := Lib.hid (HA4.out.next hb)
  have HBv5 := Lib.hid (HBv4.out.next hb)
  have HC5 := Lib.hid (HC4.out.next hb)
  have HK5 := Lib.hid (HK4.out.next hb)
  have HV5 := Lib.hid ho.rw
  have HB5 : Hid (Below w.heap.size w w5) := HB4.out.trans (hb.mono HB4.out.size)
  clear ho hb HA4 HBv4 HC4 HK4 HB4
  go_wp2_with fail
  refine (GetValue31 _ _ _ _ (by exact RB.lit _ _ _ _ [2, 6, 2] 3 _ rfl (by simp [bcell]) (by simp) rfl (by simp)) (by simp) (by simp)).mono ?_
  rintro e w6 ⟨rfl, hb⟩
  unfold val31
  have hb' : Below w5.heap.size w5 w6 := ((Below.refl _ _).alloc (Nat.le_refl _) _).trans (hb.mono (by simp))
  have HA6 := Lib.hid (HA5.out.next hb')
  have HBv6 := Lib.hid (HBv5.out.next hb')
  have HC6 := Lib.hid (HC5.out.next hb')
  have HK6 := Lib.hid (HK5.out.next hb')
  have HV6 := Lib.hid (HV5.out.next hb')
  have HB6 : Hid (Below w.heap.size w w6) := HB5.out.trans (hb'.mono HB5.out.size)
  clear hb hb' HA5 HBv5 HC5 HK5 HV5 HB5
  go_wp2_with fail
  have hv6 := (Below.refl w6.heap.size w6).alloc (Nat.le_refl _) (.cells #[Value.int IntKind.i64 2, Value.int IntKind.i64 0, Value.complex FloatKind.f64 4613937818241073152 4607182418800017408, Value.slice none 0 0] 61)
  have X6 : Hid (Box (w6.alloc (.cells #[Value.int IntKind.i64 2, Value.int IntKind.i64 0, Value.complex FloatKind.f64 4613937818241073152 4607182418800017408, Value.slice none 0 0] 61)) w6.heap.size #[Value.int IntKind.i64 2, Value.int IntKind.i64 0, Value.complex FloatKind.f64 4613937818241073152 4607182418800017408, Value.slice none 0 0].toList) := Box.new _ _ _
  refine (parse_any _ _ _ (by exact HBv6.out.next hv6)).mono ?_
  unfold ParseQ
  rw [xe7]
  unfold parsedV refV
  rintro e w7 ⟨rfl, hb⟩
  have X7 := Lib.hid (X6.out.next hb)
  have hb' : Below w6.heap.size w6 w7 := hv6.trans (hb.mono (by simp))
  have HA7 := Lib.hid (HA6.out.next hb')
  have HBv7 := Lib.hid (HBv6.out.next hb')
  have HC7 := Lib.hid (HC6.out.next hb')
  have HK7 := Lib.hid (HK6.out.next hb')
  have HV7 := Lib.hid (HV6.out.next hb')
  have HB7 : Hid (Below w.heap.size w w7) := HB6.out.trans (hb'.mono HB6.out.size)
  clear hb hb' hv6 X6 HA6 HBv6 HC6 HK6 HV6 HB6
  go_wp2_with fail
  have hv7 := (Below.refl w7.heap.size w7).alloc (Nat.le_refl _) (.cells #[Value.bool true, Value.int IntKind.i64 1] 29)
  have Y7 : Hid (Box (w7.alloc (.cells #[Value.bool true, Value.int IntKind.i64 1] 29)) w7.heap.size #[Value.bool true, Value.int IntKind.i64 1].toList) := Box.new _ _ _
  refine (PutEnds12 _).mono ?_
  rintro e w8 ⟨vp, rfl, ho, hb⟩
  have Y8 := Lib.hid (Y7.out.next hb)
  have hb' : Below w7.heap.size w7 w8 := hv7.trans (hb.mono (by simp))
  have X8 := Lib.hid (X7.out.next hb')
  have HA8 := Lib.hid (HA7.out.next hb')
  have HBv8 := Lib.hid (HBv7.out.next hb')
  have HC8 := Lib.hid (HC7.out.next hb')
  have HK8 := Lib.hid (HK7.out.next hb')
  have HV8 := Lib.hid (HV7.out.next hb')
  have HP8 := Lib.hid ho.rw
  have HB8 : Hid (Below w.heap.size w w8) := HB7.out.trans (hb'.mono HB7.out.size)
  clear ho hb hb' hv7 Y7 X7 HA7 HBv7 HC7 HK7 HV7 HB7
  go_wp2_with fail
  refine (GetEnds12 _ _ _ _ (by exact RB.lit _ _ _ _ [1, 2, 172, 2] 4 _ rfl (by simp [bcell]) (by simp) rfl (by simp))).mono ?_
  rintro e w9 ⟨rfl, hb⟩
  have hb' : Below w8.heap.size w8 w9 := ((Below.refl _ _).alloc (Nat.le_refl _) _).trans (hb.mono (by simp))
  have hv9 := (Below.refl w9.heap.size w9).alloc (Nat.le_refl _) (.cells #[Value.int IntKind.i64 9, Value.int IntKind.i64 1, Value.int IntKind.i64 2, Value.int IntKind.i64 300] 66)
  obtain ⟨W, hW⟩ : ∃ W, W = w9.alloc (.cells #[Value.int IntKind.i64 9, Value.int IntKind.i64 1, Value.int IntKind.i64 2, Value.int IntKind.i64 300] 66) := ⟨_, rfl⟩
  have hbW : Below w8.heap.size w8 W := by rw [hW]; exact hb'.trans (hv9.mono hb'.size)
  have Z : Hid (Box W w9.heap.size #[Value.int IntKind.i64 9, Value.int IntKind.i64 1, Value.int IntKind.i64 2, Value.int IntKind.i64 300].toList) := by rw [hW]; exact Box.new _ _ _
  have Y := Lib.hid (Y8.out.next hbW)
  have X := Lib.hid (X8.out.next hbW)
  have HA := Lib.hid (HA8.out.next hbW)
  have HBv := Lib.hid (HBv8.out.next hbW)
  have HC := Lib.hid (HC8.out.next hbW)
  have HK := Lib.hid (HK8.out.next hbW)
  have HV := Lib.hid (HV8.out.next hbW)
  have HP := Lib.hid (HP8.out.next hbW)
  have HB : Hid (Below w.heap.size w W) := HB8.out.trans (hbW.mono HB8.out.size)
  have HW := Lib.hid hW
  have y0 := Y.out.at 0 (.bool true) rfl
  have y1 := Y.out.at 1 (.int .i64 1) rfl
  clear hb hb' hbW hv9 hW Y8 X8 HA8 HBv8 HC8 HK8 HV8 HP8 HB8
  go_upto_region 10 with (fail)
  rw [← HW.out]
  clear HW
  obtain ⟨Ac, cc, hvc, _, _, _, HCA⟩ := HC.out.open_
  obtain ⟨bc, oc, rfl, _, hc10, _⟩ := HCA.out 10 (by simp)
  have hc10' : W.cell? ⟨bc, oc + 10, none⟩ = some (.int .u8 251) := hc10
  obtain ⟨Ap, cp, hvp, _, _, _, _⟩ := HP.out.open_
  simp only [List.length_cons, List.length_nil, Nat.zero_add, Nat.reduceAdd] at hvc hvp
  subst hvc hvp
  have x0 := X.out.at 0 (.int .i64 2) rfl
  have x1 := X.out.at 1 (.int .i64 0) rfl
  have x2 := X.out.at 2 (.complex .f64 4613937818241073152 4607182418800017408) rfl
  have x3 := X.out.at 3 (.slice none 0 0) rfl
  have z0 := Z.out.at 0 (.int .i64 9) rfl
  have z1 := Z.out.at 1 (.int .i64 1) rfl
  have z2 := Z.out.at 2 (.int .i64 2) rfl
  have z3 := Z.out.at 3 (.int .i64 300) rfl
  have hg6 : w6.heap.size < W.heap.size := X.out.1
  have hg9 : w9.heap.size < W.heap.size := Z.out.1
  have o33 : FloatKind.f64.format.order 4613937818241073152 4613937818241073152 = some .eq := by kernel_rfl
  have o11 : FloatKind.f64.format.order 4607182418800017408 4607182418800017408 = some .eq := by kernel_rfl
  clear hc10
  go_wp2_with fail
  refine (same_yes _ _ [1, 0, 0, 0, 7] _ (W.heap.size + 1) (by exact (HA.out.alloc (Nat.le_refl _) _).more (by simp)) (by exact (RB.lit W _ _ _ [1, 0, 0, 0, 7] 5 _ rfl (by simp [bcell]) (by simp) rfl (by simp)).more (by simp))).mono ?_
  rintro e q1 ⟨rfl, n1, rfl⟩
  have b2 : Hid (∀ o1 o2, Below W.heap.size W (((W.alloc o1).drewN n1).alloc o2)) := fun o1 o2 => (below_drewN ((Below.refl _ W).alloc (Nat.le_refl _) o1) n1).alloc (by simp) o2
  have hcv0 : Hid (∀ W', Below W.heap.size W W' → (convert 22 9 vk).run Try.prog W' = .ok (.string ⟨#[97]⟩) W') := fun W' h => by have := run_b2s W' _ vk [97] (HK.out.next h); rwa [xe9] at this
  have hcv : ∀ o1 o2 n2, (convert 22 9 vk).run Try.prog ((((W.alloc o1).drewN n1).alloc o2).drewN n2) = .ok (.string ⟨#[97]⟩) ((((W.alloc o1).drewN n1).alloc o2).drewN n2) := fun o1 o2 n2 => hcv0.out _ (below_drewN (b2.out o1 o2) n2)
  go_wp2_with fail
  refine (same_yes _ _ [3, 1, 0, 0, 0, 1, 97, 98] _ _ (by exact HBv.out.next (b2.out _ _)) (by exact RB.lit _ _ _ _ [3, 1, 0, 0, 0, 1, 97, 98] 8 _ (by simp) (by simp [bcell]) (by simp) rfl (by simp))).mono ?_
  rintro e q2 ⟨rfl, n2, rfl⟩
  have b3 : Hid (∀ o1 o2 o3, Below W.heap.size W (((((W.alloc o1).drewN n1).alloc o2).drewN n2).alloc o3)) := fun o1 o2 o3 => (below_drewN (b2.out o1 o2) n2).alloc (by have := (b2.out o1 o2).size; simp at this ⊢; omega) o3
  go_wp2_with fail
  refine (same_yes _ _ [2, 6, 2] _ _ (by exact HV.out.next (b3.out _ _ _)) (by exact RB.lit _ _ _ _ [2, 6, 2] 3 _ (by simp) (by simp [bcell]) (by simp) rfl (by simp))).mono ?_
  rintro e q3 ⟨rfl, n3, rfl⟩
  have k1 : w6.heap.size < W.heap.size + 1 := by omega
  have k2 : w6.heap.size < W.heap.size + 1 + 1 := by omega
  have k3 : w9.heap.size < W.heap.size + 1 := by omega
  have k4 : w9.heap.size < W.heap.size + 1 + 1 := by omega
  have heq : ∀ W', (Op.equalIn 10000 66 (.agg #[.int .i64 9, .int .i64 1, .int .i64 2, .int .i64 300]) (.agg #[.int .i64 9, .int .i64 1, .int .i64 2, .int .i64 300])).run Try.prog W' = .ok true W' := fun W' => by kernel_rfl
  go_wp2_with fail
  refine (name_any _ _ (by decide)).mono ?_
  rw [xe8]
  rintro e q4 ⟨rfl, rfl⟩
  go_wp2_with fail
  refine (Right31 _).mono ?_
  rintro e q5 ⟨rfl, hb⟩
  have HQ : Hid (Below w.heap.size w q5) := HB.out.trans ((below_drewN (b3.out _ _ _) n3).trans (hb.mono (by have := (below_drewN (b3.out (Obj.cells #[] 0) (Obj.cells #[] 0) (Obj.cells #[] 0)) n3).size; simp at this ⊢; omega)) |>.mono HB.out.size)
  clear hb
  go_wp2
  go_ret
  exact ⟨rfl, HQ.out⟩
end Go.Proofs.Ytbmjiheclagfiaa
