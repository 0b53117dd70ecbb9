/-
  The walk of skeinlaw04.KeysNames.
-/
import Derived.Test.YtbmjiheclagfiaaW1
namespace Go.Proofs.Ytbmjiheclagfiaa
open Go.RowKit
set_option linter.unusedVariables false

theorem run_eqRef (W : World) (d : Nat) (a b : Bool) (m n : Int) : (Op.equalIn (d + 2) 29 (.agg #[.bool a, .int .i64 m]) (.agg #[.bool b, .int .i64 n])).run Try.prog W = .ok (a == b && m == n) W := by
  have h0 := fun (x y : Int) (w : World) => run_equalIn_int (P := Try.prog) w d 3 .i64 .i64 x y Try.underlying3
  have h1 := fun (x y : Bool) (w : World) => run_equalIn_bool (P := Try.prog) w d 4 x y Try.underlying4
  rw [Op.equalIn]
  simp only [run_underlying Try.underlying29, Sem.run_bind, Result.andThen_ok]
  simp [go_sem, h0, h1]
  by_cases e0 : a = b <;> by_cases e1 : m = n <;> simp [e0, e1]

theorem elemR_le (e : Bool) (n : Int) : (elemR e n).1.length ≤ 140737488355200 := by
  unfold elemR
  split
  · simp [elemL, idL]
  · simp
theorem propR_le (e : Bool) (n : Int) (s : ByteArray) : (propR e n s).1.length ≤ 140737488355200 := by
  unfold propR
  split
  · split
    · rename_i h
      have h2 : s.size ≤ 16 := by unfold nameB at h; simp at h; omega
      simp [propL, idL, strL_length]
      omega
    · simp
  · simp

theorem parsedV_form (r : Option (Bool × Nat × ByteArray)) : ∃ (e : Bool) (n : Nat) (s : ByteArray) (k : Bool), parsedV r = .tuple #[.agg #[.bool e, .int .i64 (n : Int)], .string s, .bool k] := by
  cases r with
  | none => exact ⟨false, 0, ByteArray.empty, false, rfl⟩
  | some x => exact ⟨x.1, x.2.1, x.2.2, true, rfl⟩

set_option maxRecDepth 100000 in
set_option maxHeartbeats 4000000 in
theorem keysNames_walk (e0 : Bool) (n : Int) (s : ByteArray) (v : Value) (l : List Nat) (w : World) (hs : s.size ≤ 140737488351232) (hv : RB w w.heap.size v l) (hl : l.length ≤ 140737488351232) :
    Calls Try.prog 5 #[refV e0 n, .string s, v] w fun e w' => e = .returned (.bool true) ∧ Below w.heap.size w w' := by
  have HL : Hid (l.length ≤ 140737488351232) := Lib.hid hl
  clear hl
  have HS := Lib.hid hv
  obtain ⟨A, c, rfl, ha1, ha2, ha3, _⟩ := hv.open_
  clear hv
  unfold refV
  go_enter Try.func5, Try.ntmps5
  go_wp2_with fail
  have X0 : Hid (Box (w.alloc (.cells #[Value.bool e0, Value.int IntKind.i64 n] 29)) w.heap.size #[Value.bool e0, Value.int IntKind.i64 n].toList) := Box.new _ _ _
  have HB0 : Hid (Below w.heap.size w (w.alloc (.cells #[Value.bool e0, Value.int IntKind.i64 n] 29))) := (Below.refl w.heap.size w).alloc (Nat.le_refl _) _
  refine (alive4 _).mono ?_
  rintro e w1 ⟨rfl, hb1⟩
  have X1 := Lib.hid (X0.out.next hb1)
  have HB1 : Hid (Below w.heap.size w w1) := HB0.out.trans (hb1.mono HB0.out.size)
  have x0 := X1.out.at 0 (.bool e0) rfl
  have x1 := X1.out.at 1 (.int .i64 n) rfl
  clear X0 HB0 hb1
  go_wp2_with fail
  refine (elem_any e0 n _).mono ?_
  unfold Bytes2
  rintro e w2 ⟨v2, rfl, ho, hb⟩
  have HO2 := Lib.hid ho
  have HB2 := Lib.hid hb
  have X2 := Lib.hid (X1.out.next hb)
  clear ho hb x0 x1
  have x0 := X2.out.at 0 (.bool e0) rfl
  have x1 := X2.out.at 1 (.int .i64 n) rfl
  go_wp2_with fail
  refine (elem_any e0 n _).mono ?_
  unfold Bytes2
  rintro e w3 ⟨v3, rfl, ho, hb⟩
  have HO3 := Lib.hid ho
  have HB3 := Lib.hid hb
  have X3 := Lib.hid (X2.out.next hb)
  clear ho hb x0 x1
  have x0 := X3.out.at 0 (.bool e0) rfl
  have x1 := X3.out.at 1 (.int .i64 n) rfl
  go_wp2_with fail
  refine (relem_any e0 n _).mono ?_
  unfold Bytes2
  rintro e w4 ⟨v4, rfl, ho, hb⟩
  have HO4 := Lib.hid ho
  have HB4 := Lib.hid hb
  have X4 := Lib.hid (X3.out.next hb)
  clear ho hb x0 x1
  have x0 := X4.out.at 0 (.bool e0) rfl
  have x1 := X4.out.at 1 (.int .i64 n) rfl
  go_wp2_with fail
  refine (prop_any e0 n s _ hs).mono ?_
  unfold Bytes2
  rintro e w5 ⟨v5, rfl, ho, hb⟩
  have HO5 := Lib.hid ho
  have HB5 := Lib.hid hb
  have X5 := Lib.hid (X4.out.next hb)
  clear ho hb x0 x1
  have x0 := X5.out.at 0 (.bool e0) rfl
  have x1 := X5.out.at 1 (.int .i64 n) rfl
  go_wp2_with fail
  refine (prop_any e0 n s _ hs).mono ?_
  unfold Bytes2
  rintro e w6 ⟨v6, rfl, ho, hb⟩
  have HO6 := Lib.hid ho
  have HB6 := Lib.hid hb
  have X6 := Lib.hid (X5.out.next hb)
  clear ho hb x0 x1
  have x0 := X6.out.at 0 (.bool e0) rfl
  have x1 := X6.out.at 1 (.int .i64 n) rfl
  go_wp2_with fail
  refine (rprop_any e0 n s _ hs).mono ?_
  unfold Bytes2
  rintro e w7 ⟨v7, rfl, ho, hb⟩
  have HO7 := Lib.hid ho
  have HB7 := Lib.hid hb
  have X7 := Lib.hid (X6.out.next hb)
  clear ho hb x0 x1
  have x0 := X7.out.at 0 (.bool e0) rfl
  have x1 := X7.out.at 1 (.int .i64 n) rfl
  go_wp2_with fail
  clear x0 x1 X1 X2 X3 X4 X5 X6 X7
  have HB47 : Hid (Below w4.heap.size w4 w7) := (HB5.out.trans (HB6.out.mono HB5.out.size)).trans (HB7.out.mono (Nat.le_trans HB5.out.size HB6.out.size))
  have HO2' : Hid (OB w4 w1.heap.size v2 (elemR e0 n).1) := (HO2.out.below HB3.out).below HB4.out
  have HO3' : Hid (OB w4 w1.heap.size v3 (elemR e0 n).1) := (HO3.out.base HB2.out.size).below HB4.out
  have HO4' : Hid (OB w4 w1.heap.size v4 (elemR e0 n).1) := HO4.out.base (Nat.le_trans HB2.out.size HB3.out.size)
  have HBt : Hid (Below w.heap.size w w7) := ((HB1.out.trans (HB2.out.mono HB1.out.size)).trans ((HB3.out.trans (HB4.out.mono HB3.out.size)).mono (Nat.le_trans HB1.out.size HB2.out.size))).trans (HB47.out.mono (Nat.le_trans HB1.out.size (Nat.le_trans HB2.out.size (Nat.le_trans HB3.out.size HB4.out.size))))
  refine (apart_yes _ _ _ _ w7 w1.heap.size (HO2'.out.below HB47.out) (HO3'.out.below HB47.out) (HO4'.out.below HB47.out) (HO2.out.apart HO3.out (Nat.le_refl _)) (HO2.out.apart HO4.out HB3.out.size) (elemR_le e0 n) (Nat.le_trans HB2.out.size (Nat.le_trans HB3.out.size (Nat.le_trans HB4.out.size HB47.out.size)))).mono ?_
  rintro e w8 ⟨rfl, hg8⟩
  have s24 : w2.heap.size ≤ w4.heap.size := Nat.le_trans HB3.out.size HB4.out.size
  have HB8 : Hid (Below w.heap.size w w8) := HBt.out.grown hg8 HBt.out.size (fun k hk => Nat.le_trans HB1.out.size (HO2.out.lt k hk).1)
  have P5 : Hid (OB w8 w4.heap.size v5 (propR e0 n s).1) := ((HO5.out.below HB6.out).below HB7.out).kept hg8 (HO2.out.apart HO5.out s24)
  have P6 : Hid (OB w8 w4.heap.size v6 (propR e0 n s).1) := ((HO6.out.base HB5.out.size).below HB7.out).kept hg8 (HO2.out.apart HO6.out (Nat.le_trans s24 HB5.out.size))
  have P7 : Hid (OB w8 w4.heap.size v7 (propR e0 n s).1) := (HO7.out.base (Nat.le_trans HB5.out.size HB6.out.size)).kept hg8 (HO2.out.apart HO7.out (Nat.le_trans s24 (Nat.le_trans HB5.out.size HB6.out.size)))
  have A6 := Lib.hid (HO5.out.apart HO6.out (Nat.le_refl _))
  have A7 := Lib.hid (HO5.out.apart HO7.out HB6.out.size)
  have S8 : Hid (w.heap.size ≤ w4.heap.size ∧ w4.heap.size ≤ w8.heap.size) := ⟨Nat.le_trans HB1.out.size (Nat.le_trans HB2.out.size s24), Nat.le_trans HB47.out.size hg8.size⟩
  have HS8 := Lib.hid (RBn HS.out HB8.out)
  clear hg8 s24 HB2 HB3 HB4 HB5 HB6 HB7 HO2 HO3 HO4 HO5 HO6 HO7 HO2' HO3' HO4' HB47 HBt HB1
  go_wp2_with fail
  refine (apart_yes _ _ _ _ w8 w4.heap.size P5.out P6.out P7.out A6.out A7.out (propR_le e0 n s) S8.out.2).mono ?_
  rintro e w9 ⟨rfl, hg9⟩
  have HB9 : Hid (Below w.heap.size w w9) := HB8.out.grown hg9 HB8.out.size (fun k hk => Nat.le_trans S8.out.1 (P5.out.lt k hk).1)
  have HS9 := Lib.hid (RBn HS.out HB9.out)
  clear hg9 P5 P6 P7 A6 A7 S8 HS8 HB8
  go_wp2_with fail
  refine (name_any s w9 (by omega)).mono ?_
  rintro e w9' ⟨rfl, rfl⟩
  go_wp2_with fail
  refine (rname_any s w9 (by omega)).mono ?_
  rintro e w9' ⟨rfl, rfl⟩
  go_wp2_with fail
  have hl := HL.out
  refine (wide_any _ l w9 HS9.out (by omega)).mono ?_
  clear hl
  rintro e y2 ⟨vx, rfl, ho2, hb2⟩
  obtain ⟨g', cw', rfl, hg1, hg2, hg3', hg4', _, _⟩ := ho2.form (by simp [marks])
  have hwl : (l ++ marks).length = l.length + 64 := by simp [marks]
  rw [hwl] at ho2 hg3' ⊢
  have HO2 := Lib.hid ho2
  have HB2 : Hid (Below w.heap.size w y2) := HB9.out.trans (hb2.mono HB9.out.size)
  have HS2 := Lib.hid (RBn HS9.out hb2)
  have HP2 : Hid (RB y2 y2.heap.size (.slice (some ⟨g', 0, none⟩) l.length cw') l) := (ho2.rb (Nat.le_refl _)).pre
  clear ho2 hb2 hwl hg1 hg2 HB9 HS9 HS
  have hj1 : (0 : Int) ≤ (l.length : Int) := by omega
  have hj2 : (l.length : Int) ≤ (cw' : Int) := by omega
  have hj3 : l.length ≤ cw' := by omega
  go_wp2_with fail
  obtain ⟨pe, pn, ps, pk, hpv⟩ := parsedV_form (parseL l)
  refine (parse_any _ l y2 HP2.out).mono ?_
  unfold ParseQ
  rw [hpv]
  rintro e y3 ⟨rfl, hb⟩
  have hv3 := (Below.refl y3.heap.size y3).alloc (Nat.le_refl _) (.cells #[Value.bool pe, Value.int IntKind.i64 pn] 29)
  have Y3 : Hid (Box (y3.alloc (.cells #[Value.bool pe, Value.int IntKind.i64 pn] 29)) y3.heap.size #[Value.bool pe, Value.int IntKind.i64 pn].toList) := Box.new _ _ _
  have HB3' : Hid (Below y2.heap.size y2 (y3.alloc (.cells #[Value.bool pe, Value.int IntKind.i64 pn] 29))) := hb.trans (hv3.mono hb.size)
  clear hb hv3
  go_wp2_with fail
  refine (rparse_any _ l _ (RBn HS2.out HB3'.out)).mono ?_
  unfold ParseQ
  rw [hpv]
  rintro e y4 ⟨rfl, hb⟩
  have HB4 : Hid (Below y2.heap.size y2 y4) := HB3'.out.trans (hb.mono HB3'.out.size)
  have Y4 := Lib.hid (Y3.out.next hb)
  have hv4 := (Below.refl y4.heap.size y4).alloc (Nat.le_refl _) (.cells #[Value.bool pe, Value.int IntKind.i64 pn] 29)
  obtain ⟨W, hW⟩ : ∃ W, W = y4.alloc (.cells #[Value.bool pe, Value.int IntKind.i64 pn] 29) := ⟨_, rfl⟩
  have Z : Hid (Box W y4.heap.size #[Value.bool pe, Value.int IntKind.i64 pn].toList) := by rw [hW]; exact Box.new _ _ _
  have Y : Hid (Box W y3.heap.size #[Value.bool pe, Value.int IntKind.i64 pn].toList) := by rw [hW]; exact Y4.out.next hv4
  have HBW : Hid (Below y2.heap.size y2 W) := by rw [hW]; exact HB4.out.trans (hv4.mono HB4.out.size)
  have HOW := Lib.hid (HO2.out.below HBW.out)
  have HSW := Lib.hid (RBn HS2.out HBW.out)
  have HBW' : Hid (Below w.heap.size w W) := HB2.out.trans (HBW.out.mono HB2.out.size)
  have HW := Lib.hid hW
  have y0 := Y.out.at 0 (.bool pe) rfl
  have y1 := Y.out.at 1 (.int .i64 pn) rfl
  have z0 := Z.out.at 0 (.bool pe) rfl
  have z1 := Z.out.at 1 (.int .i64 pn) rfl
  clear hb hv4 hW Y3 Y4 HB4 HB3' HBW HO2 HB2 HS2 HP2
  go_upto_region 14 with (fail)
  rw [← HW.out]
  clear HW
  have hq := run_eqRef W 9998 pe pe pn pn
  simp only [beq_self_eq_true, Bool.and_self] at hq
  go_wp2_with fail
  refine (intact_yes _ _ l _ _ (HOW.out.rb (Nat.le_refl _)) HSW.out).mono ?_
  rintro e y7 ⟨rfl, n8, rfl⟩
  have HB8 : Hid (Below w.heap.size w (W.drewN n8)) := below_drewN HBW'.out n8
  go_wp2
  go_ret
  exact ⟨rfl, HB8.out⟩
end Go.Proofs.Ytbmjiheclagfiaa
