/-
  The law's changes at both forests: they answer alike, and stay side by side.
-/
import Derived.Test.YtlakcldgolpaiaaZEM11
namespace Go.Proofs.Ytlakcldgolpaiaa
open Go.RowKit Go.Maps
set_option linter.unusedVariables false

/-- The boxes of changes: the document's forest, the call, the result's cell. -/
structure Box7 (w W : World) (p : Nat) (a b c e : Value) (o : OpE) : Prop where
  b0 : Blk W p 31 #[a, b, c, e]
  bo : Blk W (p + 1) 33 #[.int .i64 o.kd, .int .i64 o.id, .int .i64 o.u, .int .i64 o.v, .bool o.on]
  b1 : Blk W (p + 2) 31 #[.slice none 0 0, .slice none 0 0, .slice none 0 0, .slice none 0 0]
  lo : w.heap.size ≤ p

theorem box7 (w : World) (a b c e : Value) (o : OpE) : Box7 w (((w.alloc (.cells #[a, b, c, e] 31)).alloc (Obj.cells #[.int .i64 o.kd, .int .i64 o.id, .int .i64 o.u, .int .i64 o.v, .bool o.on] 33)).alloc z4) w.heap.size a b c e o ∧ Below w.heap.size w (((w.alloc (.cells #[a, b, c, e] 31)).alloc (Obj.cells #[.int .i64 o.kd, .int .i64 o.id, .int .i64 o.u, .int .i64 o.v, .bool o.on] 33)).alloc z4) := by
  refine ⟨⟨((Blk.new _ _ _).alloc _).alloc _, ?_, ?_, Nat.le_refl _⟩, (((Below.refl _ _).alloc (Nat.le_refl _) _).alloc (by simp) _).alloc (by simp; omega) _⟩
  · have := (Blk.new (w.alloc (.cells #[a, b, c, e] 31)) 33 #[.int .i64 o.kd, .int .i64 o.id, .int .i64 o.u, .int .i64 o.v, .bool o.on]).alloc z4
    simpa using this
  · have := Blk.new ((w.alloc (.cells #[a, b, c, e] 31)).alloc (Obj.cells #[.int .i64 o.kd, .int .i64 o.id, .int .i64 o.u, .int .i64 o.v, .bool o.on] 33)) 31 #[.slice none 0 0, .slice none 0 0, .slice none 0 0, .slice none 0 0]
    simpa [z4] using this

theorem Box7.keep {w W W' : World} {p : Nat} {a b c e : Value} {o : OpE} (h : Box7 w W p a b c e o) (hk : Kept W W') : Box7 w W' p a b c e o := ⟨hk.blk h.b0 notF_D, hk.blk h.bo notF_O, hk.blk h.b1 notF_D, h.lo⟩

/-- What changes answers at both forests. -/
def ChOut (w wr : World) (f : Nat) (F' : FS) (a b c e : Value) (r : Ending) (w' : World) : Prop := ∃ a' b' c' e' d', r = .returned (.tuple #[.agg #[a', b', c', e'], .bool true]) ∧ Two w w' f F' d' a' b' c' e' ∧ Beside F' d' ∧ Kept wr w' ∧ OldNew wr a a' ∧ OldNew wr b b' ∧ OldNew wr c c' ∧ OldNew wr e e'

set_option maxRecDepth 100000 in
set_option maxHeartbeats 8000000 in
theorem changes_1 (w wr : World) (f : Nat) (F : FS) (d : DF) (a b c e : Value) (h : Two w wr f F d a b c e) (hs : Beside F d) (id u v : Int) (on : Bool) (ho : OpE.At ⟨1, id, u, v, on⟩) :
    Calls Try.prog 10 #[.pointer (some ⟨f, 0, none⟩), .agg #[a, b, c, e], .agg #[.int .i64 1, .int .i64 id, .int .i64 u, .int .i64 v, .bool on]] wr fun r w' => ChOut w wr f (F.addA u) a b c e r w' := by
  have hfit := hs.fit h.good
  obtain ⟨X0, n0, m0, X1, n1, m1, X2, n2, m2, X3, n3, m3, rfl, rfl, rfl, rfl⟩ := h.doc.sl4
  obtain ⟨W, hW⟩ : ∃ W, W = ((wr.alloc (.cells #[.slice X0 n0 m0, .slice X1 n1 m1, .slice X2 n2 m2, .slice X3 n3 m3] 31)).alloc (Obj.cells #[.int .i64 1, .int .i64 id, .int .i64 u, .int .i64 v, .bool on] 33)).alloc z4 := ⟨_, rfl⟩
  obtain ⟨q, hq⟩ : ∃ q, q = wr.heap.size := ⟨_, rfl⟩
  have hbx := box7 wr (.slice X0 n0 m0) (.slice X1 n1 m1) (.slice X2 n2 m2) (.slice X3 n3 m3) ⟨1, id, u, v, on⟩
  dsimp only at hbx
  rw [← hW] at hbx
  have T1 := Lib.hid (h.below hbx.2)
  have HL : Hid (w.heap.size ≤ q ∧ w.heap.size ≤ q + 2 ∧ wr.heap.size ≤ q ∧ wr.heap.size ≤ q + 2) := Lib.hid (by have := h.low.size; omega)
  have K0 := Lib.hid (Kept.of_below hbx.2)
  rw [← hq] at hbx
  have DD := Lib.hid h.doc
  have HS := Lib.hid hs
  have HG := Lib.hid h.good
  have HF := Lib.hid hfit
  have HU := ho.u
  have HI := ho.id
  have HV := ho.v
  dsimp only at HU HI HV
  unfold z4 at hW
  have HW := Lib.hid hW
  have HQ := Lib.hid hq
  have BX := Lib.hid hbx.1
  have EE : Hid (d.addE u = F.addE u) := Lib.hid (hs.addE h.good u)
  have BS : Hid (Beside (F.addA u) (d.addA u)) := Lib.hid (hs.addA h.good u)
  clear hW hq hbx h ho hs hfit
  go_enter Try.func10, Try.ntmps10
  go_upto_region 1 with fail
  rw [← HW.out]
  try simp only [← HQ.out]
  have c0 := BX.out.b0.cell 0
  have cr0 := BX.out.b1.cell 0
  have cf0 := BX.out.b1.frozen 0
  have c1 := BX.out.b0.cell 1
  have cr1 := BX.out.b1.cell 1
  have cf1 := BX.out.b1.frozen 1
  have c2 := BX.out.b0.cell 2
  have cr2 := BX.out.b1.cell 2
  have cf2 := BX.out.b1.frozen 2
  have c3 := BX.out.b0.cell 3
  have cr3 := BX.out.b1.cell 3
  have cf3 := BX.out.b1.frozen 3
  have co0 := BX.out.bo.cell 0
  have co1 := BX.out.bo.cell 1
  have co2 := BX.out.bo.cell 2
  have co3 := BX.out.bo.cell 3
  have co4 := BX.out.bo.cell 4
  try dsimp only at co0 co1 co2 co3 co4
  go_wp2_with fail
  refine (tAddV T1.out u HU).mono ?_
  generalize F.addE u = n at EE ⊢
  rintro r w2 ⟨rfl, t2, k2⟩
  have BX2 := Lib.hid (BX.out.keep k2)
  have T2 := Lib.hid t2
  have K2 := Lib.hid (K0.out.trans k2)
  clear t2 k2 c0 cr0 cf0 c1 cr1 cf1 c2 cr2 cf2 c3 cr3 cf3 co0 co1 co2 co3 co4
  have d0 := BX2.out.b0.cell 0
  have dr0 := BX2.out.b1.cell 0
  have df0 := BX2.out.b1.frozen 0
  have d1 := BX2.out.b0.cell 1
  have dr1 := BX2.out.b1.cell 1
  have df1 := BX2.out.b1.frozen 1
  have d2 := BX2.out.b0.cell 2
  have dr2 := BX2.out.b1.cell 2
  have df2 := BX2.out.b1.frozen 2
  have d3 := BX2.out.b0.cell 3
  have dr3 := BX2.out.b1.cell 3
  have df3 := BX2.out.b1.frozen 3
  have do0 := BX2.out.bo.cell 0
  have do1 := BX2.out.bo.cell 1
  have do2 := BX2.out.bo.cell 2
  have do3 := BX2.out.bo.cell 3
  have do4 := BX2.out.bo.cell 4
  try dsimp only at do0 do1 do2 do3 do4
  go_wp2_with fail
  refine (dAddV T2.out HF.out u).mono ?_
  rw [EE.out]
  rintro r w3 ⟨a', b', c', e', rfl, t3, b3, o1, o2, o3, o4⟩
  obtain ⟨Y0, i0, j0, Y1, i1, j1, Y2, i2, j2, Y3, i3, j3, rfl, rfl, rfl, rfl⟩ := t3.doc.sl4
  have hb4 : Below w2.heap.size w2 (w3.alloc (Obj.cells #[.slice Y0 i0 j0, .slice Y1 i1 j1, .slice Y2 i2 j2, .slice Y3 i3 j3] 31)) := b3.alloc b3.size _
  have BX4 := Lib.hid (BX2.out.keep (Kept.of_below hb4))
  have t4 := t3.below ((Below.refl _ _).alloc (Nat.le_refl _) (Obj.cells #[.slice Y0 i0 j0, .slice Y1 i1 j1, .slice Y2 i2 j2, .slice Y3 i3 j3] 31))
  obtain ⟨W4, hW4⟩ : ∃ W4, W4 = w3.alloc (Obj.cells #[.slice Y0 i0 j0, .slice Y1 i1 j1, .slice Y2 i2 j2, .slice Y3 i3 j3] 31) := ⟨_, rfl⟩
  have kn : Blk W4 w3.heap.size 31 #[.slice Y0 i0 j0, .slice Y1 i1 j1, .slice Y2 i2 j2, .slice Y3 i3 j3] := by rw [hW4]; exact Blk.new _ _ _
  rw [← hW4] at BX4 t4 hb4
  have KF := Lib.hid ((K2.out.trans (Kept.of_below hb4)).far4 HL.out.2.2.2 (.slice Y0 i0 j0) (.slice Y1 i1 j1) (.slice Y2 i2 j2) (.slice Y3 i3 j3))
  have ON := Lib.hid (And.intro (o1.mono K2.out.1) (And.intro (o2.mono K2.out.1) (And.intro (o3.mono K2.out.1) (o4.mono K2.out.1))))
  obtain ⟨q4, hq4⟩ : ∃ q4, q4 = w3.heap.size := ⟨_, rfl⟩
  rw [← hq4] at kn
  have HW4 := Lib.hid hW4
  have HQ4 := Lib.hid hq4
  have lt2 := BX2.out.b1.lt
  have HD := Lib.hid (t4.far4 BX4.out.b1 notF_D HL.out.2.1 (off_new DD.out.vs t4.doc.vs o1 HL.out.2.2.2 lt2) (off_new DD.out.es t4.doc.es o2 HL.out.2.2.2 lt2) (off_new DD.out.mv t4.doc.mv o3 HL.out.2.2.2 lt2) (off_new DD.out.me t4.doc.me o4 HL.out.2.2.2 lt2) (.slice Y0 i0 j0) (.slice Y1 i1 j1) (.slice Y2 i2 j2) (.slice Y3 i3 j3))
  have g0 := kn.cell 0
  have g1 := kn.cell 1
  have g2 := kn.cell 2
  have g3 := kn.cell 3
  clear t3 t4 b3 o1 o2 o3 o4 hb4 hW4 hq4 kn lt2 d0 dr0 df0 d1 dr1 df1 d2 dr2 df2 d3 dr3 df3 do0 do1 do2 do3 do4
  have e0 := BX4.out.b0.cell 0
  have er0 := BX4.out.b1.cell 0
  have ef0 := BX4.out.b1.frozen 0
  have e1 := BX4.out.b0.cell 1
  have er1 := BX4.out.b1.cell 1
  have ef1 := BX4.out.b1.frozen 1
  have e2 := BX4.out.b0.cell 2
  have er2 := BX4.out.b1.cell 2
  have ef2 := BX4.out.b1.frozen 2
  have e3 := BX4.out.b0.cell 3
  have er3 := BX4.out.b1.cell 3
  have ef3 := BX4.out.b1.frozen 3
  have eo0 := BX4.out.bo.cell 0
  have eo1 := BX4.out.bo.cell 1
  have eo2 := BX4.out.bo.cell 2
  have eo3 := BX4.out.bo.cell 3
  have eo4 := BX4.out.bo.cell 4
  try dsimp only at eo0 eo1 eo2 eo3 eo4
  go_upto_region 5 with fail
  rw [← HW4.out]
  try simp only [← HQ4.out]
  obtain ⟨X, hX⟩ : ∃ X, X = Value.agg #[.slice Y0 i0 j0, .slice Y1 i1 j1, .slice Y2 i2 j2, .slice Y3 i3 j3] := ⟨_, rfl⟩
  go_wp2_with fail
  refine ret_cell_tmp2 (p := 6) (u := 7) (v := X) rfl rfl rfl (by rw [hX]; go_simp) rfl ⟨_, _, _, _, _, (by rw [hX]; rfl), HD.out, BS.out, KF.out, ON.out⟩

set_option maxRecDepth 100000 in
set_option maxHeartbeats 8000000 in
theorem changes_2 (w wr : World) (f : Nat) (F : FS) (d : DF) (a b c e : Value) (h : Two w wr f F d a b c e) (hs : Beside F d) (id u v : Int) (on : Bool) (ho : OpE.At ⟨2, id, u, v, on⟩) :
    Calls Try.prog 10 #[.pointer (some ⟨f, 0, none⟩), .agg #[a, b, c, e], .agg #[.int .i64 2, .int .i64 id, .int .i64 u, .int .i64 v, .bool on]] wr fun r w' => ChOut w wr f (F.delA u) a b c e r w' := by
  have hfit := hs.fit h.good
  obtain ⟨X0, n0, m0, X1, n1, m1, X2, n2, m2, X3, n3, m3, rfl, rfl, rfl, rfl⟩ := h.doc.sl4
  obtain ⟨W, hW⟩ : ∃ W, W = ((wr.alloc (.cells #[.slice X0 n0 m0, .slice X1 n1 m1, .slice X2 n2 m2, .slice X3 n3 m3] 31)).alloc (Obj.cells #[.int .i64 2, .int .i64 id, .int .i64 u, .int .i64 v, .bool on] 33)).alloc z4 := ⟨_, rfl⟩
  obtain ⟨q, hq⟩ : ∃ q, q = wr.heap.size := ⟨_, rfl⟩
  have hbx := box7 wr (.slice X0 n0 m0) (.slice X1 n1 m1) (.slice X2 n2 m2) (.slice X3 n3 m3) ⟨2, id, u, v, on⟩
  dsimp only at hbx
  rw [← hW] at hbx
  have T1 := Lib.hid (h.below hbx.2)
  have HL : Hid (w.heap.size ≤ q ∧ w.heap.size ≤ q + 2 ∧ wr.heap.size ≤ q ∧ wr.heap.size ≤ q + 2) := Lib.hid (by have := h.low.size; omega)
  have K0 := Lib.hid (Kept.of_below hbx.2)
  rw [← hq] at hbx
  have DD := Lib.hid h.doc
  have HS := Lib.hid hs
  have HG := Lib.hid h.good
  have HF := Lib.hid hfit
  have HU := ho.u
  have HI := ho.id
  have HV := ho.v
  dsimp only at HU HI HV
  unfold z4 at hW
  have HW := Lib.hid hW
  have HQ := Lib.hid hq
  have BX := Lib.hid hbx.1
  have EE : Hid (d.delE u = F.delE u) := Lib.hid (hs.delE u)
  have BS : Hid (Beside (F.delA u) (d.delA u)) := Lib.hid (hs.delA h.good u)
  clear hW hq hbx h ho hs hfit
  go_enter Try.func10, Try.ntmps10
  go_upto_region 1 with fail
  rw [← HW.out]
  try simp only [← HQ.out]
  have c0 := BX.out.b0.cell 0
  have cr0 := BX.out.b1.cell 0
  have cf0 := BX.out.b1.frozen 0
  have c1 := BX.out.b0.cell 1
  have cr1 := BX.out.b1.cell 1
  have cf1 := BX.out.b1.frozen 1
  have c2 := BX.out.b0.cell 2
  have cr2 := BX.out.b1.cell 2
  have cf2 := BX.out.b1.frozen 2
  have c3 := BX.out.b0.cell 3
  have cr3 := BX.out.b1.cell 3
  have cf3 := BX.out.b1.frozen 3
  have co0 := BX.out.bo.cell 0
  have co1 := BX.out.bo.cell 1
  have co2 := BX.out.bo.cell 2
  have co3 := BX.out.bo.cell 3
  have co4 := BX.out.bo.cell 4
  try dsimp only at co0 co1 co2 co3 co4
  go_wp2_with fail
  refine (tDelV T1.out u HU).mono ?_
  generalize F.delE u = n at EE ⊢
  rintro r w2 ⟨rfl, t2, k2⟩
  have BX2 := Lib.hid (BX.out.keep k2)
  have T2 := Lib.hid t2
  have K2 := Lib.hid (K0.out.trans k2)
  clear t2 k2 c0 cr0 cf0 c1 cr1 cf1 c2 cr2 cf2 c3 cr3 cf3 co0 co1 co2 co3 co4
  have d0 := BX2.out.b0.cell 0
  have dr0 := BX2.out.b1.cell 0
  have df0 := BX2.out.b1.frozen 0
  have d1 := BX2.out.b0.cell 1
  have dr1 := BX2.out.b1.cell 1
  have df1 := BX2.out.b1.frozen 1
  have d2 := BX2.out.b0.cell 2
  have dr2 := BX2.out.b1.cell 2
  have df2 := BX2.out.b1.frozen 2
  have d3 := BX2.out.b0.cell 3
  have dr3 := BX2.out.b1.cell 3
  have df3 := BX2.out.b1.frozen 3
  have do0 := BX2.out.bo.cell 0
  have do1 := BX2.out.bo.cell 1
  have do2 := BX2.out.bo.cell 2
  have do3 := BX2.out.bo.cell 3
  have do4 := BX2.out.bo.cell 4
  try dsimp only at do0 do1 do2 do3 do4
  go_wp2_with fail
  refine (dDelV T2.out HF.out u).mono ?_
  rw [EE.out]
  rintro r w3 ⟨a', b', c', e', rfl, t3, b3, o1, o2, o3, o4⟩
  obtain ⟨Y0, i0, j0, Y1, i1, j1, Y2, i2, j2, Y3, i3, j3, rfl, rfl, rfl, rfl⟩ := t3.doc.sl4
  have hb4 : Below w2.heap.size w2 (w3.alloc (Obj.cells #[.slice Y0 i0 j0, .slice Y1 i1 j1, .slice Y2 i2 j2, .slice Y3 i3 j3] 31)) := b3.alloc b3.size _
  have BX4 := Lib.hid (BX2.out.keep (Kept.of_below hb4))
  have t4 := t3.below ((Below.refl _ _).alloc (Nat.le_refl _) (Obj.cells #[.slice Y0 i0 j0, .slice Y1 i1 j1, .slice Y2 i2 j2, .slice Y3 i3 j3] 31))
  obtain ⟨W4, hW4⟩ : ∃ W4, W4 = w3.alloc (Obj.cells #[.slice Y0 i0 j0, .slice Y1 i1 j1, .slice Y2 i2 j2, .slice Y3 i3 j3] 31) := ⟨_, rfl⟩
  have kn : Blk W4 w3.heap.size 31 #[.slice Y0 i0 j0, .slice Y1 i1 j1, .slice Y2 i2 j2, .slice Y3 i3 j3] := by rw [hW4]; exact Blk.new _ _ _
  rw [← hW4] at BX4 t4 hb4
  have KF := Lib.hid ((K2.out.trans (Kept.of_below hb4)).far4 HL.out.2.2.2 (.slice Y0 i0 j0) (.slice Y1 i1 j1) (.slice Y2 i2 j2) (.slice Y3 i3 j3))
  have ON := Lib.hid (And.intro (o1.mono K2.out.1) (And.intro (o2.mono K2.out.1) (And.intro (o3.mono K2.out.1) (o4.mono K2.out.1))))
  obtain ⟨q4, hq4⟩ : ∃ q4, q4 = w3.heap.size := ⟨_, rfl⟩
  rw [← hq4] at kn
  have HW4 := Lib.hid hW4
  have HQ4 := Lib.hid hq4
  have lt2 := BX2.out.b1.lt
  have HD := Lib.hid (t4.far4 BX4.out.b1 notF_D HL.out.2.1 (off_new DD.out.vs t4.doc.vs o1 HL.out.2.2.2 lt2) (off_new DD.out.es t4.doc.es o2 HL.out.2.2.2 lt2) (off_new DD.out.mv t4.doc.mv o3 HL.out.2.2.2 lt2) (off_new DD.out.me t4.doc.me o4 HL.out.2.2.2 lt2) (.slice Y0 i0 j0) (.slice Y1 i1 j1) (.slice Y2 i2 j2) (.slice Y3 i3 j3))
  have g0 := kn.cell 0
  have g1 := kn.cell 1
  have g2 := kn.cell 2
  have g3 := kn.cell 3
  clear t3 t4 b3 o1 o2 o3 o4 hb4 hW4 hq4 kn lt2 d0 dr0 df0 d1 dr1 df1 d2 dr2 df2 d3 dr3 df3 do0 do1 do2 do3 do4
  have e0 := BX4.out.b0.cell 0
  have er0 := BX4.out.b1.cell 0
  have ef0 := BX4.out.b1.frozen 0
  have e1 := BX4.out.b0.cell 1
  have er1 := BX4.out.b1.cell 1
  have ef1 := BX4.out.b1.frozen 1
  have e2 := BX4.out.b0.cell 2
  have er2 := BX4.out.b1.cell 2
  have ef2 := BX4.out.b1.frozen 2
  have e3 := BX4.out.b0.cell 3
  have er3 := BX4.out.b1.cell 3
  have ef3 := BX4.out.b1.frozen 3
  have eo0 := BX4.out.bo.cell 0
  have eo1 := BX4.out.bo.cell 1
  have eo2 := BX4.out.bo.cell 2
  have eo3 := BX4.out.bo.cell 3
  have eo4 := BX4.out.bo.cell 4
  try dsimp only at eo0 eo1 eo2 eo3 eo4
  go_upto_region 9 with fail
  rw [← HW4.out]
  try simp only [← HQ4.out]
  obtain ⟨X, hX⟩ : ∃ X, X = Value.agg #[.slice Y0 i0 j0, .slice Y1 i1 j1, .slice Y2 i2 j2, .slice Y3 i3 j3] := ⟨_, rfl⟩
  go_wp2_with fail
  refine ret_cell_tmp2 (p := 6) (u := 7) (v := X) rfl rfl rfl (by rw [hX]; go_simp) rfl ⟨_, _, _, _, _, (by rw [hX]; rfl), HD.out, BS.out, KF.out, ON.out⟩

set_option maxRecDepth 100000 in
set_option maxHeartbeats 8000000 in
theorem changes_3 (w wr : World) (f : Nat) (F : FS) (d : DF) (a b c e : Value) (h : Two w wr f F d a b c e) (hs : Beside F d) (id u v : Int) (on : Bool) (ho : OpE.At ⟨3, id, u, v, on⟩) :
    Calls Try.prog 10 #[.pointer (some ⟨f, 0, none⟩), .agg #[a, b, c, e], .agg #[.int .i64 3, .int .i64 id, .int .i64 u, .int .i64 v, .bool on]] wr fun r w' => ChOut w wr f (F.linkA id u v) a b c e r w' := by
  have hfit := hs.fit h.good
  obtain ⟨X0, n0, m0, X1, n1, m1, X2, n2, m2, X3, n3, m3, rfl, rfl, rfl, rfl⟩ := h.doc.sl4
  obtain ⟨W, hW⟩ : ∃ W, W = ((wr.alloc (.cells #[.slice X0 n0 m0, .slice X1 n1 m1, .slice X2 n2 m2, .slice X3 n3 m3] 31)).alloc (Obj.cells #[.int .i64 3, .int .i64 id, .int .i64 u, .int .i64 v, .bool on] 33)).alloc z4 := ⟨_, rfl⟩
  obtain ⟨q, hq⟩ : ∃ q, q = wr.heap.size := ⟨_, rfl⟩
  have hbx := box7 wr (.slice X0 n0 m0) (.slice X1 n1 m1) (.slice X2 n2 m2) (.slice X3 n3 m3) ⟨3, id, u, v, on⟩
  dsimp only at hbx
  rw [← hW] at hbx
  have T1 := Lib.hid (h.below hbx.2)
  have HL : Hid (w.heap.size ≤ q ∧ w.heap.size ≤ q + 2 ∧ wr.heap.size ≤ q ∧ wr.heap.size ≤ q + 2) := Lib.hid (by have := h.low.size; omega)
  have K0 := Lib.hid (Kept.of_below hbx.2)
  rw [← hq] at hbx
  have DD := Lib.hid h.doc
  have HS := Lib.hid hs
  have HG := Lib.hid h.good
  have HF := Lib.hid hfit
  have HU := ho.u
  have HI := ho.id
  have HV := ho.v
  dsimp only at HU HI HV
  unfold z4 at hW
  have HW := Lib.hid hW
  have HQ := Lib.hid hq
  have BX := Lib.hid hbx.1
  have EE : Hid (d.linkE id u v = F.linkE id u v) := Lib.hid (hs.linkE id u v)
  have BS : Hid (Beside (F.linkA id u v) (d.linkA id u v)) := Lib.hid (hs.linkA id u v)
  clear hW hq hbx h ho hs hfit
  go_enter Try.func10, Try.ntmps10
  go_upto_region 1 with fail
  rw [← HW.out]
  try simp only [← HQ.out]
  have c0 := BX.out.b0.cell 0
  have cr0 := BX.out.b1.cell 0
  have cf0 := BX.out.b1.frozen 0
  have c1 := BX.out.b0.cell 1
  have cr1 := BX.out.b1.cell 1
  have cf1 := BX.out.b1.frozen 1
  have c2 := BX.out.b0.cell 2
  have cr2 := BX.out.b1.cell 2
  have cf2 := BX.out.b1.frozen 2
  have c3 := BX.out.b0.cell 3
  have cr3 := BX.out.b1.cell 3
  have cf3 := BX.out.b1.frozen 3
  have co0 := BX.out.bo.cell 0
  have co1 := BX.out.bo.cell 1
  have co2 := BX.out.bo.cell 2
  have co3 := BX.out.bo.cell 3
  have co4 := BX.out.bo.cell 4
  try dsimp only at co0 co1 co2 co3 co4
  go_wp2_with fail
  refine (tLink T1.out id u v HI HU HV).mono ?_
  generalize F.linkE id u v = n at EE ⊢
  rintro r w2 ⟨rfl, t2, k2⟩
  have BX2 := Lib.hid (BX.out.keep k2)
  have T2 := Lib.hid t2
  have K2 := Lib.hid (K0.out.trans k2)
  clear t2 k2 c0 cr0 cf0 c1 cr1 cf1 c2 cr2 cf2 c3 cr3 cf3 co0 co1 co2 co3 co4
  have d0 := BX2.out.b0.cell 0
  have dr0 := BX2.out.b1.cell 0
  have df0 := BX2.out.b1.frozen 0
  have d1 := BX2.out.b0.cell 1
  have dr1 := BX2.out.b1.cell 1
  have df1 := BX2.out.b1.frozen 1
  have d2 := BX2.out.b0.cell 2
  have dr2 := BX2.out.b1.cell 2
  have df2 := BX2.out.b1.frozen 2
  have d3 := BX2.out.b0.cell 3
  have dr3 := BX2.out.b1.cell 3
  have df3 := BX2.out.b1.frozen 3
  have do0 := BX2.out.bo.cell 0
  have do1 := BX2.out.bo.cell 1
  have do2 := BX2.out.bo.cell 2
  have do3 := BX2.out.bo.cell 3
  have do4 := BX2.out.bo.cell 4
  try dsimp only at do0 do1 do2 do3 do4
  go_wp2_with fail
  refine (dLink T2.out HF.out id u v).mono ?_
  rw [EE.out]
  rintro r w3 ⟨a', b', c', e', rfl, t3, b3, o1, o2, o3, o4⟩
  obtain ⟨Y0, i0, j0, Y1, i1, j1, Y2, i2, j2, Y3, i3, j3, rfl, rfl, rfl, rfl⟩ := t3.doc.sl4
  have hb4 : Below w2.heap.size w2 (w3.alloc (Obj.cells #[.slice Y0 i0 j0, .slice Y1 i1 j1, .slice Y2 i2 j2, .slice Y3 i3 j3] 31)) := b3.alloc b3.size _
  have BX4 := Lib.hid (BX2.out.keep (Kept.of_below hb4))
  have t4 := t3.below ((Below.refl _ _).alloc (Nat.le_refl _) (Obj.cells #[.slice Y0 i0 j0, .slice Y1 i1 j1, .slice Y2 i2 j2, .slice Y3 i3 j3] 31))
  obtain ⟨W4, hW4⟩ : ∃ W4, W4 = w3.alloc (Obj.cells #[.slice Y0 i0 j0, .slice Y1 i1 j1, .slice Y2 i2 j2, .slice Y3 i3 j3] 31) := ⟨_, rfl⟩
  have kn : Blk W4 w3.heap.size 31 #[.slice Y0 i0 j0, .slice Y1 i1 j1, .slice Y2 i2 j2, .slice Y3 i3 j3] := by rw [hW4]; exact Blk.new _ _ _
  rw [← hW4] at BX4 t4 hb4
  have KF := Lib.hid ((K2.out.trans (Kept.of_below hb4)).far4 HL.out.2.2.2 (.slice Y0 i0 j0) (.slice Y1 i1 j1) (.slice Y2 i2 j2) (.slice Y3 i3 j3))
  have ON := Lib.hid (And.intro (o1.mono K2.out.1) (And.intro (o2.mono K2.out.1) (And.intro (o3.mono K2.out.1) (o4.mono K2.out.1))))
  obtain ⟨q4, hq4⟩ : ∃ q4, q4 = w3.heap.size := ⟨_, rfl⟩
  rw [← hq4] at kn
  have HW4 := Lib.hid hW4
  have HQ4 := Lib.hid hq4
  have lt2 := BX2.out.b1.lt
  have HD := Lib.hid (t4.far4 BX4.out.b1 notF_D HL.out.2.1 (off_new DD.out.vs t4.doc.vs o1 HL.out.2.2.2 lt2) (off_new DD.out.es t4.doc.es o2 HL.out.2.2.2 lt2) (off_new DD.out.mv t4.doc.mv o3 HL.out.2.2.2 lt2) (off_new DD.out.me t4.doc.me o4 HL.out.2.2.2 lt2) (.slice Y0 i0 j0) (.slice Y1 i1 j1) (.slice Y2 i2 j2) (.slice Y3 i3 j3))
  have g0 := kn.cell 0
  have g1 := kn.cell 1
  have g2 := kn.cell 2
  have g3 := kn.cell 3
  clear t3 t4 b3 o1 o2 o3 o4 hb4 hW4 hq4 kn lt2 d0 dr0 df0 d1 dr1 df1 d2 dr2 df2 d3 dr3 df3 do0 do1 do2 do3 do4
  have e0 := BX4.out.b0.cell 0
  have er0 := BX4.out.b1.cell 0
  have ef0 := BX4.out.b1.frozen 0
  have e1 := BX4.out.b0.cell 1
  have er1 := BX4.out.b1.cell 1
  have ef1 := BX4.out.b1.frozen 1
  have e2 := BX4.out.b0.cell 2
  have er2 := BX4.out.b1.cell 2
  have ef2 := BX4.out.b1.frozen 2
  have e3 := BX4.out.b0.cell 3
  have er3 := BX4.out.b1.cell 3
  have ef3 := BX4.out.b1.frozen 3
  have eo0 := BX4.out.bo.cell 0
  have eo1 := BX4.out.bo.cell 1
  have eo2 := BX4.out.bo.cell 2
  have eo3 := BX4.out.bo.cell 3
  have eo4 := BX4.out.bo.cell 4
  try dsimp only at eo0 eo1 eo2 eo3 eo4
  go_upto_region 13 with fail
  rw [← HW4.out]
  try simp only [← HQ4.out]
  obtain ⟨X, hX⟩ : ∃ X, X = Value.agg #[.slice Y0 i0 j0, .slice Y1 i1 j1, .slice Y2 i2 j2, .slice Y3 i3 j3] := ⟨_, rfl⟩
  go_wp2_with fail
  refine ret_cell_tmp2 (p := 6) (u := 7) (v := X) rfl rfl rfl (by rw [hX]; go_simp) rfl ⟨_, _, _, _, _, (by rw [hX]; rfl), HD.out, BS.out, KF.out, ON.out⟩

set_option maxRecDepth 100000 in
set_option maxHeartbeats 8000000 in
theorem changes_4 (w wr : World) (f : Nat) (F : FS) (d : DF) (a b c e : Value) (h : Two w wr f F d a b c e) (hs : Beside F d) (id u v : Int) (on : Bool) (ho : OpE.At ⟨4, id, u, v, on⟩) :
    Calls Try.prog 10 #[.pointer (some ⟨f, 0, none⟩), .agg #[a, b, c, e], .agg #[.int .i64 4, .int .i64 id, .int .i64 u, .int .i64 v, .bool on]] wr fun r w' => ChOut w wr f (F.cutA id) a b c e r w' := by
  have hfit := hs.fit h.good
  obtain ⟨X0, n0, m0, X1, n1, m1, X2, n2, m2, X3, n3, m3, rfl, rfl, rfl, rfl⟩ := h.doc.sl4
  obtain ⟨W, hW⟩ : ∃ W, W = ((wr.alloc (.cells #[.slice X0 n0 m0, .slice X1 n1 m1, .slice X2 n2 m2, .slice X3 n3 m3] 31)).alloc (Obj.cells #[.int .i64 4, .int .i64 id, .int .i64 u, .int .i64 v, .bool on] 33)).alloc z4 := ⟨_, rfl⟩
  obtain ⟨q, hq⟩ : ∃ q, q = wr.heap.size := ⟨_, rfl⟩
  have hbx := box7 wr (.slice X0 n0 m0) (.slice X1 n1 m1) (.slice X2 n2 m2) (.slice X3 n3 m3) ⟨4, id, u, v, on⟩
  dsimp only at hbx
  rw [← hW] at hbx
  have T1 := Lib.hid (h.below hbx.2)
  have HL : Hid (w.heap.size ≤ q ∧ w.heap.size ≤ q + 2 ∧ wr.heap.size ≤ q ∧ wr.heap.size ≤ q + 2) := Lib.hid (by have := h.low.size; omega)
  have K0 := Lib.hid (Kept.of_below hbx.2)
  rw [← hq] at hbx
  have DD := Lib.hid h.doc
  have HS := Lib.hid hs
  have HG := Lib.hid h.good
  have HF := Lib.hid hfit
  have HU := ho.u
  have HI := ho.id
  have HV := ho.v
  dsimp only at HU HI HV
  unfold z4 at hW
  have HW := Lib.hid hW
  have HQ := Lib.hid hq
  have BX := Lib.hid hbx.1
  have EE : Hid (d.cutE id = F.cutE id) := Lib.hid (hs.cutE id)
  have BS : Hid (Beside (F.cutA id) (d.cutA id)) := Lib.hid (hs.cutA id)
  clear hW hq hbx h ho hs hfit
  go_enter Try.func10, Try.ntmps10
  go_upto_region 1 with fail
  rw [← HW.out]
  try simp only [← HQ.out]
  have c0 := BX.out.b0.cell 0
  have cr0 := BX.out.b1.cell 0
  have cf0 := BX.out.b1.frozen 0
  have c1 := BX.out.b0.cell 1
  have cr1 := BX.out.b1.cell 1
  have cf1 := BX.out.b1.frozen 1
  have c2 := BX.out.b0.cell 2
  have cr2 := BX.out.b1.cell 2
  have cf2 := BX.out.b1.frozen 2
  have c3 := BX.out.b0.cell 3
  have cr3 := BX.out.b1.cell 3
  have cf3 := BX.out.b1.frozen 3
  have co0 := BX.out.bo.cell 0
  have co1 := BX.out.bo.cell 1
  have co2 := BX.out.bo.cell 2
  have co3 := BX.out.bo.cell 3
  have co4 := BX.out.bo.cell 4
  try dsimp only at co0 co1 co2 co3 co4
  go_wp2_with fail
  refine (tCut T1.out id HI).mono ?_
  generalize F.cutE id = n at EE ⊢
  rintro r w2 ⟨rfl, t2, k2⟩
  have BX2 := Lib.hid (BX.out.keep k2)
  have T2 := Lib.hid t2
  have K2 := Lib.hid (K0.out.trans k2)
  clear t2 k2 c0 cr0 cf0 c1 cr1 cf1 c2 cr2 cf2 c3 cr3 cf3 co0 co1 co2 co3 co4
  have d0 := BX2.out.b0.cell 0
  have dr0 := BX2.out.b1.cell 0
  have df0 := BX2.out.b1.frozen 0
  have d1 := BX2.out.b0.cell 1
  have dr1 := BX2.out.b1.cell 1
  have df1 := BX2.out.b1.frozen 1
  have d2 := BX2.out.b0.cell 2
  have dr2 := BX2.out.b1.cell 2
  have df2 := BX2.out.b1.frozen 2
  have d3 := BX2.out.b0.cell 3
  have dr3 := BX2.out.b1.cell 3
  have df3 := BX2.out.b1.frozen 3
  have do0 := BX2.out.bo.cell 0
  have do1 := BX2.out.bo.cell 1
  have do2 := BX2.out.bo.cell 2
  have do3 := BX2.out.bo.cell 3
  have do4 := BX2.out.bo.cell 4
  try dsimp only at do0 do1 do2 do3 do4
  go_wp2_with fail
  refine (dCut T2.out HF.out id).mono ?_
  rw [EE.out]
  rintro r w3 ⟨a', b', c', e', rfl, t3, b3, o1, o2, o3, o4⟩
  obtain ⟨Y0, i0, j0, Y1, i1, j1, Y2, i2, j2, Y3, i3, j3, rfl, rfl, rfl, rfl⟩ := t3.doc.sl4
  have hb4 : Below w2.heap.size w2 (w3.alloc (Obj.cells #[.slice Y0 i0 j0, .slice Y1 i1 j1, .slice Y2 i2 j2, .slice Y3 i3 j3] 31)) := b3.alloc b3.size _
  have BX4 := Lib.hid (BX2.out.keep (Kept.of_below hb4))
  have t4 := t3.below ((Below.refl _ _).alloc (Nat.le_refl _) (Obj.cells #[.slice Y0 i0 j0, .slice Y1 i1 j1, .slice Y2 i2 j2, .slice Y3 i3 j3] 31))
  obtain ⟨W4, hW4⟩ : ∃ W4, W4 = w3.alloc (Obj.cells #[.slice Y0 i0 j0, .slice Y1 i1 j1, .slice Y2 i2 j2, .slice Y3 i3 j3] 31) := ⟨_, rfl⟩
  have kn : Blk W4 w3.heap.size 31 #[.slice Y0 i0 j0, .slice Y1 i1 j1, .slice Y2 i2 j2, .slice Y3 i3 j3] := by rw [hW4]; exact Blk.new _ _ _
  rw [← hW4] at BX4 t4 hb4
  have KF := Lib.hid ((K2.out.trans (Kept.of_below hb4)).far4 HL.out.2.2.2 (.slice Y0 i0 j0) (.slice Y1 i1 j1) (.slice Y2 i2 j2) (.slice Y3 i3 j3))
  have ON := Lib.hid (And.intro (o1.mono K2.out.1) (And.intro (o2.mono K2.out.1) (And.intro (o3.mono K2.out.1) (o4.mono K2.out.1))))
  obtain ⟨q4, hq4⟩ : ∃ q4, q4 = w3.heap.size := ⟨_, rfl⟩
  rw [← hq4] at kn
  have HW4 := Lib.hid hW4
  have HQ4 := Lib.hid hq4
  have lt2 := BX2.out.b1.lt
  have HD := Lib.hid (t4.far4 BX4.out.b1 notF_D HL.out.2.1 (off_new DD.out.vs t4.doc.vs o1 HL.out.2.2.2 lt2) (off_new DD.out.es t4.doc.es o2 HL.out.2.2.2 lt2) (off_new DD.out.mv t4.doc.mv o3 HL.out.2.2.2 lt2) (off_new DD.out.me t4.doc.me o4 HL.out.2.2.2 lt2) (.slice Y0 i0 j0) (.slice Y1 i1 j1) (.slice Y2 i2 j2) (.slice Y3 i3 j3))
  have g0 := kn.cell 0
  have g1 := kn.cell 1
  have g2 := kn.cell 2
  have g3 := kn.cell 3
  clear t3 t4 b3 o1 o2 o3 o4 hb4 hW4 hq4 kn lt2 d0 dr0 df0 d1 dr1 df1 d2 dr2 df2 d3 dr3 df3 do0 do1 do2 do3 do4
  have e0 := BX4.out.b0.cell 0
  have er0 := BX4.out.b1.cell 0
  have ef0 := BX4.out.b1.frozen 0
  have e1 := BX4.out.b0.cell 1
  have er1 := BX4.out.b1.cell 1
  have ef1 := BX4.out.b1.frozen 1
  have e2 := BX4.out.b0.cell 2
  have er2 := BX4.out.b1.cell 2
  have ef2 := BX4.out.b1.frozen 2
  have e3 := BX4.out.b0.cell 3
  have er3 := BX4.out.b1.cell 3
  have ef3 := BX4.out.b1.frozen 3
  have eo0 := BX4.out.bo.cell 0
  have eo1 := BX4.out.bo.cell 1
  have eo2 := BX4.out.bo.cell 2
  have eo3 := BX4.out.bo.cell 3
  have eo4 := BX4.out.bo.cell 4
  try dsimp only at eo0 eo1 eo2 eo3 eo4
  go_upto_region 17 with fail
  rw [← HW4.out]
  try simp only [← HQ4.out]
  obtain ⟨X, hX⟩ : ∃ X, X = Value.agg #[.slice Y0 i0 j0, .slice Y1 i1 j1, .slice Y2 i2 j2, .slice Y3 i3 j3] := ⟨_, rfl⟩
  go_wp2_with fail
  refine ret_cell_tmp2 (p := 6) (u := 7) (v := X) rfl rfl rfl (by rw [hX]; go_simp) rfl ⟨_, _, _, _, _, (by rw [hX]; rfl), HD.out, BS.out, KF.out, ON.out⟩

set_option maxRecDepth 100000 in
set_option maxHeartbeats 8000000 in
theorem changes_5y (w wr : World) (f : Nat) (F : FS) (d : DF) (a b c e : Value) (h : Two w wr f F d a b c e) (hs : Beside F d) (id u v : Int) (on : Bool) (ho : OpE.At ⟨5, id, u, v, on⟩) (hin : u ∈ F.vs) :
    Calls Try.prog 10 #[.pointer (some ⟨f, 0, none⟩), .agg #[a, b, c, e], .agg #[.int .i64 5, .int .i64 id, .int .i64 u, .int .i64 v, .bool on]] wr fun r w' => ChOut w wr f (F.markVA u on) a b c e r w' := by
  have hfit := hs.fit h.good
  obtain ⟨X0, n0, m0, X1, n1, m1, X2, n2, m2, X3, n3, m3, rfl, rfl, rfl, rfl⟩ := h.doc.sl4
  obtain ⟨W, hW⟩ : ∃ W, W = ((wr.alloc (.cells #[.slice X0 n0 m0, .slice X1 n1 m1, .slice X2 n2 m2, .slice X3 n3 m3] 31)).alloc (Obj.cells #[.int .i64 5, .int .i64 id, .int .i64 u, .int .i64 v, .bool on] 33)).alloc z4 := ⟨_, rfl⟩
  obtain ⟨q, hq⟩ : ∃ q, q = wr.heap.size := ⟨_, rfl⟩
  have hbx := box7 wr (.slice X0 n0 m0) (.slice X1 n1 m1) (.slice X2 n2 m2) (.slice X3 n3 m3) ⟨5, id, u, v, on⟩
  dsimp only at hbx
  rw [← hW] at hbx
  have T1 := Lib.hid (h.below hbx.2)
  have HL : Hid (w.heap.size ≤ q ∧ w.heap.size ≤ q + 2 ∧ wr.heap.size ≤ q ∧ wr.heap.size ≤ q + 2) := Lib.hid (by have := h.low.size; omega)
  have K0 := Lib.hid (Kept.of_below hbx.2)
  rw [← hq] at hbx
  have DD := Lib.hid h.doc
  have HS := Lib.hid hs
  have HG := Lib.hid h.good
  have HF := Lib.hid hfit
  have HU := ho.u
  have HI := ho.id
  have HV := ho.v
  dsimp only at HU HI HV
  unfold z4 at hW
  have HW := Lib.hid hW
  have HQ := Lib.hid hq
  have BX := Lib.hid hbx.1
  have hyes := hs.markVA h.good u on hin
  have ER : Hid (F.errV u = 0) := Lib.hid hyes.1
  have BS : Hid (Beside (F.markVA u on) ⟨d.vs, d.es, markL d.mv u on, d.me⟩) := Lib.hid hyes.2
  have IN : Hid (u ∈ d.vs) := Lib.hid ((hs.mem u).2 hin)
  clear hyes hin
  clear hW hq hbx h ho hs hfit
  go_enter Try.func10, Try.ntmps10
  go_upto_region 1 with fail
  rw [← HW.out]
  try simp only [← HQ.out]
  have c0 := BX.out.b0.cell 0
  have cr0 := BX.out.b1.cell 0
  have cf0 := BX.out.b1.frozen 0
  have c1 := BX.out.b0.cell 1
  have cr1 := BX.out.b1.cell 1
  have cf1 := BX.out.b1.frozen 1
  have c2 := BX.out.b0.cell 2
  have cr2 := BX.out.b1.cell 2
  have cf2 := BX.out.b1.frozen 2
  have c3 := BX.out.b0.cell 3
  have cr3 := BX.out.b1.cell 3
  have cf3 := BX.out.b1.frozen 3
  have co0 := BX.out.bo.cell 0
  have co1 := BX.out.bo.cell 1
  have co2 := BX.out.bo.cell 2
  have co3 := BX.out.bo.cell 3
  have co4 := BX.out.bo.cell 4
  try dsimp only at co0 co1 co2 co3 co4
  go_wp2_with fail
  refine (tMarkV T1.out u HU on).mono ?_
  rw [ER.out]
  rintro r w2 ⟨rfl, t2, k2⟩
  have BX2 := Lib.hid (BX.out.keep k2)
  have T2 := Lib.hid t2
  have K2 := Lib.hid (K0.out.trans k2)
  clear t2 k2 c0 cr0 cf0 c1 cr1 cf1 c2 cr2 cf2 c3 cr3 cf3 co0 co1 co2 co3 co4
  have d0 := BX2.out.b0.cell 0
  have dr0 := BX2.out.b1.cell 0
  have df0 := BX2.out.b1.frozen 0
  have d1 := BX2.out.b0.cell 1
  have dr1 := BX2.out.b1.cell 1
  have df1 := BX2.out.b1.frozen 1
  have d2 := BX2.out.b0.cell 2
  have dr2 := BX2.out.b1.cell 2
  have df2 := BX2.out.b1.frozen 2
  have d3 := BX2.out.b0.cell 3
  have dr3 := BX2.out.b1.cell 3
  have df3 := BX2.out.b1.frozen 3
  have do0 := BX2.out.bo.cell 0
  have do1 := BX2.out.bo.cell 1
  have do2 := BX2.out.bo.cell 2
  have do3 := BX2.out.bo.cell 3
  have do4 := BX2.out.bo.cell 4
  try dsimp only at do0 do1 do2 do3 do4
  go_wp2_with fail
  refine (has_any _ d.vs w2 _ T2.out.doc.vs u).mono ?_
  rw [decide_eq_true IN.out]
  rintro r wx ⟨rfl, hwx⟩
  rw [hwx]
  clear hwx wx
  have TX := T2
  have BXX := BX2
  have KX := K2
  obtain ⟨wx, hwx⟩ : ∃ wx, wx = w2 := ⟨_, rfl⟩
  rw [← hwx] at TX BXX KX
  have LT : Hid (q + 2 < wx.heap.size) := Lib.hid BXX.out.b1.lt
  subst hwx
  go_wp2_with fail
  refine (refMark_any _ d.mv u on wx TX.out.doc.mv HF.out.2.1).mono ?_
  rintro r w5 ⟨x, rfl, o5, b5⟩
  obtain ⟨Ax, cx, hx, -, -, -, -⟩ := (o5.rk encI_len (Nat.le_refl _)).open_
  obtain ⟨nx, hnx⟩ : ∃ nx, nx = (markL d.mv u on).length := ⟨_, rfl⟩
  rw [← hnx] at hx
  subst hx
  have t5 := TX.out.setMv b5 o5
  have BX5 := Lib.hid (BXX.out.keep (Kept.of_below b5))
  have on5 : OldNew wx (.slice none 0 0) (.slice Ax nx cx) := .inr fun k hk => o5.blkOf hk
  have lt0 : q < wx.heap.size := by have := LT.out; omega
  have offO : ∀ qq, wr.heap.size ≤ qq → qq < wx.heap.size → InQ (fun k => k ≠ qq) (.slice X0 n0 m0) d.vs ∧ InQ (fun k => k ≠ qq) (.slice X1 n1 m1) d.es ∧ InQ (fun k => k ≠ qq) (.slice X2 n2 m2) d.mv ∧ InQ (fun k => k ≠ qq) (.slice X3 n3 m3) d.me ∧ InQ (fun k => k ≠ qq) (.slice Ax nx cx) (markL d.mv u on) := fun qq h1 h2 =>
    ⟨off_new DD.out.vs t5.doc.vs (.old wx _) h1 h2, off_new DD.out.es t5.doc.es (.old wx _) h1 h2, off_new DD.out.mv (TX.out.doc.mv) (.old wx _) h1 h2, off_new DD.out.me (TX.out.doc.me) (.old wx _) h1 h2, fun _ k hk => by have := o5.blkOf hk; show k ≠ qq; omega⟩
  have f1 := offO q HL.out.2.2.1 lt0
  have f2 := offO (q + 2) HL.out.2.2.2 LT.out
  have t6 := t5.far (i := 2) BX5.out.b0 notF_D HL.out.1 f1.1 f1.2.1 f1.2.2.2.2 f1.2.2.2.1 (.slice Ax nx cx)
  obtain ⟨W6, hW6⟩ : ∃ W6, W6 = w5.setCell ⟨q, 2, none⟩ (.slice Ax nx cx) := ⟨_, rfl⟩
  rw [← hW6] at t6
  have kb0 : Blk W6 q 31 #[.slice X0 n0 m0, .slice X1 n1 m1, .slice Ax nx cx, .slice X3 n3 m3] := by rw [hW6]; exact BX5.out.b0.set_ 2 _
  have kb1 : Blk W6 (q + 2) 31 #[.slice none 0 0, .slice none 0 0, .slice none 0 0, .slice none 0 0] := by rw [hW6]; exact BX5.out.b1.far (p := ⟨q, 2, none⟩) (show q + 2 ≠ q by omega) _
  have HD := Lib.hid (t6.far4 kb1 notF_D HL.out.2.1 f2.1 f2.2.1 f2.2.2.2.2 f2.2.2.2.1 (.slice X0 n0 m0) (.slice X1 n1 m1) (.slice Ax nx cx) (.slice X3 n3 m3))
  have k6 := ((KX.out.trans (Kept.of_below b5)).far (i := 2) HL.out.2.2.1 (.slice Ax nx cx))
  rw [← hW6] at k6
  have KF := Lib.hid (k6.far4 HL.out.2.2.2 (.slice X0 n0 m0) (.slice X1 n1 m1) (.slice Ax nx cx) (.slice X3 n3 m3))
  have ON : Hid (OldNew wr (.slice Ax nx cx) (.slice Ax nx cx) ∧ OldNew wr (.slice X2 n2 m2) (.slice Ax nx cx)) := Lib.hid ⟨.old _ _, .inr fun k hk => Nat.le_trans KX.out.1 (o5.blkOf hk)⟩
  clear k6
  have g0 := kb0.cell 0
  have g1 := kb0.cell 1
  have g2 := kb0.cell 2
  have g3 := kb0.cell 3
  have h0 := kb1.cell 0
  have h1 := kb1.cell 1
  have h2 := kb1.cell 2
  have h3 := kb1.cell 3
  have z0 := kb1.frozen 0
  have z1 := kb1.frozen 1
  have z2 := kb1.frozen 2
  have z3 := kb1.frozen 3
  have zf := BX5.out.b0.frozen 2
  have zc := BX5.out.b0.cell 2
  have HW6 := Lib.hid hW6
  clear o5 b5 t5 on5 offO f1 f2 t6 kb0 kb1 hW6 lt0 hnx d0 dr0 df0 d1 dr1 df1 d2 dr2 df2 d3 dr3 df3 do0 do1 do2 do3 do4
  go_upto_region 23 with fail
  rw [← HW6.out]
  clear zf zc
  obtain ⟨X, hX⟩ : ∃ X, X = Value.agg #[.slice X0 n0 m0, .slice X1 n1 m1, .slice Ax nx cx, .slice X3 n3 m3] := ⟨_, rfl⟩
  go_wp2_with fail
  refine ret_cell_tmp2 (p := 6) (u := 7) (v := X) rfl rfl rfl (by rw [hX]; go_simp) rfl ⟨_, _, _, _, _, (by rw [hX]; rfl), HD.out, BS.out, KF.out, .old _ _, .old _ _, ON.out.2, .old _ _⟩

set_option maxRecDepth 100000 in
set_option maxHeartbeats 8000000 in
theorem changes_5n (w wr : World) (f : Nat) (F : FS) (d : DF) (a b c e : Value) (h : Two w wr f F d a b c e) (hs : Beside F d) (id u v : Int) (on : Bool) (ho : OpE.At ⟨5, id, u, v, on⟩) (hin : ¬ (u ∈ F.vs)) :
    Calls Try.prog 10 #[.pointer (some ⟨f, 0, none⟩), .agg #[a, b, c, e], .agg #[.int .i64 5, .int .i64 id, .int .i64 u, .int .i64 v, .bool on]] wr fun r w' => ChOut w wr f (F) a b c e r w' := by
  have hfit := hs.fit h.good
  obtain ⟨X0, n0, m0, X1, n1, m1, X2, n2, m2, X3, n3, m3, rfl, rfl, rfl, rfl⟩ := h.doc.sl4
  obtain ⟨W, hW⟩ : ∃ W, W = ((wr.alloc (.cells #[.slice X0 n0 m0, .slice X1 n1 m1, .slice X2 n2 m2, .slice X3 n3 m3] 31)).alloc (Obj.cells #[.int .i64 5, .int .i64 id, .int .i64 u, .int .i64 v, .bool on] 33)).alloc z4 := ⟨_, rfl⟩
  obtain ⟨q, hq⟩ : ∃ q, q = wr.heap.size := ⟨_, rfl⟩
  have hbx := box7 wr (.slice X0 n0 m0) (.slice X1 n1 m1) (.slice X2 n2 m2) (.slice X3 n3 m3) ⟨5, id, u, v, on⟩
  dsimp only at hbx
  rw [← hW] at hbx
  have T1 := Lib.hid (h.below hbx.2)
  have HL : Hid (w.heap.size ≤ q ∧ w.heap.size ≤ q + 2 ∧ wr.heap.size ≤ q ∧ wr.heap.size ≤ q + 2) := Lib.hid (by have := h.low.size; omega)
  have K0 := Lib.hid (Kept.of_below hbx.2)
  rw [← hq] at hbx
  have DD := Lib.hid h.doc
  have HS := Lib.hid hs
  have HG := Lib.hid h.good
  have HF := Lib.hid hfit
  have HU := ho.u
  have HI := ho.id
  have HV := ho.v
  dsimp only at HU HI HV
  unfold z4 at hW
  have HW := Lib.hid hW
  have HQ := Lib.hid hq
  have BX := Lib.hid hbx.1
  have hno := hs.markVA_no h.good u on hin
  have ER : Hid (F.errV u = 51) := Lib.hid hno.1
  have FE : Hid (F.markVA u on = F) := Lib.hid hno.2
  have IN : Hid (¬ u ∈ d.vs) := Lib.hid (fun hm => hin ((hs.mem u).1 hm))
  clear hno hin
  clear hW hq hbx h ho hs hfit
  go_enter Try.func10, Try.ntmps10
  go_upto_region 1 with fail
  rw [← HW.out]
  try simp only [← HQ.out]
  have c0 := BX.out.b0.cell 0
  have cr0 := BX.out.b1.cell 0
  have cf0 := BX.out.b1.frozen 0
  have c1 := BX.out.b0.cell 1
  have cr1 := BX.out.b1.cell 1
  have cf1 := BX.out.b1.frozen 1
  have c2 := BX.out.b0.cell 2
  have cr2 := BX.out.b1.cell 2
  have cf2 := BX.out.b1.frozen 2
  have c3 := BX.out.b0.cell 3
  have cr3 := BX.out.b1.cell 3
  have cf3 := BX.out.b1.frozen 3
  have co0 := BX.out.bo.cell 0
  have co1 := BX.out.bo.cell 1
  have co2 := BX.out.bo.cell 2
  have co3 := BX.out.bo.cell 3
  have co4 := BX.out.bo.cell 4
  try dsimp only at co0 co1 co2 co3 co4
  go_wp2_with fail
  refine (tMarkV T1.out u HU on).mono ?_
  rw [ER.out, FE.out]
  rintro r w2 ⟨rfl, t2, k2⟩
  have BX2 := Lib.hid (BX.out.keep k2)
  have T2 := Lib.hid t2
  have K2 := Lib.hid (K0.out.trans k2)
  clear t2 k2 c0 cr0 cf0 c1 cr1 cf1 c2 cr2 cf2 c3 cr3 cf3 co0 co1 co2 co3 co4
  have d0 := BX2.out.b0.cell 0
  have dr0 := BX2.out.b1.cell 0
  have df0 := BX2.out.b1.frozen 0
  have d1 := BX2.out.b0.cell 1
  have dr1 := BX2.out.b1.cell 1
  have df1 := BX2.out.b1.frozen 1
  have d2 := BX2.out.b0.cell 2
  have dr2 := BX2.out.b1.cell 2
  have df2 := BX2.out.b1.frozen 2
  have d3 := BX2.out.b0.cell 3
  have dr3 := BX2.out.b1.cell 3
  have df3 := BX2.out.b1.frozen 3
  have do0 := BX2.out.bo.cell 0
  have do1 := BX2.out.bo.cell 1
  have do2 := BX2.out.bo.cell 2
  have do3 := BX2.out.bo.cell 3
  have do4 := BX2.out.bo.cell 4
  try dsimp only at do0 do1 do2 do3 do4
  go_wp2_with fail
  refine (has_any _ d.vs w2 _ T2.out.doc.vs u).mono ?_
  rw [decide_eq_false IN.out]
  rintro r wx ⟨rfl, hwx⟩
  rw [hwx]
  clear hwx wx
  have lt2 := BX2.out.b1.lt
  have TX := T2
  have BXX := BX2
  have KX := K2
  have HD := Lib.hid (TX.out.far4 BXX.out.b1 notF_D HL.out.2.1 (off_new DD.out.vs TX.out.doc.vs (.old _ _) HL.out.2.2.2 lt2) (off_new DD.out.es TX.out.doc.es (.old _ _) HL.out.2.2.2 lt2) (off_new DD.out.mv TX.out.doc.mv (.old _ _) HL.out.2.2.2 lt2) (off_new DD.out.me TX.out.doc.me (.old _ _) HL.out.2.2.2 lt2) (.slice X0 n0 m0) (.slice X1 n1 m1) (.slice X2 n2 m2) (.slice X3 n3 m3))
  have KF := Lib.hid (KX.out.far4 HL.out.2.2.2 (.slice X0 n0 m0) (.slice X1 n1 m1) (.slice X2 n2 m2) (.slice X3 n3 m3))
  clear lt2
  obtain ⟨X, hX⟩ : ∃ X, X = Value.agg #[.slice X0 n0 m0, .slice X1 n1 m1, .slice X2 n2 m2, .slice X3 n3 m3] := ⟨_, rfl⟩
  go_wp2_with fail
  refine ret_cell_tmp2 (p := 6) (u := 7) (v := X) rfl rfl rfl (by rw [hX]; go_simp) rfl ⟨_, _, _, _, _, (by rw [hX]; rfl), HD.out, HS.out, KF.out, .old _ _, .old _ _, .old _ _, .old _ _⟩

set_option maxRecDepth 100000 in
set_option maxHeartbeats 8000000 in
theorem changes_6y (w wr : World) (f : Nat) (F : FS) (d : DF) (a b c e : Value) (h : Two w wr f F d a b c e) (hs : Beside F d) (id u v : Int) (on : Bool) (ho : OpE.At ⟨6, id, u, v, on⟩) (hin : id ∈ Proofs.Ytlakcldgolpaiaa.ids F.edges) :
    Calls Try.prog 10 #[.pointer (some ⟨f, 0, none⟩), .agg #[a, b, c, e], .agg #[.int .i64 6, .int .i64 id, .int .i64 u, .int .i64 v, .bool on]] wr fun r w' => ChOut w wr f (F.markEA id on) a b c e r w' := by
  have hfit := hs.fit h.good
  obtain ⟨X0, n0, m0, X1, n1, m1, X2, n2, m2, X3, n3, m3, rfl, rfl, rfl, rfl⟩ := h.doc.sl4
  obtain ⟨W, hW⟩ : ∃ W, W = ((wr.alloc (.cells #[.slice X0 n0 m0, .slice X1 n1 m1, .slice X2 n2 m2, .slice X3 n3 m3] 31)).alloc (Obj.cells #[.int .i64 6, .int .i64 id, .int .i64 u, .int .i64 v, .bool on] 33)).alloc z4 := ⟨_, rfl⟩
  obtain ⟨q, hq⟩ : ∃ q, q = wr.heap.size := ⟨_, rfl⟩
  have hbx := box7 wr (.slice X0 n0 m0) (.slice X1 n1 m1) (.slice X2 n2 m2) (.slice X3 n3 m3) ⟨6, id, u, v, on⟩
  dsimp only at hbx
  rw [← hW] at hbx
  have T1 := Lib.hid (h.below hbx.2)
  have HL : Hid (w.heap.size ≤ q ∧ w.heap.size ≤ q + 2 ∧ wr.heap.size ≤ q ∧ wr.heap.size ≤ q + 2) := Lib.hid (by have := h.low.size; omega)
  have K0 := Lib.hid (Kept.of_below hbx.2)
  rw [← hq] at hbx
  have DD := Lib.hid h.doc
  have HS := Lib.hid hs
  have HG := Lib.hid h.good
  have HF := Lib.hid hfit
  have HU := ho.u
  have HI := ho.id
  have HV := ho.v
  dsimp only at HU HI HV
  unfold z4 at hW
  have HW := Lib.hid hW
  have HQ := Lib.hid hq
  have BX := Lib.hid hbx.1
  have hyes := hs.markEA h.good id on hin
  have ER : Hid (F.errE id = 0) := Lib.hid hyes.1
  have BS : Hid (Beside (F.markEA id on) ⟨d.vs, d.es, d.mv, markL d.me id on⟩) := Lib.hid hyes.2
  have IN : Hid (id ∈ Proofs.Ytlakcldgolpaiaa.ids d.es) := Lib.hid ((hs.ids id).2 hin)
  clear hyes hin
  clear hW hq hbx h ho hs hfit
  go_enter Try.func10, Try.ntmps10
  go_upto_region 1 with fail
  rw [← HW.out]
  try simp only [← HQ.out]
  have c0 := BX.out.b0.cell 0
  have cr0 := BX.out.b1.cell 0
  have cf0 := BX.out.b1.frozen 0
  have c1 := BX.out.b0.cell 1
  have cr1 := BX.out.b1.cell 1
  have cf1 := BX.out.b1.frozen 1
  have c2 := BX.out.b0.cell 2
  have cr2 := BX.out.b1.cell 2
  have cf2 := BX.out.b1.frozen 2
  have c3 := BX.out.b0.cell 3
  have cr3 := BX.out.b1.cell 3
  have cf3 := BX.out.b1.frozen 3
  have co0 := BX.out.bo.cell 0
  have co1 := BX.out.bo.cell 1
  have co2 := BX.out.bo.cell 2
  have co3 := BX.out.bo.cell 3
  have co4 := BX.out.bo.cell 4
  try dsimp only at co0 co1 co2 co3 co4
  go_wp2_with fail
  refine (tMarkE T1.out id HI on).mono ?_
  rw [ER.out]
  rintro r w2 ⟨rfl, t2, k2⟩
  have BX2 := Lib.hid (BX.out.keep k2)
  have T2 := Lib.hid t2
  have K2 := Lib.hid (K0.out.trans k2)
  clear t2 k2 c0 cr0 cf0 c1 cr1 cf1 c2 cr2 cf2 c3 cr3 cf3 co0 co1 co2 co3 co4
  have d0 := BX2.out.b0.cell 0
  have dr0 := BX2.out.b1.cell 0
  have df0 := BX2.out.b1.frozen 0
  have d1 := BX2.out.b0.cell 1
  have dr1 := BX2.out.b1.cell 1
  have df1 := BX2.out.b1.frozen 1
  have d2 := BX2.out.b0.cell 2
  have dr2 := BX2.out.b1.cell 2
  have df2 := BX2.out.b1.frozen 2
  have d3 := BX2.out.b0.cell 3
  have dr3 := BX2.out.b1.cell 3
  have df3 := BX2.out.b1.frozen 3
  have do0 := BX2.out.bo.cell 0
  have do1 := BX2.out.bo.cell 1
  have do2 := BX2.out.bo.cell 2
  have do3 := BX2.out.bo.cell 3
  have do4 := BX2.out.bo.cell 4
  try dsimp only at do0 do1 do2 do3 do4
  go_wp2_with fail
  refine (refEdge_any w2 _ _ _ _ d id T2.out.doc HF.out.1).mono ?_
  rw [decide_eq_true IN.out]
  rintro r w3 ⟨⟨y, rfl⟩, b3⟩
  obtain ⟨y0, y1, y2⟩ := y
  simp only [edV]
  have hb4 : Below w2.heap.size w2 (w3.alloc (Obj.cells #[.int .i64 y0, .int .i64 y1, .int .i64 y2, .int .i64 0] 37)) := b3.alloc b3.size _
  obtain ⟨wx, hwx⟩ : ∃ wx, wx = w3.alloc (Obj.cells #[.int .i64 y0, .int .i64 y1, .int .i64 y2, .int .i64 0] 37) := ⟨_, rfl⟩
  rw [← hwx] at hb4
  have TX := Lib.hid (T2.out.below hb4)
  have BXX := Lib.hid (BX2.out.keep (Kept.of_below hb4))
  have KX := Lib.hid (K2.out.trans (Kept.of_below hb4))
  have LT : Hid (q + 2 < wx.heap.size) := Lib.hid BXX.out.b1.lt
  have HWX := Lib.hid hwx
  clear b3 hb4 hwx d0 dr0 df0 d1 dr1 df1 d2 dr2 df2 d3 dr3 df3 do0 do1 do2 do3 do4
  have e0 := BXX.out.b0.cell 0
  have er0 := BXX.out.b1.cell 0
  have ef0 := BXX.out.b1.frozen 0
  have e1 := BXX.out.b0.cell 1
  have er1 := BXX.out.b1.cell 1
  have ef1 := BXX.out.b1.frozen 1
  have e2 := BXX.out.b0.cell 2
  have er2 := BXX.out.b1.cell 2
  have ef2 := BXX.out.b1.frozen 2
  have e3 := BXX.out.b0.cell 3
  have er3 := BXX.out.b1.cell 3
  have ef3 := BXX.out.b1.frozen 3
  have eo0 := BXX.out.bo.cell 0
  have eo1 := BXX.out.bo.cell 1
  have eo2 := BXX.out.bo.cell 2
  have eo3 := BXX.out.bo.cell 3
  have eo4 := BXX.out.bo.cell 4
  try dsimp only at eo0 eo1 eo2 eo3 eo4
  go_upto_region 27 with fail
  rw [← HWX.out]
  go_wp2_with fail
  refine (refMark_any _ d.me id on wx TX.out.doc.me HF.out.2.2).mono ?_
  rintro r w5 ⟨x, rfl, o5, b5⟩
  obtain ⟨Ax, cx, hx, -, -, -, -⟩ := (o5.rk encI_len (Nat.le_refl _)).open_
  obtain ⟨nx, hnx⟩ : ∃ nx, nx = (markL d.me id on).length := ⟨_, rfl⟩
  rw [← hnx] at hx
  subst hx
  have t5 := TX.out.setMe b5 o5
  have BX5 := Lib.hid (BXX.out.keep (Kept.of_below b5))
  have on5 : OldNew wx (.slice none 0 0) (.slice Ax nx cx) := .inr fun k hk => o5.blkOf hk
  have lt0 : q < wx.heap.size := by have := LT.out; omega
  have offO : ∀ qq, wr.heap.size ≤ qq → qq < wx.heap.size → InQ (fun k => k ≠ qq) (.slice X0 n0 m0) d.vs ∧ InQ (fun k => k ≠ qq) (.slice X1 n1 m1) d.es ∧ InQ (fun k => k ≠ qq) (.slice X2 n2 m2) d.mv ∧ InQ (fun k => k ≠ qq) (.slice X3 n3 m3) d.me ∧ InQ (fun k => k ≠ qq) (.slice Ax nx cx) (markL d.me id on) := fun qq h1 h2 =>
    ⟨off_new DD.out.vs t5.doc.vs (.old wx _) h1 h2, off_new DD.out.es t5.doc.es (.old wx _) h1 h2, off_new DD.out.mv (TX.out.doc.mv) (.old wx _) h1 h2, off_new DD.out.me (TX.out.doc.me) (.old wx _) h1 h2, fun _ k hk => by have := o5.blkOf hk; show k ≠ qq; omega⟩
  have f1 := offO q HL.out.2.2.1 lt0
  have f2 := offO (q + 2) HL.out.2.2.2 LT.out
  have t6 := t5.far (i := 3) BX5.out.b0 notF_D HL.out.1 f1.1 f1.2.1 f1.2.2.1 f1.2.2.2.2 (.slice Ax nx cx)
  obtain ⟨W6, hW6⟩ : ∃ W6, W6 = w5.setCell ⟨q, 3, none⟩ (.slice Ax nx cx) := ⟨_, rfl⟩
  rw [← hW6] at t6
  have kb0 : Blk W6 q 31 #[.slice X0 n0 m0, .slice X1 n1 m1, .slice X2 n2 m2, .slice Ax nx cx] := by rw [hW6]; exact BX5.out.b0.set_ 3 _
  have kb1 : Blk W6 (q + 2) 31 #[.slice none 0 0, .slice none 0 0, .slice none 0 0, .slice none 0 0] := by rw [hW6]; exact BX5.out.b1.far (p := ⟨q, 3, none⟩) (show q + 2 ≠ q by omega) _
  have HD := Lib.hid (t6.far4 kb1 notF_D HL.out.2.1 f2.1 f2.2.1 f2.2.2.1 f2.2.2.2.2 (.slice X0 n0 m0) (.slice X1 n1 m1) (.slice X2 n2 m2) (.slice Ax nx cx))
  have k6 := ((KX.out.trans (Kept.of_below b5)).far (i := 3) HL.out.2.2.1 (.slice Ax nx cx))
  rw [← hW6] at k6
  have KF := Lib.hid (k6.far4 HL.out.2.2.2 (.slice X0 n0 m0) (.slice X1 n1 m1) (.slice X2 n2 m2) (.slice Ax nx cx))
  have ON : Hid (OldNew wr (.slice Ax nx cx) (.slice Ax nx cx) ∧ OldNew wr (.slice X3 n3 m3) (.slice Ax nx cx)) := Lib.hid ⟨.old _ _, .inr fun k hk => Nat.le_trans KX.out.1 (o5.blkOf hk)⟩
  clear k6
  have g0 := kb0.cell 0
  have g1 := kb0.cell 1
  have g2 := kb0.cell 2
  have g3 := kb0.cell 3
  have h0 := kb1.cell 0
  have h1 := kb1.cell 1
  have h2 := kb1.cell 2
  have h3 := kb1.cell 3
  have z0 := kb1.frozen 0
  have z1 := kb1.frozen 1
  have z2 := kb1.frozen 2
  have z3 := kb1.frozen 3
  have zf := BX5.out.b0.frozen 3
  have zc := BX5.out.b0.cell 3
  have HW6 := Lib.hid hW6
  clear o5 b5 t5 on5 offO f1 f2 t6 kb0 kb1 hW6 lt0 hnx e0 er0 ef0 e1 er1 ef1 e2 er2 ef2 e3 er3 ef3 eo0 eo1 eo2 eo3 eo4
  go_upto_region 30 with fail
  rw [← HW6.out]
  clear zf zc
  obtain ⟨X, hX⟩ : ∃ X, X = Value.agg #[.slice X0 n0 m0, .slice X1 n1 m1, .slice X2 n2 m2, .slice Ax nx cx] := ⟨_, rfl⟩
  go_wp2_with fail
  refine ret_cell_tmp2 (p := 6) (u := 7) (v := X) rfl rfl rfl (by rw [hX]; go_simp) rfl ⟨_, _, _, _, _, (by rw [hX]; rfl), HD.out, BS.out, KF.out, .old _ _, .old _ _, .old _ _, ON.out.2⟩

set_option maxRecDepth 100000 in
set_option maxHeartbeats 8000000 in
theorem changes_6n (w wr : World) (f : Nat) (F : FS) (d : DF) (a b c e : Value) (h : Two w wr f F d a b c e) (hs : Beside F d) (id u v : Int) (on : Bool) (ho : OpE.At ⟨6, id, u, v, on⟩) (hin : ¬ (id ∈ Proofs.Ytlakcldgolpaiaa.ids F.edges)) :
    Calls Try.prog 10 #[.pointer (some ⟨f, 0, none⟩), .agg #[a, b, c, e], .agg #[.int .i64 6, .int .i64 id, .int .i64 u, .int .i64 v, .bool on]] wr fun r w' => ChOut w wr f (F) a b c e r w' := by
  have hfit := hs.fit h.good
  obtain ⟨X0, n0, m0, X1, n1, m1, X2, n2, m2, X3, n3, m3, rfl, rfl, rfl, rfl⟩ := h.doc.sl4
  obtain ⟨W, hW⟩ : ∃ W, W = ((wr.alloc (.cells #[.slice X0 n0 m0, .slice X1 n1 m1, .slice X2 n2 m2, .slice X3 n3 m3] 31)).alloc (Obj.cells #[.int .i64 6, .int .i64 id, .int .i64 u, .int .i64 v, .bool on] 33)).alloc z4 := ⟨_, rfl⟩
  obtain ⟨q, hq⟩ : ∃ q, q = wr.heap.size := ⟨_, rfl⟩
  have hbx := box7 wr (.slice X0 n0 m0) (.slice X1 n1 m1) (.slice X2 n2 m2) (.slice X3 n3 m3) ⟨6, id, u, v, on⟩
  dsimp only at hbx
  rw [← hW] at hbx
  have T1 := Lib.hid (h.below hbx.2)
  have HL : Hid (w.heap.size ≤ q ∧ w.heap.size ≤ q + 2 ∧ wr.heap.size ≤ q ∧ wr.heap.size ≤ q + 2) := Lib.hid (by have := h.low.size; omega)
  have K0 := Lib.hid (Kept.of_below hbx.2)
  rw [← hq] at hbx
  have DD := Lib.hid h.doc
  have HS := Lib.hid hs
  have HG := Lib.hid h.good
  have HF := Lib.hid hfit
  have HU := ho.u
  have HI := ho.id
  have HV := ho.v
  dsimp only at HU HI HV
  unfold z4 at hW
  have HW := Lib.hid hW
  have HQ := Lib.hid hq
  have BX := Lib.hid hbx.1
  have hno := hs.markEA_no h.good id on hin
  have ER : Hid (F.errE id = 152) := Lib.hid hno.1
  have FE : Hid (F.markEA id on = F) := Lib.hid hno.2
  have IN : Hid (¬ id ∈ Proofs.Ytlakcldgolpaiaa.ids d.es) := Lib.hid (fun hm => hin ((hs.ids id).1 hm))
  clear hno hin
  clear hW hq hbx h ho hs hfit
  go_enter Try.func10, Try.ntmps10
  go_upto_region 1 with fail
  rw [← HW.out]
  try simp only [← HQ.out]
  have c0 := BX.out.b0.cell 0
  have cr0 := BX.out.b1.cell 0
  have cf0 := BX.out.b1.frozen 0
  have c1 := BX.out.b0.cell 1
  have cr1 := BX.out.b1.cell 1
  have cf1 := BX.out.b1.frozen 1
  have c2 := BX.out.b0.cell 2
  have cr2 := BX.out.b1.cell 2
  have cf2 := BX.out.b1.frozen 2
  have c3 := BX.out.b0.cell 3
  have cr3 := BX.out.b1.cell 3
  have cf3 := BX.out.b1.frozen 3
  have co0 := BX.out.bo.cell 0
  have co1 := BX.out.bo.cell 1
  have co2 := BX.out.bo.cell 2
  have co3 := BX.out.bo.cell 3
  have co4 := BX.out.bo.cell 4
  try dsimp only at co0 co1 co2 co3 co4
  go_wp2_with fail
  refine (tMarkE T1.out id HI on).mono ?_
  rw [ER.out, FE.out]
  rintro r w2 ⟨rfl, t2, k2⟩
  have BX2 := Lib.hid (BX.out.keep k2)
  have T2 := Lib.hid t2
  have K2 := Lib.hid (K0.out.trans k2)
  clear t2 k2 c0 cr0 cf0 c1 cr1 cf1 c2 cr2 cf2 c3 cr3 cf3 co0 co1 co2 co3 co4
  have d0 := BX2.out.b0.cell 0
  have dr0 := BX2.out.b1.cell 0
  have df0 := BX2.out.b1.frozen 0
  have d1 := BX2.out.b0.cell 1
  have dr1 := BX2.out.b1.cell 1
  have df1 := BX2.out.b1.frozen 1
  have d2 := BX2.out.b0.cell 2
  have dr2 := BX2.out.b1.cell 2
  have df2 := BX2.out.b1.frozen 2
  have d3 := BX2.out.b0.cell 3
  have dr3 := BX2.out.b1.cell 3
  have df3 := BX2.out.b1.frozen 3
  have do0 := BX2.out.bo.cell 0
  have do1 := BX2.out.bo.cell 1
  have do2 := BX2.out.bo.cell 2
  have do3 := BX2.out.bo.cell 3
  have do4 := BX2.out.bo.cell 4
  try dsimp only at do0 do1 do2 do3 do4
  go_wp2_with fail
  refine (refEdge_any w2 _ _ _ _ d id T2.out.doc HF.out.1).mono ?_
  rw [decide_eq_false IN.out]
  rintro r w3 ⟨⟨y, rfl⟩, b3⟩
  obtain ⟨y0, y1, y2⟩ := y
  simp only [edV]
  have hb4 : Below w2.heap.size w2 (w3.alloc (Obj.cells #[.int .i64 y0, .int .i64 y1, .int .i64 y2, .int .i64 0] 37)) := b3.alloc b3.size _
  obtain ⟨wx, hwx⟩ : ∃ wx, wx = w3.alloc (Obj.cells #[.int .i64 y0, .int .i64 y1, .int .i64 y2, .int .i64 0] 37) := ⟨_, rfl⟩
  rw [← hwx] at hb4
  have TX := Lib.hid (T2.out.below hb4)
  have BXX := Lib.hid (BX2.out.keep (Kept.of_below hb4))
  have KX := Lib.hid (K2.out.trans (Kept.of_below hb4))
  have lt2 := BXX.out.b1.lt
  have HWX := Lib.hid hwx
  clear b3 hb4 hwx d0 dr0 df0 d1 dr1 df1 d2 dr2 df2 d3 dr3 df3 do0 do1 do2 do3 do4
  have e0 := BXX.out.b0.cell 0
  have er0 := BXX.out.b1.cell 0
  have ef0 := BXX.out.b1.frozen 0
  have e1 := BXX.out.b0.cell 1
  have er1 := BXX.out.b1.cell 1
  have ef1 := BXX.out.b1.frozen 1
  have e2 := BXX.out.b0.cell 2
  have er2 := BXX.out.b1.cell 2
  have ef2 := BXX.out.b1.frozen 2
  have e3 := BXX.out.b0.cell 3
  have er3 := BXX.out.b1.cell 3
  have ef3 := BXX.out.b1.frozen 3
  have eo0 := BXX.out.bo.cell 0
  have eo1 := BXX.out.bo.cell 1
  have eo2 := BXX.out.bo.cell 2
  have eo3 := BXX.out.bo.cell 3
  have eo4 := BXX.out.bo.cell 4
  try dsimp only at eo0 eo1 eo2 eo3 eo4
  go_upto_region 27 with fail
  rw [← HWX.out]
  have HD := Lib.hid (TX.out.far4 BXX.out.b1 notF_D HL.out.2.1 (off_new DD.out.vs TX.out.doc.vs (.old _ _) HL.out.2.2.2 lt2) (off_new DD.out.es TX.out.doc.es (.old _ _) HL.out.2.2.2 lt2) (off_new DD.out.mv TX.out.doc.mv (.old _ _) HL.out.2.2.2 lt2) (off_new DD.out.me TX.out.doc.me (.old _ _) HL.out.2.2.2 lt2) (.slice X0 n0 m0) (.slice X1 n1 m1) (.slice X2 n2 m2) (.slice X3 n3 m3))
  have KF := Lib.hid (KX.out.far4 HL.out.2.2.2 (.slice X0 n0 m0) (.slice X1 n1 m1) (.slice X2 n2 m2) (.slice X3 n3 m3))
  clear lt2
  obtain ⟨X, hX⟩ : ∃ X, X = Value.agg #[.slice X0 n0 m0, .slice X1 n1 m1, .slice X2 n2 m2, .slice X3 n3 m3] := ⟨_, rfl⟩
  go_wp2_with fail
  refine ret_cell_tmp2 (p := 6) (u := 7) (v := X) rfl rfl rfl (by rw [hX]; go_simp) rfl ⟨_, _, _, _, _, (by rw [hX]; rfl), HD.out, HS.out, KF.out, .old _ _, .old _ _, .old _ _, .old _ _⟩

set_option maxRecDepth 100000 in
set_option maxHeartbeats 8000000 in
theorem changes_0 (w wr : World) (f : Nat) (F : FS) (d : DF) (a b c e : Value) (h : Two w wr f F d a b c e) (hs : Beside F d) (kd id u v : Int) (on : Bool) (ho : OpE.At ⟨kd, id, u, v, on⟩) (hk : kd ≠ 1 ∧ kd ≠ 2 ∧ kd ≠ 3 ∧ kd ≠ 4 ∧ kd ≠ 5 ∧ kd ≠ 6) :
    Calls Try.prog 10 #[.pointer (some ⟨f, 0, none⟩), .agg #[a, b, c, e], .agg #[.int .i64 kd, .int .i64 id, .int .i64 u, .int .i64 v, .bool on]] wr fun r w' => ChOut w wr f (F) a b c e r w' := by
  have hfit := hs.fit h.good
  obtain ⟨X0, n0, m0, X1, n1, m1, X2, n2, m2, X3, n3, m3, rfl, rfl, rfl, rfl⟩ := h.doc.sl4
  obtain ⟨W, hW⟩ : ∃ W, W = ((wr.alloc (.cells #[.slice X0 n0 m0, .slice X1 n1 m1, .slice X2 n2 m2, .slice X3 n3 m3] 31)).alloc (Obj.cells #[.int .i64 kd, .int .i64 id, .int .i64 u, .int .i64 v, .bool on] 33)).alloc z4 := ⟨_, rfl⟩
  obtain ⟨q, hq⟩ : ∃ q, q = wr.heap.size := ⟨_, rfl⟩
  have hbx := box7 wr (.slice X0 n0 m0) (.slice X1 n1 m1) (.slice X2 n2 m2) (.slice X3 n3 m3) ⟨kd, id, u, v, on⟩
  dsimp only at hbx
  rw [← hW] at hbx
  have T1 := Lib.hid (h.below hbx.2)
  have HL : Hid (w.heap.size ≤ q ∧ w.heap.size ≤ q + 2 ∧ wr.heap.size ≤ q ∧ wr.heap.size ≤ q + 2) := Lib.hid (by have := h.low.size; omega)
  have K0 := Lib.hid (Kept.of_below hbx.2)
  rw [← hq] at hbx
  have DD := Lib.hid h.doc
  have HS := Lib.hid hs
  have HG := Lib.hid h.good
  have HF := Lib.hid hfit
  have HU := ho.u
  have HI := ho.id
  have HV := ho.v
  dsimp only at HU HI HV
  unfold z4 at hW
  have HW := Lib.hid hW
  have HQ := Lib.hid hq
  have BX := Lib.hid hbx.1
  obtain ⟨hk1, hk2, hk3, hk4, hk5, hk6⟩ := hk
  clear hW hq hbx h ho hs hfit
  go_enter Try.func10, Try.ntmps10
  go_upto_region 1 with fail
  rw [← HW.out]
  try simp only [← HQ.out]
  have c0 := BX.out.b0.cell 0
  have cr0 := BX.out.b1.cell 0
  have cf0 := BX.out.b1.frozen 0
  have c1 := BX.out.b0.cell 1
  have cr1 := BX.out.b1.cell 1
  have cf1 := BX.out.b1.frozen 1
  have c2 := BX.out.b0.cell 2
  have cr2 := BX.out.b1.cell 2
  have cf2 := BX.out.b1.frozen 2
  have c3 := BX.out.b0.cell 3
  have cr3 := BX.out.b1.cell 3
  have cf3 := BX.out.b1.frozen 3
  have co0 := BX.out.bo.cell 0
  have co1 := BX.out.bo.cell 1
  have co2 := BX.out.bo.cell 2
  have co3 := BX.out.bo.cell 3
  have co4 := BX.out.bo.cell 4
  try dsimp only at co0 co1 co2 co3 co4
  have k1 : (kd == 1) = false := by simpa using hk1
  have k2 : (kd == 2) = false := by simpa using hk2
  have k3 : (kd == 3) = false := by simpa using hk3
  have k4 : (kd == 4) = false := by simpa using hk4
  have k5 : (kd == 5) = false := by simpa using hk5
  have k6 : (kd == 6) = false := by simpa using hk6
  have lt2 := BX.out.b1.lt
  have HD := Lib.hid (T1.out.far4 BX.out.b1 notF_D HL.out.2.1 (off_new DD.out.vs T1.out.doc.vs (.old _ _) HL.out.2.2.2 lt2) (off_new DD.out.es T1.out.doc.es (.old _ _) HL.out.2.2.2 lt2) (off_new DD.out.mv T1.out.doc.mv (.old _ _) HL.out.2.2.2 lt2) (off_new DD.out.me T1.out.doc.me (.old _ _) HL.out.2.2.2 lt2) (.slice X0 n0 m0) (.slice X1 n1 m1) (.slice X2 n2 m2) (.slice X3 n3 m3))
  have KF := Lib.hid (K0.out.far4 HL.out.2.2.2 (.slice X0 n0 m0) (.slice X1 n1 m1) (.slice X2 n2 m2) (.slice X3 n3 m3))
  clear lt2
  obtain ⟨X, hX⟩ : ∃ X, X = Value.agg #[.slice X0 n0 m0, .slice X1 n1 m1, .slice X2 n2 m2, .slice X3 n3 m3] := ⟨_, rfl⟩
  go_wp2_with fail
  refine ret_cell_tmp2 (p := 6) (u := 7) (v := X) rfl rfl rfl (by rw [hX]; go_simp) rfl ⟨_, _, _, _, _, (by rw [hX]; rfl), HD.out, HS.out, KF.out, .old _ _, .old _ _, .old _ _, .old _ _⟩

/-- changes, whatever comes in. -/
theorem changes_any (w wr : World) (f : Nat) (F : FS) (d : DF) (a b c e : Value) (h : Two w wr f F d a b c e) (hs : Beside F d) (kd id u v : Int) (on : Bool) (ho : OpE.At ⟨kd, id, u, v, on⟩) :
    Calls Try.prog 10 #[.pointer (some ⟨f, 0, none⟩), .agg #[a, b, c, e], .agg #[.int .i64 kd, .int .i64 id, .int .i64 u, .int .i64 v, .bool on]] wr fun r w' => ChOut w wr f (F.stepE ⟨kd, id, u, v, on⟩) a b c e r w' := by
  by_cases k1 : kd = 1
  · subst k1
    have e1 : F.stepE ⟨1, id, u, v, on⟩ = F.addA u := by unfold FS.stepE; simp
    rw [e1]
    exact changes_1 w wr f F d a b c e h hs id u v on ho
  by_cases k2 : kd = 2
  · subst k2
    have e1 : F.stepE ⟨2, id, u, v, on⟩ = F.delA u := by unfold FS.stepE; simp
    rw [e1]
    exact changes_2 w wr f F d a b c e h hs id u v on ho
  by_cases k3 : kd = 3
  · subst k3
    have e1 : F.stepE ⟨3, id, u, v, on⟩ = F.linkA id u v := by unfold FS.stepE; simp
    rw [e1]
    exact changes_3 w wr f F d a b c e h hs id u v on ho
  by_cases k4 : kd = 4
  · subst k4
    have e1 : F.stepE ⟨4, id, u, v, on⟩ = F.cutA id := by unfold FS.stepE; simp
    rw [e1]
    exact changes_4 w wr f F d a b c e h hs id u v on ho
  by_cases k5 : kd = 5
  · subst k5
    have e1 : F.stepE ⟨5, id, u, v, on⟩ = F.markVA u on := by unfold FS.stepE; simp
    rw [e1]
    by_cases hin : u ∈ F.vs
    · exact changes_5y w wr f F d a b c e h hs id u v on ho hin
    · rw [(hs.markVA_no h.good u on hin).2]
      exact changes_5n w wr f F d a b c e h hs id u v on ho hin
  by_cases k6 : kd = 6
  · subst k6
    have e1 : F.stepE ⟨6, id, u, v, on⟩ = F.markEA id on := by unfold FS.stepE; simp
    rw [e1]
    by_cases hin : id ∈ Proofs.Ytlakcldgolpaiaa.ids F.edges
    · exact changes_6y w wr f F d a b c e h hs id u v on ho hin
    · rw [(hs.markEA_no h.good id on hin).2]
      exact changes_6n w wr f F d a b c e h hs id u v on ho hin
  have e1 : F.stepE ⟨kd, id, u, v, on⟩ = F := by unfold FS.stepE; simp [k1, k2, k3, k4, k5, k6]
  rw [e1]
  exact changes_0 w wr f F d a b c e h hs kd id u v on ho ⟨k1, k2, k3, k4, k5, k6⟩

end Go.Proofs.Ytlakcldgolpaiaa

/-
  The law's tells at both forests: they tell alike.
-/
namespace Go.Proofs.Ytlakcldgolpaiaa
open Go.RowKit Go.Maps
set_option linter.unusedVariables false

/-- Both forests, a box with the document's, and what was made since. -/
structure Tl (w wr wx : World) (f : Nat) (F : FS) (d : DF) (p : Nat) (a b c e : Value) : Prop where
  two : Two w wx f F d a b c e
  box : Blk wx p 31 #[a, b, c, e]
  low : Below wr.heap.size wr wx

theorem Tl.below {w wr wx w' : World} {f : Nat} {F : FS} {d : DF} {p : Nat} {a b c e : Value} (h : Tl w wr wx f F d p a b c e) (hb : Below wx.heap.size wx w') : Tl w wr w' f F d p a b c e := ⟨h.two.below hb, h.box.below hb h.box.lt, h.low.trans (hb.mono h.low.size)⟩

theorem Tl.four {w wr wx : World} {f : Nat} {F : FS} {d : DF} {p : Nat} {a b c e : Value} (h : Tl w wr wx f F d p a b c e) : wx.cell? ⟨p, 0, none⟩ = some a ∧ wx.cell? ⟨p, 1, none⟩ = some b ∧ wx.cell? ⟨p, 2, none⟩ = some c ∧ wx.cell? ⟨p, 3, none⟩ = some e := ⟨h.box.cell 0, h.box.cell 1, h.box.cell 2, h.box.cell 3⟩

theorem Tl.drew {w wr wx : World} {f : Nat} {F : FS} {d : DF} {p : Nat} {a b c e : Value} (h : Tl w wr wx f F d p a b c e) : Tl w wr wx.drew f F d p a b c e := h.below (Below.refl _ _).drew

theorem bthen {w8 wx wz : World} (h : Below w8.heap.size w8 wx) (hz : Below wx.heap.size wx wz) : Below w8.heap.size w8 wz := h.trans (hz.mono h.size)

/-- What both hold of one vertex's tree. -/
theorem someOk_any {V M : List Int} {P Q : Int → Prop} {x : Int} (hV : ∀ i, i ∈ V ↔ P i) (hM : ∀ i, i ∈ M ↔ Q i) (h : SomeOk (fun i => P i ∧ Q i) x) : x ∈ V ∧ x ∈ M ∨ (∀ i ∈ V, i ∉ M) ∧ x = 0 := by
  rcases h with ⟨h1, h2⟩ | ⟨h1, h2⟩
  · exact .inl ⟨(hV x).2 h1, (hM x).2 h2⟩
  · exact .inr ⟨fun i hi hm => h1 i ⟨(hV i).1 hi, (hM i).1 hm⟩, h2⟩

set_option maxRecDepth 100000 in
set_option maxHeartbeats 8000000 in
theorem tells_no (w wr : World) (f : Nat) (F : FS) (d : DF) (a b c e : Value) (h : Two w wr f F d a b c e) (hs : Beside F d) (u v : Int) (hu : I64 u) (hv : I64 v) (hin : u ∉ F.vs) :
    Calls Try.prog 14 #[.pointer (some ⟨f, 0, none⟩), .agg #[a, b, c, e], .int .i64 u, .int .i64 v] wr fun r w' => r = .returned (.bool true) ∧ Below wr.heap.size wr w' := by
  have hfit := hs.fit h.good
  obtain ⟨X0, n0, m0, X1, n1, m1, X2, n2, m2, X3, n3, m3, rfl, rfl, rfl, rfl⟩ := h.doc.sl4
  obtain ⟨W, hW⟩ : ∃ W, W = wr.alloc (.cells #[.slice X0 n0 m0, .slice X1 n1 m1, .slice X2 n2 m2, .slice X3 n3 m3] 31) := ⟨_, rfl⟩
  obtain ⟨p, hp⟩ : ∃ p, p = wr.heap.size := ⟨_, rfl⟩
  have hb : Below wr.heap.size wr W := by rw [hW]; exact (Below.refl _ _).alloc (Nat.le_refl _) _
  have T0 : Hid (Tl w wr W f F d p (.slice X0 n0 m0) (.slice X1 n1 m1) (.slice X2 n2 m2) (.slice X3 n3 m3)) := Lib.hid ⟨h.below hb, by rw [hW, hp]; exact Blk.new _ _ _, hb⟩
  have HS := Lib.hid hs
  have HG := Lib.hid h.good
  have HF := Lib.hid hfit
  have HW := Lib.hid hW
  have HP := Lib.hid hp
  have IN := Lib.hid hin
  have ND : Hid (u ∉ d.vs) := Lib.hid (fun hm => hin ((hs.mem u).1 hm))
  have EV := Lib.hid (F.errV_out hin)
  have LV := Lib.hid (F.outV hin)
  have LE := Lib.hid (F.outE hin)
  have JB : Hid (F.joinB u v = false) := Lib.hid (F.joinB_no fun e => hin e.1)
  have JX : Hid (F.joinX u v = 51) := Lib.hid (by unfold FS.joinX; rw [if_neg (fun e => hin e.1)])
  clear hW hp hb h hs hfit hin
  go_enter Try.func14, Try.ntmps14
  go_upto_region 1 with fail
  rw [← HW.out]
  try simp only [← HP.out]
  obtain ⟨c0, c1, c2, c3⟩ := T0.out.four
  go_wp2_with fail
  refine (has_any _ d.vs _ _ T0.out.two.doc.vs u).mono ?_
  rw [decide_eq_false ND.out]
  rintro r wx ⟨rfl, hwx⟩
  rw [hwx]
  clear hwx wx
  clear c0 c1 c2 c3
  go_wp2_with fail
  refine (tVerts T0.out.two u hu).mono ?_
  rw [EV.out, LV.out]
  rintro r w1 ⟨x1, rfl, o1, b1⟩
  obtain ⟨A1, k1, hx1, -, -, -, -⟩ := (o1.rk encI_len (Nat.le_refl _)).open_
  simp only [List.length_nil] at hx1
  subst hx1
  have R1 := Lib.hid (o1.rk encI_len (Nat.le_refl _))
  have T1 := Lib.hid (T0.out.below b1)
  clear o1 b1
  go_wp2_with fail
  refine (tEdges T1.out.two u hu).mono ?_
  rw [EV.out, LE.out]
  rintro r w2 ⟨x2, rfl, o2, b2⟩
  obtain ⟨A2, k2, hx2, -, -, -, -⟩ := (o2.rk encI_len (Nat.le_refl _)).open_
  simp only [List.length_nil] at hx2
  subst hx2
  have R2 := Lib.hid (o2.rk encI_len (Nat.le_refl _))
  have Q1 := Lib.hid ((R1.out.below b2).more b2.size)
  have T2 := Lib.hid (T1.out.below b2)
  clear o2 b2
  go_wp2_with fail
  refine (tSize T2.out.two u hu).mono ?_
  rw [EV.out, LV.out]
  simp only [List.length_nil]
  rintro r w3 ⟨rfl, b3⟩
  have T3 := Lib.hid (T2.out.below b3)
  have Q2 := Lib.hid ((Q1.out.below b3).more b3.size)
  have S2 := Lib.hid ((R2.out.below b3).more b3.size)
  clear b3
  go_wp2_with fail
  refine (tSomeV T3.out.two u hu).mono ?_
  rw [EV.out]
  rintro r w4 ⟨⟨x, rfl, hx1, hx2⟩, b4⟩
  have SX := hx2 IN.out
  subst SX
  have T4 := Lib.hid (T3.out.below b4)
  have Q3 := Lib.hid ((Q2.out.below b4).more b4.size)
  have S3 := Lib.hid ((S2.out.below b4).more b4.size)
  clear b4 hx1 hx2
  go_wp2_with fail
  refine (tSomeE T4.out.two u hu).mono ?_
  rw [EV.out]
  rintro r w5 ⟨⟨y, rfl, hx1, hx2⟩, b5⟩
  have SY := hx2 IN.out
  subst SY
  have T5 := Lib.hid (T4.out.below b5)
  have Q4 := Lib.hid ((Q3.out.below b5).more b5.size)
  have S4 := Lib.hid ((S3.out.below b5).more b5.size)
  clear b5 hx1 hx2
  go_wp2_with fail
  refine (tJoined T5.out.two u v hu hv).mono ?_
  rw [JB.out, JX.out]
  rintro r wx ⟨rfl, hwx⟩
  rw [hwx]
  clear hwx wx
  go_wp2_with fail
  go_ret
  exact ⟨rfl, T5.out.low⟩

set_option maxRecDepth 100000 in
set_option maxHeartbeats 8000000 in
theorem tells_yes (w wr : World) (f : Nat) (F : FS) (d : DF) (a b c e : Value) (h : Two w wr f F d a b c e) (hs : Beside F d) (u v : Int) (hu : I64 u) (hv : I64 v) (hin : u ∈ F.vs) :
    Calls Try.prog 14 #[.pointer (some ⟨f, 0, none⟩), .agg #[a, b, c, e], .int .i64 u, .int .i64 v] wr fun r w' => r = .returned (.bool true) ∧ Below wr.heap.size wr w' := by
  have hfit := hs.fit h.good
  obtain ⟨X0, n0, m0, X1, n1, m1, X2, n2, m2, X3, n3, m3, rfl, rfl, rfl, rfl⟩ := h.doc.sl4
  obtain ⟨W, hW⟩ : ∃ W, W = wr.alloc (.cells #[.slice X0 n0 m0, .slice X1 n1 m1, .slice X2 n2 m2, .slice X3 n3 m3] 31) := ⟨_, rfl⟩
  obtain ⟨p, hp⟩ : ∃ p, p = wr.heap.size := ⟨_, rfl⟩
  have hb : Below wr.heap.size wr W := by rw [hW]; exact (Below.refl _ _).alloc (Nat.le_refl _) _
  have T0 : Hid (Tl w wr W f F d p (.slice X0 n0 m0) (.slice X1 n1 m1) (.slice X2 n2 m2) (.slice X3 n3 m3)) := Lib.hid ⟨h.below hb, by rw [hW, hp]; exact Blk.new _ _ _, hb⟩
  have HS := Lib.hid hs
  have HG := Lib.hid h.good
  have HF := Lib.hid hfit
  have HW := Lib.hid hW
  have HP := Lib.hid hp
  have IN := Lib.hid hin
  have ND : Hid (u ∈ d.vs) := Lib.hid ((hs.mem u).2 hin)
  have EV := Lib.hid (F.errV_in hin)
  obtain ⟨NN, hNN⟩ : ∃ n, n = (F.treeV u).length := ⟨_, rfl⟩
  obtain ⟨ME, hME⟩ : ∃ n, n = (F.treeE u).length := ⟨_, rfl⟩
  have NV : Hid ((F.treeV u).length = NN) := Lib.hid hNN.symm
  have NE : Hid ((F.treeE u).length = ME) := Lib.hid hME.symm
  have DV : Hid (d.tree u = F.treeV u) := Lib.hid (hs.tree u)
  have DE : Hid (d.treeE u = F.treeE u) := Lib.hid (hs.treeE h.good u)
  have RV := Lib.hid (F.riseV hin)
  have RE := Lib.hid (F.riseE hin)
  have JJ : Hid ((v ∉ d.vs ∧ F.joinB u v = false ∧ F.joinX u v = 51) ∨ (v ∈ d.vs ∧ F.joinB u v = decide (v ∈ F.treeV u) ∧ F.joinX u v = 0)) := Lib.hid (by
    by_cases hvin : v ∈ F.vs
    · refine .inr ⟨(hs.mem v).2 hvin, ?_, by unfold FS.joinX; rw [if_pos ⟨hin, hvin⟩]⟩
      have hc : v ∈ F.treeV u ↔ Conn F.edges u v := ((F.riseV hin).2 v).trans ⟨fun e => e.2, fun e => ⟨hvin, e⟩⟩
      by_cases hcn : Conn F.edges u v
      · rw [F.joinB_yes ⟨hin, hvin, hcn⟩, decide_eq_true (hc.2 hcn)]
      · rw [F.joinB_no (fun e => hcn e.2.2), decide_eq_false (fun e => hcn (hc.1 e))]
    · exact .inl ⟨fun e => hvin ((hs.mem v).1 e), F.joinB_no (fun e => hvin e.2.1), by unfold FS.joinX; rw [if_neg (fun e => hvin e.2)]⟩)
  clear hNN hME
  clear hW hp hb h hs hfit hin
  go_enter Try.func14, Try.ntmps14
  go_upto_region 1 with fail
  rw [← HW.out]
  try simp only [← HP.out]
  obtain ⟨c0, c1, c2, c3⟩ := T0.out.four
  go_wp2_with fail
  refine (has_any _ d.vs _ _ T0.out.two.doc.vs u).mono ?_
  rw [decide_eq_true ND.out]
  rintro r wx ⟨rfl, hwx⟩
  rw [hwx]
  clear hwx wx
  clear c0 c1 c2 c3
  go_wp2_with fail
  refine (tVerts T0.out.two u hu).mono ?_
  rw [EV.out]
  rintro r w1 ⟨x1, rfl, o1, b1⟩
  obtain ⟨A1, k1, hx1, -, -, -, -⟩ := (o1.rk encI_len (Nat.le_refl _)).open_
  rw [NV.out] at hx1
  subst hx1
  have R1 := Lib.hid (o1.rk encI_len (Nat.le_refl _))
  have T1 := Lib.hid (T0.out.below b1)
  clear o1 b1
  go_wp2_with fail
  refine (tEdges T1.out.two u hu).mono ?_
  rw [EV.out]
  rintro r w2 ⟨x2, rfl, o2, b2⟩
  obtain ⟨A2, k2, hx2, -, -, -, -⟩ := (o2.rk encI_len (Nat.le_refl _)).open_
  rw [NE.out] at hx2
  subst hx2
  have R2 := Lib.hid (o2.rk encI_len (Nat.le_refl _))
  have Q1 := Lib.hid ((R1.out.below b2).more b2.size)
  have T2 := Lib.hid (T1.out.below b2)
  clear o2 b2
  go_wp2_with fail
  refine (tSize T2.out.two u hu).mono ?_
  rw [EV.out, NV.out]
  rintro r w3 ⟨rfl, b3⟩
  have T3 := Lib.hid (T2.out.below b3)
  have Q2 := Lib.hid ((Q1.out.below b3).more b3.size)
  have S2 := Lib.hid ((R2.out.below b3).more b3.size)
  clear b3
  go_wp2_with fail
  refine (tSomeV T3.out.two u hu).mono ?_
  rw [EV.out]
  rintro r w4 ⟨⟨x, rfl, hx1, hx2⟩, b4⟩
  have SX := Lib.hid (hx1 IN.out)
  have T4 := Lib.hid (T3.out.below b4)
  have Q3 := Lib.hid ((Q2.out.below b4).more b4.size)
  have S3 := Lib.hid ((S2.out.below b4).more b4.size)
  clear b4 hx1 hx2
  go_wp2_with fail
  refine (tSomeE T4.out.two u hu).mono ?_
  rw [EV.out]
  rintro r w5 ⟨⟨y, rfl, hx1, hx2⟩, b5⟩
  have SY := Lib.hid (hx1 IN.out)
  have T5 := Lib.hid (T4.out.below b5)
  have Q4 := Lib.hid ((Q3.out.below b5).more b5.size)
  have S4 := Lib.hid ((S3.out.below b5).more b5.size)
  clear b5 hx1 hx2
  go_wp2_with fail
  refine (tJoined T5.out.two u v hu hv).mono ?_
  obtain ⟨jb, hjb⟩ : ∃ jb, jb = F.joinB u v := ⟨_, rfl⟩
  obtain ⟨jx, hjx⟩ : ∃ jx, jx = F.joinX u v := ⟨_, rfl⟩
  rw [← hjb, ← hjx] at JJ ⊢
  clear hjb hjx
  rintro r wx ⟨rfl, hwx⟩
  rw [hwx]
  clear hwx wx
  have HV : Hid (∀ wx, Below w5.heap.size w5 wx → Calls Try.prog 40 #[.agg #[.slice X0 n0 m0, .slice X1 n1 m1, .slice X2 n2 m2, .slice X3 n3 m3], .int .i64 u] wx fun r w' => ∃ x, r = .returned x ∧ OK encI 1 3 w' wx.heap.size x (F.treeV u) ∧ Below wx.heap.size wx w') := Lib.hid (fun wx hx => by
    have := refVerts_any wx _ _ _ _ d u (T5.out.below hx).two.doc HF.out.1
    rwa [DV.out] at this)
  have HE : Hid (∀ wx, Below w5.heap.size w5 wx → Calls Try.prog 41 #[.agg #[.slice X0 n0 m0, .slice X1 n1 m1, .slice X2 n2 m2, .slice X3 n3 m3], .int .i64 u] wx fun r w' => ∃ x, r = .returned x ∧ OK encI 1 3 w' wx.heap.size x (F.treeE u) ∧ Below wx.heap.size wx w') := Lib.hid (fun wx hx => by
    have := refEdges_any wx _ _ _ _ d u (T5.out.below hx).two.doc HF.out.1
    rwa [DE.out] at this)
  have HD : Hid (Below w5.heap.size w5 w5.drew) := Lib.hid (Below.refl _ _).drew
  obtain ⟨c0, c1, c2, c3⟩ := T5.out.four
  go_wp2_with fail
  go_region_held3 (fun w' => w'.cell? ⟨p, 0, none⟩ = some (.slice X0 n0 m0) ∧ w'.cell? ⟨p, 1, none⟩ = some (.slice X1 n1 m1) ∧ w'.cell? ⟨p, 2, none⟩ = some (.slice X2 n2 m2) ∧ w'.cell? ⟨p, 3, none⟩ = some (.slice X3 n3 m3)) (first | with_reducible exact (T5.out.below HZ.out).four | with_reducible exact (T5.out.below HD.out).four)
    (first | (go_at_call 40; refine (HV.out _ (by first | with_reducible exact HZ.out | with_reducible exact HD.out)).mono ?_; rintro r wz ⟨v9, rfl, h9, hbz⟩; obtain ⟨A8, k8, hx8, -, -, -, -⟩ := (h9.rk encI_len (Nat.le_refl _)).open_; rw [NV.out] at hx8; subst hx8; have HZ := Lib.hid (bthen (by first | with_reducible exact HZ.out | with_reducible exact HD.out) hbz); have HVA := Lib.hid (h9.rk encI_len (Nat.le_refl _)); (first | (have hvb := Lib.hid ((HVB.out.below hbz).more hbz.size); have HVB := hvb) | skip); clear hbz h9) | (go_at_call 41; refine (HE.out _ (by first | with_reducible exact HZ.out | with_reducible exact HD.out)).mono ?_; rintro r wz ⟨v9, rfl, h9, hbz⟩; obtain ⟨A9, k9, hx9, -, -, -, -⟩ := (h9.rk encI_len (Nat.le_refl _)).open_; rw [NE.out] at hx9; subst hx9; have HZ := Lib.hid (bthen (by first | with_reducible exact HZ.out | with_reducible exact HD.out) hbz); have HVB := Lib.hid (h9.rk encI_len (Nat.le_refl _)); (first | (have hva := Lib.hid ((HVA.out.below hbz).more hbz.size); have HVA := hva) | skip); clear hbz h9))
  all_goals (
    have T6 := Lib.hid (T5.out.below HZ.out)
    have Q5 := Lib.hid ((Q4.out.below HZ.out).more HZ.out.size)
    have S5 := Lib.hid ((S4.out.below HZ.out).more HZ.out.size)
    clear c0 c1 c2 c3 HV HE
    go_wp2_with fail
    refine (SameInts_yes _ _ _ _ _ _ Q5.out HVA.out).mono ?_
    rintro r w7 ⟨rfl, q7, h7⟩
    have b7 : Below wz.heap.size wz w7 := by rw [h7]; exact below_drewN (Below.refl _ _) _
    have T7 := Lib.hid (T6.out.below b7)
    have S6 := Lib.hid ((S5.out.below b7).more b7.size)
    have VA7 := Lib.hid ((HVA.out.below b7).more b7.size)
    have VB7 := Lib.hid ((HVB.out.below b7).more b7.size)
    clear b7 h7
    go_wp2_with fail
    refine (SameInts_yes _ _ _ _ _ _ S6.out VB7.out).mono ?_
    rintro r w8 ⟨rfl, q8, h8⟩
    have b8 : Below w7.heap.size w7 w8 := by rw [h8]; exact below_drewN (Below.refl _ _) _
    have T8 := Lib.hid (T7.out.below b8)
    have VA8 := Lib.hid ((VA7.out.below b8).more b8.size)
    have VB8 := Lib.hid ((VB7.out.below b8).more b8.size)
    clear b8 h8
    go_upto_region 13 with fail
    obtain ⟨c0, c1, c2, c3⟩ := T8.out.four
    go_wp2_with fail
    refine (refAny_yes _ _ _ _ x w8 _ _ VA8.out T8.out.two.doc.mv (someOk_any RV.out.2 HS.out.mv.2 SX.out)).mono ?_
    rintro r wx ⟨rfl, hwx⟩
    rw [hwx]
    clear hwx wx
    go_wp2_with fail
    refine (refAny_yes _ _ _ _ y w8 _ _ VB8.out T8.out.two.doc.me (someOk_any RE.out.2 HS.out.me.2 SY.out)).mono ?_
    rintro r wx ⟨rfl, hwx⟩
    rw [hwx]
    clear hwx wx
    rcases JJ.out with ⟨j1, j2, j3⟩ | ⟨j1, j2, j3⟩
    · have J1 := Lib.hid j1
      clear j1
      subst j2 j3
      go_wp2_with fail
      refine (has_any _ d.vs _ _ T8.out.two.doc.vs v).mono ?_
      rw [decide_eq_false J1.out]
      rintro r wx ⟨rfl, hwx⟩
      rw [hwx]
      clear hwx wx
      go_wp2_with fail
      go_ret
      exact ⟨rfl, T8.out.low⟩
    · have J1 := Lib.hid j1
      have J2 := Lib.hid j2
      clear j1 j2
      subst j3
      go_wp2_with fail
      refine (has_any _ d.vs _ _ T8.out.two.doc.vs v).mono ?_
      rw [decide_eq_true J1.out]
      rintro r wx ⟨rfl, hwx⟩
      rw [hwx]
      clear hwx wx
      go_wp2_with fail
      refine (has_any _ (F.treeV u) _ _ VA8.out v).mono ?_
      rw [← J2.out]
      rintro r wx ⟨rfl, hwx⟩
      rw [hwx]
      clear hwx wx
      cases jb
      · go_wp2_with fail
        go_ret
        exact ⟨rfl, T8.out.low⟩
      · go_wp2_with fail
        go_ret
        exact ⟨rfl, T8.out.low⟩)

/-- tells, whatever comes in. -/
theorem tells_any (w wr : World) (f : Nat) (F : FS) (d : DF) (a b c e : Value) (h : Two w wr f F d a b c e) (hs : Beside F d) (u v : Int) (hu : I64 u) (hv : I64 v) :
    Calls Try.prog 14 #[.pointer (some ⟨f, 0, none⟩), .agg #[a, b, c, e], .int .i64 u, .int .i64 v] wr fun r w' => r = .returned (.bool true) ∧ Below wr.heap.size wr w' := by
  by_cases hin : u ∈ F.vs
  · exact tells_yes w wr f F d a b c e h hs u v hu hv hin
  · exact tells_no w wr f F d a b c e h hs u v hu hv hin

end Go.Proofs.Ytlakcldgolpaiaa

/-
  The walk of EulerPlays.
-/
namespace Go.Proofs.Ytlakcldgolpaiaa
open Go.RowKit Go.Maps
set_option linter.unusedVariables false

/-- Both forests side by side, the document's in a box. -/
structure Pl (w wr : World) (f p : Nat) (F : FS) (d : DF) (a b c e : Value) : Prop where
  two : Two w wr f F d a b c e
  bes : Beside F d
  box : Blk wr p 31 #[a, b, c, e]
  lo : w.heap.size ≤ p
  oa : InQ (fun k => k ≠ p) a d.vs
  ob : InQ (fun k => k ≠ p) b d.es
  oc : InQ (fun k => k ≠ p) c d.mv
  oe : InQ (fun k => k ≠ p) e d.me

section

variable {w wr w' : World} {f p : Nat} {F F' : FS} {d d' : DF} {a b c e a' b' c' e' : Value}

theorem Pl.below (h : Pl w wr f p F d a b c e) (hb : Below wr.heap.size wr w') : Pl w w' f p F d a b c e := ⟨h.two.below hb, h.bes, h.box.below hb h.box.lt, h.lo, h.oa, h.ob, h.oc, h.oe⟩

theorem Pl.four (h : Pl w wr f p F d a b c e) : wr.cell? ⟨p, 0, none⟩ = some a ∧ wr.cell? ⟨p, 1, none⟩ = some b ∧ wr.cell? ⟨p, 2, none⟩ = some c ∧ wr.cell? ⟨p, 3, none⟩ = some e := ⟨h.box.cell 0, h.box.cell 1, h.box.cell 2, h.box.cell 3⟩

theorem Pl.good (h : Pl w wr f p F d a b c e) : F.Good := h.two.good

theorem Pl.fit (h : Pl w wr f p F d a b c e) : d.Fit ∧ d.mv.length ≤ 4096 ∧ d.me.length ≤ 4096 := h.bes.fit h.good

/-- Behind changes the new forest lies in the same box. -/
theorem Pl.turn (h : Pl w wr f p F d a b c e) (t : Two w w' f F' d' a' b' c' e') (s : Beside F' d') (k : Kept wr w') (o1 : OldNew wr a a') (o2 : OldNew wr b b') (o3 : OldNew wr c c') (o4 : OldNew wr e e') :
    Pl w ((((w'.setCell ⟨p, 0, none⟩ a').setCell ⟨p, 1, none⟩ b').setCell ⟨p, 2, none⟩ c').setCell ⟨p, 3, none⟩ e') f p F' d' a' b' c' e' := by
  have hb := k.blk h.box notF_D
  have lt := h.box.lt
  have q1 := off_keep h.oa h.two.doc.vs t.doc.vs o1 lt
  have q2 := off_keep h.ob h.two.doc.es t.doc.es o2 lt
  have q3 := off_keep h.oc h.two.doc.mv t.doc.mv o3 lt
  have q4 := off_keep h.oe h.two.doc.me t.doc.me o4 lt
  exact ⟨t.far4 hb notF_D h.lo q1 q2 q3 q4 _ _ _ _, s, (((hb.set_ 0 a').set_ 1 b').set_ 2 c').set_ 3 e', h.lo, q1, q2, q3, q4⟩

end

/-- What a region reads: the document's forest, a call of the script. -/
theorem boxO_of {w wr : World} {f p q : Nat} {F : FS} {d : DF} {a b c e : Value} {kd id u v : Int} {on : Bool} (h : Pl w wr f p F d a b c e) (ho : Blk wr q 33 #[.int .i64 kd, .int .i64 id, .int .i64 u, .int .i64 v, .bool on]) :
    wr.cell? ⟨p, 0, none⟩ = some a ∧ wr.cell? ⟨p, 1, none⟩ = some b ∧ wr.cell? ⟨p, 2, none⟩ = some c ∧ wr.cell? ⟨p, 3, none⟩ = some e ∧ wr.cell? ⟨q, 1, none⟩ = some (.int .i64 id) ∧ wr.cell? ⟨q, 2, none⟩ = some (.int .i64 u) ∧ wr.cell? ⟨q, 3, none⟩ = some (.int .i64 v) := ⟨h.box.cell 0, h.box.cell 1, h.box.cell 2, h.box.cell 3, ho.cell 1, ho.cell 2, ho.cell 3⟩

set_option maxRecDepth 100000 in
set_option maxHeartbeats 16000000 in
theorem eulerPlays_walk (w : World) (v0 : Value) (ss : List Int) (v1 : Value) (os : List OpE) (h0 : RI w w.heap.size v0 ss) (hs : ScrE w v1 os) :
    Calls Try.prog 3 #[v0, v1] w fun e w' => e = .returned (.bool true) ∧ Below w.heap.size w w' := by
  have hf := bNew w v0 ss h0 noQ noQ_lt
  obtain ⟨A0, c0, hv0, -, -, -, -⟩ := h0.open_
  obtain ⟨n0, hn0⟩ : ∃ n0, n0 = ss.length := ⟨_, rfl⟩
  rw [← hn0] at hv0
  subst hv0
  obtain ⟨A, c, rfl, hc1, hc2, hc3, HC⟩ := hs.rk.open_
  obtain ⟨n, hn⟩ : ∃ n, n = os.length := ⟨_, rfl⟩
  rw [← hn] at hc1 hc3 ⊢
  have HN := Lib.hid hn
  have HA := Lib.hid hs.at_
  have HF := Lib.hid hf
  clear h0 hs hn0 hn hf
  go_enter Try.func3, Try.ntmps3
  go_wp2_with fail
  refine HF.out.mono ?_
  rintro e w1 ⟨f, rfl, h1, b1⟩
  have H1 := Lib.hid h1
  have T1 := Lib.hid b1
  clear h1 b1
  go_wp2_with fail
  refine (alive_any w1).mono ?_
  rintro e w2 ⟨rfl, b2⟩
  have H2 := Lib.hid (H1.out.below b2)
  have T2 := Lib.hid (T1.out.trans (b2.mono T1.out.size))
  clear b2
  obtain ⟨W3, hW3⟩ : ∃ W3, W3 = w2.alloc (.cells #[.slice none 0 0, .slice none 0 0, .slice none 0 0, .slice none 0 0] 31) := ⟨_, rfl⟩
  obtain ⟨p, hp⟩ : ∃ p, p = w2.heap.size := ⟨_, rfl⟩
  have hb3 : Below w2.heap.size w2 W3 := by rw [hW3]; exact (Below.refl _ _).alloc (Nat.le_refl _) _
  have hpl : Pl w W3 f p FS.new ⟨[], [], [], []⟩ (.slice none 0 0) (.slice none 0 0) (.slice none 0 0) (.slice none 0 0) := by
    refine ⟨⟨noQ, H2.out.below hb3, T2.out.trans (hb3.mono T2.out.size), ⟨RK.nil _ _, RK.nil _ _, RK.nil _ _, RK.nil _ _⟩, fun h => absurd rfl h, fun h => absurd rfl h, fun h => absurd rfl h, fun h => absurd rfl h⟩, beside_new, by rw [hW3, hp]; exact Blk.new _ _ _, by rw [hp]; exact T2.out.size, fun h => absurd rfl h, fun h => absurd rfl h, fun h => absurd rfl h, fun h => absurd rfl h⟩
  have HW3 := Lib.hid hW3
  have HP := Lib.hid hp
  have PL := Lib.hid hpl
  clear hW3 hp hb3 hpl
  go_upto_region 5 with fail
  rw [← HW3.out]
  try simp only [← HP.out]
  clear HW3 HP
  go_wp2_with fail
  go_loopw [26] (fun i wr => ∃ (k : Nat) (F : FS) (d : DF) (X0 : Option Addr) (n0 m0 : Nat) (X1 : Option Addr) (n1 m1 : Nat) (X2 : Option Addr) (n2 m2 : Nat) (X3 : Option Addr) (n3 m3 : Nat), k ≤ n ∧ i = .int .i64 k ∧ Hid (Pl w wr f p F d (.slice X0 n0 m0) (.slice X1 n1 m1) (.slice X2 n2 m2) (.slice X3 n3 m3))) (fun i _ => n - (intOf i).toNat)
  case atStart => exact ⟨0, FS.new, _, _, _, _, _, _, _, _, _, _, _, _, _, Nat.zero_le _, rfl, PL⟩
  case round =>
    clear PL
    obtain ⟨k, F, d, X0, n0, m0, X1, n1, m1, X2, n2, m2, X3, n3, m3, hk, rfl, PR⟩ := hrel
    by_cases hkl : k < n
    · have hko : k < os.length := by have := HN.out; omega
      have LR := Lib.hid PR.out.two.low
      obtain ⟨b1, o1, rfl, hb, hx⟩ := HC.out k hko
      obtain ⟨hx1, hx2, hx3, hx4, hx5⟩ := cellOp hx
      have y1 := (LR.out.cell (p := ⟨b1, o1 + k * 5, none⟩) hb).trans hx1
      have y2 := (LR.out.cell (p := ⟨b1, o1 + k * 5 + 1, none⟩) hb).trans hx2
      have y3 := (LR.out.cell (p := ⟨b1, o1 + k * 5 + 2, none⟩) hb).trans hx3
      have y4 := (LR.out.cell (p := ⟨b1, o1 + k * 5 + 3, none⟩) hb).trans hx4
      have y5 := (LR.out.cell (p := ⟨b1, o1 + k * 5 + 4, none⟩) hb).trans hx5
      have HOP := Lib.hid (HA.out os[k] (List.getElem_mem hko))
      clear hx hx1 hx2 hx3 hx4 hx5
      obtain ⟨x, hx⟩ : ∃ x, x = os[k] := ⟨_, rfl⟩
      rw [← hx] at y1 y2 y3 y4 y5 HOP
      clear hx
      obtain ⟨kd, id, u, v, on⟩ := x
      dsimp only at y1 y2 y3 y4 y5
      have hkn : (k : Int) < (n : Int) := by omega
      have hkd : decide ((k : Int) < (n : Int)) = true := by simpa using hkl
      have HI : Hid (I64 id ∧ I64 u ∧ I64 v) := Lib.hid ⟨HOP.out.id, HOP.out.u, HOP.out.v⟩
      obtain ⟨W1, hW1⟩ : ∃ W1, W1 = wr.alloc (.cells #[.int .i64 kd, .int .i64 id, .int .i64 u, .int .i64 v, .bool on] 33) := ⟨_, rfl⟩
      obtain ⟨q, hq⟩ : ∃ q, q = wr.heap.size := ⟨_, rfl⟩
      have hbw : Below wr.heap.size wr W1 := by rw [hW1]; exact (Below.refl _ _).alloc (Nat.le_refl _) _
      have P1 := Lib.hid (PR.out.below hbw)
      have O1 : Hid (Blk W1 q 33 #[.int .i64 kd, .int .i64 id, .int .i64 u, .int .i64 v, .bool on]) := Lib.hid (by rw [hW1, hq]; exact Blk.new _ _ _)
      have NQ : Hid (q ≠ p) := Lib.hid (by have := PR.out.box.lt; omega)
      have HW1 := Lib.hid hW1
      have HQ := Lib.hid hq
      clear hW1 hq hbw
      go_upto_region 8 with fail
      rw [← HW1.out]
      try simp only [← HQ.out]
      clear y1 y2 y3 y4 y5 hb
      obtain ⟨c0, c1, c2, c3⟩ := P1.out.four
      have s0 := O1.out.cell 0
      have s1 := O1.out.cell 1
      have s2 := O1.out.cell 2
      have s3 := O1.out.cell 3
      have s4 := O1.out.cell 4
      go_wp2_with fail
      refine (changes_any w W1 f F d _ _ _ _ P1.out.two P1.out.bes kd id u v on HOP.out).mono ?_
      rintro r w2 ⟨a', b', c', e', d2, rfl, t2, s2', k2, u1, u2, u3, u4⟩
      obtain ⟨Y0, i0, j0, Y1, i1, j1, Y2, i2, j2, Y3, i3, j3, rfl, rfl, rfl, rfl⟩ := t2.doc.sl4
      obtain ⟨F2, hF2⟩ : ∃ F2, F2 = F.stepE ⟨kd, id, u, v, on⟩ := ⟨_, rfl⟩
      rw [← hF2] at t2 s2'
      clear hF2
      have hb2 : Below w2.heap.size w2 (w2.alloc (.cells #[.slice Y0 i0 j0, .slice Y1 i1 j1, .slice Y2 i2 j2, .slice Y3 i3 j3] 31)) := (Below.refl _ _).alloc (Nat.le_refl _) _
      obtain ⟨W2, hW2⟩ : ∃ W2, W2 = w2.alloc (.cells #[.slice Y0 i0 j0, .slice Y1 i1 j1, .slice Y2 i2 j2, .slice Y3 i3 j3] 31) := ⟨_, rfl⟩
      have kn : Blk W2 w2.heap.size 31 #[.slice Y0 i0 j0, .slice Y1 i1 j1, .slice Y2 i2 j2, .slice Y3 i3 j3] := by rw [hW2]; exact Blk.new _ _ _
      rw [← hW2] at hb2
      obtain ⟨q2, hq2⟩ : ∃ q2, q2 = w2.heap.size := ⟨_, rfl⟩
      rw [← hq2] at kn
      have kk := k2.trans (Kept.of_below hb2)
      have pn := P1.out.turn (t2.below hb2) s2' kk u1 u2 u3 u4
      have O2 := Lib.hid (kk.blk O1.out notF_O)
      obtain ⟨W4, hW4⟩ : ∃ W4, W4 = (((W2.setCell ⟨p, 0, none⟩ (.slice Y0 i0 j0)).setCell ⟨p, 1, none⟩ (.slice Y1 i1 j1)).setCell ⟨p, 2, none⟩ (.slice Y2 i2 j2)).setCell ⟨p, 3, none⟩ (.slice Y3 i3 j3) := ⟨_, rfl⟩
      rw [← hW4] at pn
      have PN := Lib.hid pn
      have hq4 : Blk W4 q 33 #[.int .i64 kd, .int .i64 id, .int .i64 u, .int .i64 v, .bool on] := by
        rw [hW4]
        exact (((O2.out.far (p := ⟨p, 0, none⟩) NQ.out _).far (p := ⟨p, 1, none⟩) NQ.out _).far (p := ⟨p, 2, none⟩) NQ.out _).far (p := ⟨p, 3, none⟩) NQ.out _
      have O4 := Lib.hid hq4
      have BP := Lib.hid (kk.blk P1.out.box notF_D)
      have HW2 := Lib.hid hW2
      have HQ2 := Lib.hid hq2
      have HW4 := Lib.hid hW4
      have g0 := kn.cell 0
      have g1 := kn.cell 1
      have g2 := kn.cell 2
      have g3 := kn.cell 3
      have z0 := BP.out.cell 0
      have z1 := BP.out.cell 1
      have z2 := BP.out.cell 2
      have z3 := BP.out.cell 3
      have f0 := BP.out.frozen 0
      have f1 := BP.out.frozen 1
      have f2 := BP.out.frozen 2
      have f3 := BP.out.frozen 3
      clear t2 s2' k2 u1 u2 u3 u4 hb2 kn kk pn hq4 hW2 hq2 hW4 c0 c1 c2 c3 s0 s1 s2 s3 s4
      go_upto_region 9 with fail
      rw [← HW2.out]
      try simp only [← HQ2.out]
      go_upto_region 10 with fail
      rw [← HW4.out]
      clear g0 g1 g2 g3 z0 z1 z2 z3 f0 f1 f2 f3
      obtain ⟨c0, c1, c2, c3⟩ := PN.out.four
      have s1 := O4.out.cell 1
      go_wp2_with fail
      refine (refEdge_any W4 _ _ _ _ d2 id PN.out.two.doc PN.out.fit.1).mono ?_
      rw [show decide (id ∈ Proofs.Ytlakcldgolpaiaa.ids d2.es) = decide (id ∈ Proofs.Ytlakcldgolpaiaa.ids F2.edges) from by rw [decide_eq_decide]; exact PN.out.bes.ids id]
      rintro r w5 ⟨⟨y, rfl⟩, b5⟩
      obtain ⟨ya, yb, yc⟩ := y
      simp only [edV]
      obtain ⟨W6, hW6⟩ : ∃ W6, W6 = w5.alloc (.cells #[.int .i64 ya, .int .i64 yb, .int .i64 yc, .int .i64 0] 37) := ⟨_, rfl⟩
      have hb6 : Below W4.heap.size W4 W6 := by rw [hW6]; exact b5.alloc b5.size _
      have P6 := Lib.hid (PN.out.below hb6)
      have O6 := Lib.hid (O4.out.below hb6 O4.out.lt)
      have HW6 := Lib.hid hW6
      clear b5 hW6 hb6 c0 c1 c2 c3 s1
      go_upto_region 11 with fail
      rw [← HW6.out]
      clear HW6
      obtain ⟨is, his⟩ : ∃ is, is = decide (id ∈ Proofs.Ytlakcldgolpaiaa.ids F2.edges) := ⟨_, rfl⟩
      rw [← his]
      have HLEN : Hid (∀ wx, Below W6.heap.size W6 wx → Calls Try.prog 12 #[.pointer (some ⟨f, 0, none⟩)] wx fun r w' => r = .returned (.int .i64 (i0 : Int)) ∧ w' = wx) := Lib.hid (fun wx hx => by
        have hl := tLen (P6.out.below hx).two
        have e1 : (F2.vs.length : Int) = (i0 : Int) := by
          have h1 := P6.out.bes.len P6.out.good
          obtain ⟨-, A', c', e', -⟩ := P6.out.two.doc.vs
          injection e' with _ e2 _
          omega
        rwa [e1] at hl)
      have HHAS : Hid (∀ wx, Below W6.heap.size W6 wx → Calls Try.prog 13 #[.pointer (some ⟨f, 0, none⟩), .int .i64 id] wx fun r w' => r = .returned (.bool is) ∧ Below wx.heap.size wx w') := Lib.hid (fun wx hx => by
        rw [his]
        exact tHas (P6.out.below hx).two id HI.out.1)
      have HTEL : Hid (∀ wx, Below W6.heap.size W6 wx → ∀ x y, I64 x → I64 y → Calls Try.prog 14 #[.pointer (some ⟨f, 0, none⟩), .agg #[.slice Y0 i0 j0, .slice Y1 i1 j1, .slice Y2 i2 j2, .slice Y3 i3 j3], .int .i64 x, .int .i64 y] wx fun r w' => r = .returned (.bool true) ∧ Below wx.heap.size wx w') := Lib.hid (fun wx hx x y hxx hyy => tells_any w wx f F2 d2 _ _ _ _ (P6.out.below hx).two P6.out.bes x y hxx hyy)
      have HD : Hid (Below W6.heap.size W6 W6.drew) := Lib.hid (Below.refl _ _).drew
      have HB : Hid (∀ wx, Below W6.heap.size W6 wx → wx.cell? ⟨p, 0, none⟩ = some (.slice Y0 i0 j0) ∧ wx.cell? ⟨p, 1, none⟩ = some (.slice Y1 i1 j1) ∧ wx.cell? ⟨p, 2, none⟩ = some (.slice Y2 i2 j2) ∧ wx.cell? ⟨p, 3, none⟩ = some (.slice Y3 i3 j3) ∧ wx.cell? ⟨q, 1, none⟩ = some (.int .i64 id) ∧ wx.cell? ⟨q, 2, none⟩ = some (.int .i64 u) ∧ wx.cell? ⟨q, 3, none⟩ = some (.int .i64 v)) := Lib.hid (fun wx hx => boxO_of (P6.out.below hx) (O6.out.below hx O6.out.lt))
      obtain ⟨c0, c1, c2, c3, s1, s2, s3⟩ := boxO_of P6.out O6.out
      have HU := HI.out.2.1
      have HV := HI.out.2.2
      clear his
      go_wp2_with fail
      (go_region_held3 (fun wx => wx.cell? ⟨p, 0, none⟩ = some (.slice Y0 i0 j0) ∧ wx.cell? ⟨p, 1, none⟩ = some (.slice Y1 i1 j1) ∧ wx.cell? ⟨p, 2, none⟩ = some (.slice Y2 i2 j2) ∧ wx.cell? ⟨p, 3, none⟩ = some (.slice Y3 i3 j3) ∧ wx.cell? ⟨q, 1, none⟩ = some (.int .i64 id) ∧ wx.cell? ⟨q, 2, none⟩ = some (.int .i64 u) ∧ wx.cell? ⟨q, 3, none⟩ = some (.int .i64 v)) (first | with_reducible exact HB.out _ HZ.out | with_reducible exact HB.out _ HD.out)
          (first | (go_at_call 12; refine (HLEN.out _ (by first | with_reducible exact HZ.out | with_reducible exact HD.out)).mono ?_; rintro r _ ⟨rfl, rfl⟩) | (go_at_call 13; refine (HHAS.out _ (by first | with_reducible exact HZ.out | with_reducible exact HD.out)).mono ?_; rintro r wz ⟨rfl, hbz⟩; have HZ := Lib.hid (bthen (by first | with_reducible exact HZ.out | with_reducible exact HD.out) hbz); clear hbz) | (go_at_call 14; refine (HTEL.out _ (by first | with_reducible exact HZ.out | with_reducible exact HD.out) _ _ (by first | with_reducible exact HU | with_reducible exact HV) (by first | with_reducible exact HV | with_reducible exact HU)).mono ?_; rintro r wz ⟨rfl, hbz⟩; have HZ := Lib.hid (bthen (by first | with_reducible exact HZ.out | with_reducible exact HD.out) hbz); clear hbz)))
      all_goals (
        have PZ := Lib.hid (P6.out.below HZ.out)
        clear c0 c1 c2 c3 s1 s2 s3
        go_wp2_with fail
        go_roundw
        case rel => exact ⟨k + 1, F2, d2, _, _, _, _, _, _, _, _, _, _, _, _, by omega, by go_num, PZ⟩
        case measure => simp [intOf]; omega)
    · obtain rfl : k = n := by omega
      have hkd : decide ((k : Int) < (k : Int)) = false := by simp
      have HR := Lib.hid PR.out.two.doc.vs
      obtain ⟨c0, c1, c2, c3⟩ := PR.out.four
      obtain ⟨A5, c5, he5, -, -, -, HCV⟩ := HR.out.open_
      injection he5 with he5 hel he6
      subst he5
      subst he6
      have HNV : Hid (n0 = d.vs.length) := Lib.hid hel
      have hn4 : n0 ≤ 4096 := by have := PR.out.fit.1.nv; omega
      clear hel
      go_wp2_with fail
      clear c0 c1 c2 c3
      go_loopw [89] (fun i wx => ∃ j : Nat, j ≤ n0 ∧ i = .int .i64 j ∧ Hid (Below wr.heap.size wr wx)) (fun i _ => n0 - (intOf i).toNat)
      case atStart => exact ⟨0, Nat.zero_le _, rfl, Lib.hid (Below.refl _ _)⟩
      case round =>
        obtain ⟨j, hj, rfl, HB⟩ := hrel
        by_cases hjl : j < n0
        · have hjv : j < d.vs.length := by have := HNV.out; omega
          have h0v : 0 < d.vs.length := by omega
          obtain ⟨bb, oo, rfl, hbb, hx⟩ := HCV.out j hjv
          obtain ⟨bb2, oo2, he2, hbb2, hx2⟩ := HCV.out 0 h0v
          injection he2 with he2
          injection he2 with he2 he3
          subst he2
          subst he3
          have y1 := (HB.out.cell (p := ⟨bb, oo + j, none⟩) hbb).trans (cellI hx)
          have y2 := (HB.out.cell (p := ⟨bb, oo + 0, none⟩) hbb).trans (cellI hx2)
          simp only [Nat.add_zero] at y2
          obtain ⟨x, hxx⟩ : ∃ x, x = d.vs[j] := ⟨_, rfl⟩
          obtain ⟨x0, hxx0⟩ : ∃ x, x = d.vs[0] := ⟨_, rfl⟩
          rw [← hxx] at y1
          rw [← hxx0] at y2
          have HX : I64 x := by
            have h1 := PR.out.good.vid x ((PR.out.bes.mem x).1 (by rw [hxx]; exact List.getElem_mem _))
            unfold I64; omega
          have HX0 : I64 x0 := by
            have h1 := PR.out.good.vid x0 ((PR.out.bes.mem x0).1 (by rw [hxx0]; exact List.getElem_mem _))
            unfold I64; omega
          have hjn : (j : Int) < (n0 : Int) := by omega
          have HJ := Lib.hid hjl
          have hjd : decide ((j : Int) < (n0 : Int)) = true := by simpa using hjl
          have h0n : (0 : Int) < (n0 : Int) := by omega
          have h0m : 0 < n0 := by omega
          clear hx hx2 hxx hxx0
          have PX := Lib.hid (PR.out.below HB.out)
          have HTEL : Hid (∀ wy, Below wr.heap.size wr wy → Calls Try.prog 14 #[.pointer (some ⟨f, 0, none⟩), .agg #[.slice (some ⟨bb, oo, none⟩) n0 m0, .slice X1 n1 m1, .slice X2 n2 m2, .slice X3 n3 m3], .int .i64 x, .int .i64 x0] wy fun r w' => r = .returned (.bool true) ∧ Below wy.heap.size wy w') := Lib.hid (fun wy hy => tells_any w wy f F d _ _ _ _ (PX.out.below hy).two PX.out.bes x x0 HX HX0)
          have hbl : bb < wr.heap.size := Nat.lt_of_lt_of_le hbb HB.out.size
          have HBX : Hid (∀ wy, Below wr.heap.size wr wy → wy.cell? ⟨p, 0, none⟩ = some (.slice (some ⟨bb, oo, none⟩) n0 m0) ∧ wy.cell? ⟨p, 1, none⟩ = some (.slice X1 n1 m1) ∧ wy.cell? ⟨p, 2, none⟩ = some (.slice X2 n2 m2) ∧ wy.cell? ⟨p, 3, none⟩ = some (.slice X3 n3 m3) ∧ wy.cell? ⟨bb, oo, none⟩ = some (.int .i64 x0)) := Lib.hid (fun wy hy => ⟨(PX.out.below hy).box.cell 0, (PX.out.below hy).box.cell 1, (PX.out.below hy).box.cell 2, (PX.out.below hy).box.cell 3, (hy.cell (p := ⟨bb, oo, none⟩) hbl).trans y2⟩)
          have HD : Hid (Below wr.heap.size wr wr.drew) := Lib.hid (Below.refl _ _).drew
          obtain ⟨c0, c1, c2, c3⟩ := PX.out.four
          clear hbb hbl
          go_wp2_with fail
          (go_region_held3 (fun wx => wx.cell? ⟨p, 0, none⟩ = some (.slice (some ⟨bb, oo, none⟩) n0 m0) ∧ wx.cell? ⟨p, 1, none⟩ = some (.slice X1 n1 m1) ∧ wx.cell? ⟨p, 2, none⟩ = some (.slice X2 n2 m2) ∧ wx.cell? ⟨p, 3, none⟩ = some (.slice X3 n3 m3) ∧ wx.cell? ⟨bb, oo, none⟩ = some (.int .i64 x0)) (first | with_reducible exact HBX.out _ HZ.out | with_reducible exact HBX.out _ HD.out)
            ((go_at_call 14; refine (HTEL.out _ (by first | with_reducible exact HZ.out | with_reducible exact HD.out)).mono ?_; rintro r wz ⟨rfl, hbz⟩; have HZ := Lib.hid (bthen (by first | with_reducible exact HZ.out | with_reducible exact HD.out) hbz); clear hbz)))
          all_goals (
            clear c0 c1 c2 c3 y1 y2
            go_wp2_with fail
            go_roundw
            case rel => exact ⟨j + 1, HJ.out, by go_num, Lib.hid (HB.out.trans (HZ.out.mono HB.out.size))⟩
            case measure => have := HJ.out; simp [intOf]; omega)
        · obtain rfl : j = n0 := by omega
          have hjd : decide ((j : Int) < (j : Int)) = false := by simp
          go_wp2_with fail
          go_ret
          exact ⟨rfl, PR.out.two.low.trans (HB.out.mono PR.out.two.low.size)⟩

end Go.Proofs.Ytlakcldgolpaiaa
