/-
  The law's does at a forest of the document that has nothing.
-/
import Derived.Test.YtlhkajlkapoabaaZLL2
namespace Go.Proofs.Ytlhkajlkapoabaa
open Go.RowKit Go.Maps
set_option linter.unusedVariables false

/-- A call of the script. -/
structure OpL where
  kd : Int
  id : Int
  u : Int
  v : Int
  wt : Int

def encOp (o : OpL) : List Value := [.int .i64 o.kd, .int .i64 o.id, .int .i64 o.u, .int .i64 o.v, .int .i64 o.wt]

theorem encOp_len (o : OpL) : (encOp o).length = 5 := rfl

structure OpL.At (o : OpL) : Prop where
  id : I64 o.id
  u : I64 o.u
  v : I64 o.v
  wt : I64 o.wt

/-- What a call of the script does to a forest. -/
noncomputable def LF.stepL (F : LF) (o : OpL) : LF :=
  if o.kd = 1 then F.addA o.u else if o.kd = 2 then F.delA o.u else if o.kd = 3 then F.linkA o.id o.u o.v o.wt else if o.kd = 4 then F.cutA o.id else F

theorem notL_D : NotL 31 := by unfold NotL; decide

theorem notL_O : NotL 35 := by unfold NotL; decide

theorem notL_E : NotL 33 := by unfold NotL; decide

section

variable {B : Nat} {Q : Nat → Prop} {w w' : World} {f p i : Nat} {F : LF}

/-- A forest stays where a block of another type turns. -/
theorem LB.far (h : LB B Q w f F) {t : TypeId} {cs : Array Value} (hb : Blk w p t cs) (hn : NotL t) (u : Value) : LB B Q (w.setCell ⟨p, i, none⟩ u) f F := by
  obtain ⟨bv, be, S, P, N, K, vs, es, h1, h2, h3⟩ := h
  have hp : ¬ ownL f bv be S p := fun hk => h1.types hk hb hn
  have hm : Mod (fun k => k = p) w (w.setCell ⟨p, i, none⟩ u) := (Mod.refl (fun k => k = p) _).setCell (p := ⟨p, i, none⟩) (fun _ => rfl) _
  exact ⟨bv, be, S, P, N, K, vs, es, ⟨⟨h1.at_.blk.mod hm (fun e => hp (.inl e.symm)), h1.at_.verts.mod hm (fun e => hp (.inr (.inl e.symm))), h1.at_.edges.mod hm (fun e => hp (.inr (.inr (.inl e.symm)))), h1.at_.at_.mod hm (fun a ha e => hp (.inr (.inr (.inr (e ▸ ha))))), h1.at_.fs, h1.at_.vS, h1.at_.eS, h1.at_.bvS, h1.at_.beS, h1.at_.ne⟩, h1.gd, h1.few, h1.ids, h1.eids⟩, h2, fun k hk => by simpa using h3 k hk⟩

theorem TameL.far (h : TameL B Q w w') (hB : B ≤ w.heap.size) (hp : w.heap.size ≤ p) (u : Value) : TameL B Q w (w'.setCell ⟨p, i, none⟩ u) := by
  refine ⟨h.below.setCell (p := ⟨p, i, none⟩) (Nat.le_trans hB hp) u, ?_, fun k cs t fr hb hn => ?_, fun k hq hk => (Below.heap_setCell w' ⟨p, i, none⟩ u k (fun e => by have e : k = p := e; omega)).trans (h.kept k hq hk)⟩
  · have := h.size
    have e : (w'.setCell ⟨p, i, none⟩ u).heap.size = w'.heap.size := by simp
    omega
  · refine (Below.heap_setCell w' ⟨p, i, none⟩ u k ?_).trans (h.rows k cs t fr hb hn)
    intro e
    have e : k = p := e
    have := (Array.getElem?_eq_some_iff.1 hb).1
    omega

theorem done4 {cs : Array Value} (h : LB B Q w' f F) (hb : Blk w' p 31 cs) (ht : TameL B Q w w') (hB : B ≤ w.heap.size) (hp : w.heap.size ≤ p) (a b c d : Value) :
    LB B Q ((((w'.setCell ⟨p, 0, none⟩ a).setCell ⟨p, 1, none⟩ b).setCell ⟨p, 2, none⟩ c).setCell ⟨p, 3, none⟩ d) f F ∧ TameL B Q w ((((w'.setCell ⟨p, 0, none⟩ a).setCell ⟨p, 1, none⟩ b).setCell ⟨p, 2, none⟩ c).setCell ⟨p, 3, none⟩ d) :=
  ⟨((((h.far hb notL_D a).far (hb.set_ 0 a) notL_D b).far ((hb.set_ 0 a).set_ 1 b) notL_D c).far (((hb.set_ 0 a).set_ 1 b).set_ 2 c) notL_D d), (((ht.far hB hp a).far hB hp b).far hB hp c).far hB hp d⟩

end

/-- The boxes of does: the document's forest, the call, the result's cell. -/
structure Box6 (w W : World) (p : Nat) (o : OpL) : Prop where
  b0 : Blk W p 31 #[.slice none 0 0, .slice none 0 0, .slice none 0 0, .slice none 0 0]
  bo : Blk W (p + 1) 35 #[.int .i64 o.kd, .int .i64 o.id, .int .i64 o.u, .int .i64 o.v, .int .i64 o.wt]
  b1 : Blk W (p + 2) 31 #[.slice none 0 0, .slice none 0 0, .slice none 0 0, .slice none 0 0]
  lo : w.heap.size ≤ p

theorem box6 (w : World) (o : OpL) : Box6 w (((w.alloc z4).alloc (Obj.cells #[.int .i64 o.kd, .int .i64 o.id, .int .i64 o.u, .int .i64 o.v, .int .i64 o.wt] 35)).alloc z4) w.heap.size o ∧ Below w.heap.size w (((w.alloc z4).alloc (Obj.cells #[.int .i64 o.kd, .int .i64 o.id, .int .i64 o.u, .int .i64 o.v, .int .i64 o.wt] 35)).alloc z4) := by
  refine ⟨⟨((Blk.new _ _ _).alloc _).alloc _, ?_, ?_, Nat.le_refl _⟩, (((Below.refl _ _).alloc (Nat.le_refl _) _).alloc (by simp) _).alloc (by simp; omega) _⟩
  · have := (Blk.new (w.alloc z4) 35 #[.int .i64 o.kd, .int .i64 o.id, .int .i64 o.u, .int .i64 o.v, .int .i64 o.wt]).alloc z4
    simpa [z4] using this
  · have := Blk.new ((w.alloc z4).alloc (Obj.cells #[.int .i64 o.kd, .int .i64 o.id, .int .i64 o.u, .int .i64 o.v, .int .i64 o.wt] 35)) 31 #[.slice none 0 0, .slice none 0 0, .slice none 0 0, .slice none 0 0]
    simpa [z4] using this

theorem Box6.after {w W W' : World} {p : Nat} {o : OpL} (h : Box6 w W p o) (hb : Below W.heap.size W W') : Box6 w W' p o := ⟨h.b0.below hb h.b0.lt, h.bo.below hb h.bo.lt, h.b1.below hb h.b1.lt, h.lo⟩

theorem Box6.tame {B : Nat} {Q : Nat → Prop} {w W W' : World} {p : Nat} {o : OpL} (h : Box6 w W p o) (ht : TameL B Q W W') : Box6 w W' p o := ⟨ht.blk h.b0 notL_D, ht.blk h.bo notL_O, ht.blk h.b1 notL_D, h.lo⟩

set_option maxRecDepth 100000 in
set_option maxHeartbeats 8000000 in
theorem does0 (B : Nat) (Q : Nat → Prop) (w : World) (f : Nat) (F : LF) (h : LB B Q w f F) (hB : B ≤ w.heap.size) (kd id u v wt : Int) (ho : OpL.At ⟨kd, id, u, v, wt⟩) :
    Calls Try.prog 10 #[.pointer (some ⟨f, 0, none⟩), emptyD, .agg #[.int .i64 kd, .int .i64 id, .int .i64 u, .int .i64 v, .int .i64 wt]] w fun e w' => (∃ x y, e = .returned (.tuple #[x, .bool y])) ∧ LB B Q w' f (F.stepL ⟨kd, id, u, v, wt⟩) ∧ TameL B Q w w' := by
  obtain ⟨W, hW⟩ : ∃ W, W = ((w.alloc z4).alloc (Obj.cells #[.int .i64 kd, .int .i64 id, .int .i64 u, .int .i64 v, .int .i64 wt] 35)).alloc z4 := ⟨_, rfl⟩
  obtain ⟨q, hq⟩ : ∃ q, q = w.heap.size := ⟨_, rfl⟩
  have hbx := box6 w ⟨kd, id, u, v, wt⟩
  dsimp only at hbx
  rw [← hW] at hbx
  have H0 := Lib.hid (h.below hbx.2)
  have TW := Lib.hid (TameL.of_below (Q := Q) hbx.2 hB)
  have hBW : B ≤ W.heap.size := Nat.le_trans hB hbx.2.size
  rw [← hq] at hbx
  have hlo : w.heap.size ≤ q + 2 := by omega
  have HU := ho.u
  have HI := ho.id
  have HV := ho.v
  have HX := ho.wt
  dsimp only at HU HI HV HX
  unfold z4 at hW
  have HW := Lib.hid hW
  have HQ := Lib.hid hq
  have BX := Lib.hid hbx.1
  clear hW hq hbx h ho
  change Calls Try.prog _ #[.pointer (some ⟨f, 0, none⟩), .agg #[.slice none 0 0, .slice none 0 0, .slice none 0 0, .slice none 0 0], .agg #[.int .i64 kd, .int .i64 id, .int .i64 u, .int .i64 v, .int .i64 wt]] w _
  go_enter Try.func10, Try.ntmps10
  go_upto_region 1 with fail
  rw [← HW.out]
  try simp only [← HQ.out]
  have c0 := BX.out.b0.cell 0
  have cr0 := BX.out.b1.cell 0
  have cf0 := BX.out.b1.frozen 0
  have c1 := BX.out.b0.cell 1
  have cr1 := BX.out.b1.cell 1
  have cf1 := BX.out.b1.frozen 1
  have c2 := BX.out.b0.cell 2
  have cr2 := BX.out.b1.cell 2
  have cf2 := BX.out.b1.frozen 2
  have c3 := BX.out.b0.cell 3
  have cr3 := BX.out.b1.cell 3
  have cf3 := BX.out.b1.frozen 3
  have co0 := BX.out.bo.cell 0
  have co1 := BX.out.bo.cell 1
  have co2 := BX.out.bo.cell 2
  have co3 := BX.out.bo.cell 3
  have co4 := BX.out.bo.cell 4
  try dsimp only at co0 co1 co2 co3 co4
  by_cases hk1 : kd = 1
  · subst hk1
    go_wp2_with fail
    refine (bAddV B Q W f F H0.out hBW u HU).mono ?_
    rintro e w2 ⟨rfl, h2, t2⟩
    have BX2 := Lib.hid (BX.out.tame t2)
    have H2 := Lib.hid h2
    have T2 := Lib.hid (TW.out.trans t2)
    clear h2 t2 c0 cr0 cf0 c1 cr1 cf1 c2 cr2 cf2 c3 cr3 cf3 co0 co1 co2 co3 co4
    have d0 := BX2.out.b0.cell 0
    have dr0 := BX2.out.b1.cell 0
    have df0 := BX2.out.b1.frozen 0
    have d1 := BX2.out.b0.cell 1
    have dr1 := BX2.out.b1.cell 1
    have df1 := BX2.out.b1.frozen 1
    have d2 := BX2.out.b0.cell 2
    have dr2 := BX2.out.b1.cell 2
    have df2 := BX2.out.b1.frozen 2
    have d3 := BX2.out.b0.cell 3
    have dr3 := BX2.out.b1.cell 3
    have df3 := BX2.out.b1.frozen 3
    have do0 := BX2.out.bo.cell 0
    have do1 := BX2.out.bo.cell 1
    have do2 := BX2.out.bo.cell 2
    have do3 := BX2.out.bo.cell 3
    have do4 := BX2.out.bo.cell 4
    go_wp2_with fail
    refine (refAddV_nil w2 u).mono ?_
    rintro e w3 ⟨⟨x, n, rfl, X0, a0, b0, X1, a1, b1, X2, a2, b2, X3, a3, b3, rfl⟩, t3⟩
    have hb4 : Below w2.heap.size w2 (w3.alloc (Obj.cells #[.slice X0 a0 b0, .slice X1 a1 b1, .slice X2 a2 b2, .slice X3 a3 b3] 31)) := t3.alloc t3.size _
    have BX4 := Lib.hid (BX2.out.after hb4)
    have H4 := Lib.hid (H2.out.below hb4)
    have T4 := Lib.hid (T2.out.trans (TameL.of_below (B := B) (Q := Q) hb4 (Nat.le_trans hB T2.out.size)))
    obtain ⟨W4, hW4⟩ : ∃ W4, W4 = w3.alloc (Obj.cells #[.slice X0 a0 b0, .slice X1 a1 b1, .slice X2 a2 b2, .slice X3 a3 b3] 31) := ⟨_, rfl⟩
    have kn : Blk W4 w3.heap.size 31 #[.slice X0 a0 b0, .slice X1 a1 b1, .slice X2 a2 b2, .slice X3 a3 b3] := by rw [hW4]; exact Blk.new _ _ _
    rw [← hW4] at BX4 H4 T4
    obtain ⟨q4, hq4⟩ : ∃ q4, q4 = w3.heap.size := ⟨_, rfl⟩
    rw [← hq4] at kn
    have HW4 := Lib.hid hW4
    have HQ4 := Lib.hid hq4
    have n0 := kn.cell 0
    have n1 := kn.cell 1
    have n2 := kn.cell 2
    have n3 := kn.cell 3
    clear t3 hb4 hW4 hq4 kn d0 dr0 df0 d1 dr1 df1 d2 dr2 df2 d3 dr3 df3 do0 do1 do2 do3 do4
    have e0 := BX4.out.b0.cell 0
    have er0 := BX4.out.b1.cell 0
    have ef0 := BX4.out.b1.frozen 0
    have e1 := BX4.out.b0.cell 1
    have er1 := BX4.out.b1.cell 1
    have ef1 := BX4.out.b1.frozen 1
    have e2 := BX4.out.b0.cell 2
    have er2 := BX4.out.b1.cell 2
    have ef2 := BX4.out.b1.frozen 2
    have e3 := BX4.out.b0.cell 3
    have er3 := BX4.out.b1.cell 3
    have ef3 := BX4.out.b1.frozen 3
    have eo0 := BX4.out.bo.cell 0
    have eo1 := BX4.out.bo.cell 1
    have eo2 := BX4.out.bo.cell 2
    have eo3 := BX4.out.bo.cell 3
    have eo4 := BX4.out.bo.cell 4
    go_upto_region 5 with fail
    rw [← HW4.out]
    try simp only [← HQ4.out]
    obtain ⟨X, hX⟩ : ∃ X, X = Value.agg #[.slice X0 a0 b0, .slice X1 a1 b1, .slice X2 a2 b2, .slice X3 a3 b3] := ⟨_, rfl⟩
    have HD := Lib.hid (done4 H4.out BX4.out.b1 T4.out hB hlo (.slice X0 a0 b0) (.slice X1 a1 b1) (.slice X2 a2 b2) (.slice X3 a3 b3))
    go_wp2_with fail
    refine ret_cell_tmp2 (p := 6) (u := 7) (v := X) rfl rfl rfl (by rw [hX]; go_simp) rfl ⟨⟨_, _, rfl⟩, ?_, HD.out.2⟩
    have := HD.out.1
    unfold LF.stepL
    simpa using this
  have k1 : (kd == 1) = false := by simpa using hk1
  by_cases hk2 : kd = 2
  · subst hk2
    go_wp2_with fail
    refine (bDelV B Q W f F H0.out hBW u HU).mono ?_
    rintro e w2 ⟨rfl, h2, t2⟩
    have BX2 := Lib.hid (BX.out.tame t2)
    have H2 := Lib.hid h2
    have T2 := Lib.hid (TW.out.trans t2)
    clear h2 t2 c0 cr0 cf0 c1 cr1 cf1 c2 cr2 cf2 c3 cr3 cf3 co0 co1 co2 co3 co4
    have d0 := BX2.out.b0.cell 0
    have dr0 := BX2.out.b1.cell 0
    have df0 := BX2.out.b1.frozen 0
    have d1 := BX2.out.b0.cell 1
    have dr1 := BX2.out.b1.cell 1
    have df1 := BX2.out.b1.frozen 1
    have d2 := BX2.out.b0.cell 2
    have dr2 := BX2.out.b1.cell 2
    have df2 := BX2.out.b1.frozen 2
    have d3 := BX2.out.b0.cell 3
    have dr3 := BX2.out.b1.cell 3
    have df3 := BX2.out.b1.frozen 3
    have do0 := BX2.out.bo.cell 0
    have do1 := BX2.out.bo.cell 1
    have do2 := BX2.out.bo.cell 2
    have do3 := BX2.out.bo.cell 3
    have do4 := BX2.out.bo.cell 4
    go_wp2_with fail
    refine (refDelV_nil w2 u).mono ?_
    rintro e w3 ⟨⟨x, n, rfl, X0, a0, b0, X1, a1, b1, X2, a2, b2, X3, a3, b3, rfl⟩, t3⟩
    have hb4 : Below w2.heap.size w2 (w3.alloc (Obj.cells #[.slice X0 a0 b0, .slice X1 a1 b1, .slice X2 a2 b2, .slice X3 a3 b3] 31)) := t3.alloc t3.size _
    have BX4 := Lib.hid (BX2.out.after hb4)
    have H4 := Lib.hid (H2.out.below hb4)
    have T4 := Lib.hid (T2.out.trans (TameL.of_below (B := B) (Q := Q) hb4 (Nat.le_trans hB T2.out.size)))
    obtain ⟨W4, hW4⟩ : ∃ W4, W4 = w3.alloc (Obj.cells #[.slice X0 a0 b0, .slice X1 a1 b1, .slice X2 a2 b2, .slice X3 a3 b3] 31) := ⟨_, rfl⟩
    have kn : Blk W4 w3.heap.size 31 #[.slice X0 a0 b0, .slice X1 a1 b1, .slice X2 a2 b2, .slice X3 a3 b3] := by rw [hW4]; exact Blk.new _ _ _
    rw [← hW4] at BX4 H4 T4
    obtain ⟨q4, hq4⟩ : ∃ q4, q4 = w3.heap.size := ⟨_, rfl⟩
    rw [← hq4] at kn
    have HW4 := Lib.hid hW4
    have HQ4 := Lib.hid hq4
    have n0 := kn.cell 0
    have n1 := kn.cell 1
    have n2 := kn.cell 2
    have n3 := kn.cell 3
    clear t3 hb4 hW4 hq4 kn d0 dr0 df0 d1 dr1 df1 d2 dr2 df2 d3 dr3 df3 do0 do1 do2 do3 do4
    have e0 := BX4.out.b0.cell 0
    have er0 := BX4.out.b1.cell 0
    have ef0 := BX4.out.b1.frozen 0
    have e1 := BX4.out.b0.cell 1
    have er1 := BX4.out.b1.cell 1
    have ef1 := BX4.out.b1.frozen 1
    have e2 := BX4.out.b0.cell 2
    have er2 := BX4.out.b1.cell 2
    have ef2 := BX4.out.b1.frozen 2
    have e3 := BX4.out.b0.cell 3
    have er3 := BX4.out.b1.cell 3
    have ef3 := BX4.out.b1.frozen 3
    have eo0 := BX4.out.bo.cell 0
    have eo1 := BX4.out.bo.cell 1
    have eo2 := BX4.out.bo.cell 2
    have eo3 := BX4.out.bo.cell 3
    have eo4 := BX4.out.bo.cell 4
    go_upto_region 9 with fail
    rw [← HW4.out]
    try simp only [← HQ4.out]
    obtain ⟨X, hX⟩ : ∃ X, X = Value.agg #[.slice X0 a0 b0, .slice X1 a1 b1, .slice X2 a2 b2, .slice X3 a3 b3] := ⟨_, rfl⟩
    have HD := Lib.hid (done4 H4.out BX4.out.b1 T4.out hB hlo (.slice X0 a0 b0) (.slice X1 a1 b1) (.slice X2 a2 b2) (.slice X3 a3 b3))
    go_wp2_with fail
    refine ret_cell_tmp2 (p := 6) (u := 7) (v := X) rfl rfl rfl (by rw [hX]; go_simp) rfl ⟨⟨_, _, rfl⟩, ?_, HD.out.2⟩
    have := HD.out.1
    unfold LF.stepL
    simpa using this
  have k2 : (kd == 2) = false := by simpa using hk2
  by_cases hk3 : kd = 3
  · subst hk3
    go_wp2_with fail
    refine (bLink B Q W f F H0.out hBW id u v wt HI HU HV HX).mono ?_
    rintro e w2 ⟨rfl, h2, t2⟩
    have BX2 := Lib.hid (BX.out.tame t2)
    have H2 := Lib.hid h2
    have T2 := Lib.hid (TW.out.trans t2)
    clear h2 t2 c0 cr0 cf0 c1 cr1 cf1 c2 cr2 cf2 c3 cr3 cf3 co0 co1 co2 co3 co4
    have d0 := BX2.out.b0.cell 0
    have dr0 := BX2.out.b1.cell 0
    have df0 := BX2.out.b1.frozen 0
    have d1 := BX2.out.b0.cell 1
    have dr1 := BX2.out.b1.cell 1
    have df1 := BX2.out.b1.frozen 1
    have d2 := BX2.out.b0.cell 2
    have dr2 := BX2.out.b1.cell 2
    have df2 := BX2.out.b1.frozen 2
    have d3 := BX2.out.b0.cell 3
    have dr3 := BX2.out.b1.cell 3
    have df3 := BX2.out.b1.frozen 3
    have do0 := BX2.out.bo.cell 0
    have do1 := BX2.out.bo.cell 1
    have do2 := BX2.out.bo.cell 2
    have do3 := BX2.out.bo.cell 3
    have do4 := BX2.out.bo.cell 4
    go_wp2_with fail
    refine (refLinkW_nil w2 id u v wt).mono ?_
    rintro e w3 ⟨⟨x, n, rfl, X0, a0, b0, X1, a1, b1, X2, a2, b2, X3, a3, b3, rfl⟩, t3⟩
    have hb4 : Below w2.heap.size w2 (w3.alloc (Obj.cells #[.slice X0 a0 b0, .slice X1 a1 b1, .slice X2 a2 b2, .slice X3 a3 b3] 31)) := t3.alloc t3.size _
    have BX4 := Lib.hid (BX2.out.after hb4)
    have H4 := Lib.hid (H2.out.below hb4)
    have T4 := Lib.hid (T2.out.trans (TameL.of_below (B := B) (Q := Q) hb4 (Nat.le_trans hB T2.out.size)))
    obtain ⟨W4, hW4⟩ : ∃ W4, W4 = w3.alloc (Obj.cells #[.slice X0 a0 b0, .slice X1 a1 b1, .slice X2 a2 b2, .slice X3 a3 b3] 31) := ⟨_, rfl⟩
    have kn : Blk W4 w3.heap.size 31 #[.slice X0 a0 b0, .slice X1 a1 b1, .slice X2 a2 b2, .slice X3 a3 b3] := by rw [hW4]; exact Blk.new _ _ _
    rw [← hW4] at BX4 H4 T4
    obtain ⟨q4, hq4⟩ : ∃ q4, q4 = w3.heap.size := ⟨_, rfl⟩
    rw [← hq4] at kn
    have HW4 := Lib.hid hW4
    have HQ4 := Lib.hid hq4
    have n0 := kn.cell 0
    have n1 := kn.cell 1
    have n2 := kn.cell 2
    have n3 := kn.cell 3
    clear t3 hb4 hW4 hq4 kn d0 dr0 df0 d1 dr1 df1 d2 dr2 df2 d3 dr3 df3 do0 do1 do2 do3 do4
    have e0 := BX4.out.b0.cell 0
    have er0 := BX4.out.b1.cell 0
    have ef0 := BX4.out.b1.frozen 0
    have e1 := BX4.out.b0.cell 1
    have er1 := BX4.out.b1.cell 1
    have ef1 := BX4.out.b1.frozen 1
    have e2 := BX4.out.b0.cell 2
    have er2 := BX4.out.b1.cell 2
    have ef2 := BX4.out.b1.frozen 2
    have e3 := BX4.out.b0.cell 3
    have er3 := BX4.out.b1.cell 3
    have ef3 := BX4.out.b1.frozen 3
    have eo0 := BX4.out.bo.cell 0
    have eo1 := BX4.out.bo.cell 1
    have eo2 := BX4.out.bo.cell 2
    have eo3 := BX4.out.bo.cell 3
    have eo4 := BX4.out.bo.cell 4
    go_upto_region 13 with fail
    rw [← HW4.out]
    try simp only [← HQ4.out]
    obtain ⟨X, hX⟩ : ∃ X, X = Value.agg #[.slice X0 a0 b0, .slice X1 a1 b1, .slice X2 a2 b2, .slice X3 a3 b3] := ⟨_, rfl⟩
    have HD := Lib.hid (done4 H4.out BX4.out.b1 T4.out hB hlo (.slice X0 a0 b0) (.slice X1 a1 b1) (.slice X2 a2 b2) (.slice X3 a3 b3))
    go_wp2_with fail
    refine ret_cell_tmp2 (p := 6) (u := 7) (v := X) rfl rfl rfl (by rw [hX]; go_simp) rfl ⟨⟨_, _, rfl⟩, ?_, HD.out.2⟩
    have := HD.out.1
    unfold LF.stepL
    simpa using this
  have k3 : (kd == 3) = false := by simpa using hk3
  by_cases hk4 : kd = 4
  · subst hk4
    go_wp2_with fail
    refine (bCut B Q W f F H0.out hBW id HI).mono ?_
    rintro e w2 ⟨rfl, h2, t2⟩
    have BX2 := Lib.hid (BX.out.tame t2)
    have H2 := Lib.hid h2
    have T2 := Lib.hid (TW.out.trans t2)
    clear h2 t2 c0 cr0 cf0 c1 cr1 cf1 c2 cr2 cf2 c3 cr3 cf3 co0 co1 co2 co3 co4
    have d0 := BX2.out.b0.cell 0
    have dr0 := BX2.out.b1.cell 0
    have df0 := BX2.out.b1.frozen 0
    have d1 := BX2.out.b0.cell 1
    have dr1 := BX2.out.b1.cell 1
    have df1 := BX2.out.b1.frozen 1
    have d2 := BX2.out.b0.cell 2
    have dr2 := BX2.out.b1.cell 2
    have df2 := BX2.out.b1.frozen 2
    have d3 := BX2.out.b0.cell 3
    have dr3 := BX2.out.b1.cell 3
    have df3 := BX2.out.b1.frozen 3
    have do0 := BX2.out.bo.cell 0
    have do1 := BX2.out.bo.cell 1
    have do2 := BX2.out.bo.cell 2
    have do3 := BX2.out.bo.cell 3
    have do4 := BX2.out.bo.cell 4
    go_wp2_with fail
    refine (refCut_nil w2 id).mono ?_
    rintro e w3 ⟨⟨x, n, rfl, X0, a0, b0, X1, a1, b1, X2, a2, b2, X3, a3, b3, rfl⟩, t3⟩
    have hb4 : Below w2.heap.size w2 (w3.alloc (Obj.cells #[.slice X0 a0 b0, .slice X1 a1 b1, .slice X2 a2 b2, .slice X3 a3 b3] 31)) := t3.alloc t3.size _
    have BX4 := Lib.hid (BX2.out.after hb4)
    have H4 := Lib.hid (H2.out.below hb4)
    have T4 := Lib.hid (T2.out.trans (TameL.of_below (B := B) (Q := Q) hb4 (Nat.le_trans hB T2.out.size)))
    obtain ⟨W4, hW4⟩ : ∃ W4, W4 = w3.alloc (Obj.cells #[.slice X0 a0 b0, .slice X1 a1 b1, .slice X2 a2 b2, .slice X3 a3 b3] 31) := ⟨_, rfl⟩
    have kn : Blk W4 w3.heap.size 31 #[.slice X0 a0 b0, .slice X1 a1 b1, .slice X2 a2 b2, .slice X3 a3 b3] := by rw [hW4]; exact Blk.new _ _ _
    rw [← hW4] at BX4 H4 T4
    obtain ⟨q4, hq4⟩ : ∃ q4, q4 = w3.heap.size := ⟨_, rfl⟩
    rw [← hq4] at kn
    have HW4 := Lib.hid hW4
    have HQ4 := Lib.hid hq4
    have n0 := kn.cell 0
    have n1 := kn.cell 1
    have n2 := kn.cell 2
    have n3 := kn.cell 3
    clear t3 hb4 hW4 hq4 kn d0 dr0 df0 d1 dr1 df1 d2 dr2 df2 d3 dr3 df3 do0 do1 do2 do3 do4
    have e0 := BX4.out.b0.cell 0
    have er0 := BX4.out.b1.cell 0
    have ef0 := BX4.out.b1.frozen 0
    have e1 := BX4.out.b0.cell 1
    have er1 := BX4.out.b1.cell 1
    have ef1 := BX4.out.b1.frozen 1
    have e2 := BX4.out.b0.cell 2
    have er2 := BX4.out.b1.cell 2
    have ef2 := BX4.out.b1.frozen 2
    have e3 := BX4.out.b0.cell 3
    have er3 := BX4.out.b1.cell 3
    have ef3 := BX4.out.b1.frozen 3
    have eo0 := BX4.out.bo.cell 0
    have eo1 := BX4.out.bo.cell 1
    have eo2 := BX4.out.bo.cell 2
    have eo3 := BX4.out.bo.cell 3
    have eo4 := BX4.out.bo.cell 4
    go_upto_region 17 with fail
    rw [← HW4.out]
    try simp only [← HQ4.out]
    obtain ⟨X, hX⟩ : ∃ X, X = Value.agg #[.slice X0 a0 b0, .slice X1 a1 b1, .slice X2 a2 b2, .slice X3 a3 b3] := ⟨_, rfl⟩
    have HD := Lib.hid (done4 H4.out BX4.out.b1 T4.out hB hlo (.slice X0 a0 b0) (.slice X1 a1 b1) (.slice X2 a2 b2) (.slice X3 a3 b3))
    go_wp2_with fail
    refine ret_cell_tmp2 (p := 6) (u := 7) (v := X) rfl rfl rfl (by rw [hX]; go_simp) rfl ⟨⟨_, _, rfl⟩, ?_, HD.out.2⟩
    have := HD.out.1
    unfold LF.stepL
    simpa using this
  have k4 : (kd == 4) = false := by simpa using hk4
  obtain ⟨X, hX⟩ : ∃ X, X = Value.agg #[.slice none 0 0, .slice none 0 0, .slice none 0 0, .slice none 0 0] := ⟨_, rfl⟩
  have HD := Lib.hid (done4 H0.out BX.out.b1 TW.out hB hlo (.slice none 0 0) (.slice none 0 0) (.slice none 0 0) (.slice none 0 0))
  go_wp2_with fail
  refine ret_cell_tmp2 (p := 6) (u := 7) (v := X) rfl rfl rfl (by rw [hX]; go_simp) rfl ⟨⟨_, _, rfl⟩, ?_, HD.out.2⟩
  have := HD.out.1
  unfold LF.stepL
  simpa [hk1, hk2, hk3, hk4] using this

end Go.Proofs.Ytlhkajlkapoabaa

/-
  The walk of the law's filled.
-/
namespace Go.Proofs.Ytlhkajlkapoabaa
open Go.RowKit Go.Maps
set_option linter.unusedVariables false

noncomputable def LF.runsL (F : LF) : List OpL → LF
  | [] => F
  | o :: r => (F.stepL o).runsL r

theorem runsL_snoc (F : LF) (os : List OpL) (o : OpL) : F.runsL (os ++ [o]) = (F.runsL os).stepL o := by
  induction os generalizing F with
  | nil => rfl
  | cons x r ih => exact ih _

/-- A script that came in. -/
structure ScrL (w : World) (v : Value) (os : List OpL) : Prop where
  rk : RK encOp 5 w w.heap.size v os
  at_ : ∀ o ∈ os, o.At

theorem cellOp {w : World} {b off i : Nat} {o : OpL} (h : ∀ (j : Nat) u, (encOp o)[j]? = some u → w.cell? ⟨b, off + i * 5 + j, none⟩ = some u) :
    w.cell? ⟨b, off + i * 5, none⟩ = some (.int .i64 o.kd) ∧ w.cell? ⟨b, off + i * 5 + 1, none⟩ = some (.int .i64 o.id) ∧ w.cell? ⟨b, off + i * 5 + 2, none⟩ = some (.int .i64 o.u) ∧ w.cell? ⟨b, off + i * 5 + 3, none⟩ = some (.int .i64 o.v) ∧ w.cell? ⟨b, off + i * 5 + 4, none⟩ = some (.int .i64 o.wt) :=
  ⟨h 0 _ rfl, h 1 _ rfl, h 2 _ rfl, h 3 _ rfl, h 4 _ rfl⟩

/-- No block besides is kept. -/
def noQ : Nat → Prop := fun _ => False

theorem noQ_lt {w : World} : ∀ k, noQ k → k < w.heap.size := fun _ h => h.elim

theorem small64 {v : Int} (h1 : 0 ≤ v) (h2 : v ≤ 1000000000) : I64 v := by unfold I64; omega

/-- A forest that has nothing. -/
def LF.none0 : LF := ⟨[], []⟩

set_option maxRecDepth 100000 in
set_option maxHeartbeats 4000000 in
theorem filled_any (w : World) (v1 : Value) (os : List OpL) (hs : ScrL w v1 os) :
    Calls Try.prog 15 #[v1] w fun e w' => ∃ f, e = .returned (.pointer (some ⟨f, 0, none⟩)) ∧ LB w.heap.size noQ w' f (LF.none0.runsL os) ∧ Below w.heap.size w w' := by
  obtain ⟨A, c, rfl, hc1, hc2, hc3, HC⟩ := hs.rk.open_
  obtain ⟨n, hn⟩ : ∃ n, n = os.length := ⟨_, rfl⟩
  rw [← hn] at hc1 hc3 ⊢
  have HS := Lib.hid hs.at_
  have HN := Lib.hid hn
  clear hs hn
  go_enter Try.func15, Try.ntmps15
  go_wp2_with fail
  refine (bNew w noQ noQ_lt).mono ?_
  rintro e w1 ⟨f, rfl, h1, b1⟩
  have H1 : Hid (LB w.heap.size noQ w1 f LF.none0) := Lib.hid h1
  have B1 := Lib.hid b1
  clear h1 b1
  go_wp2_with fail
  go_loopw [4] (fun i wr => ∃ k : Nat, k ≤ n ∧ i = .int .i64 k ∧ Hid (LB w.heap.size noQ wr f (LF.none0.runsL (os.take k))) ∧ Hid (Below w.heap.size w wr)) (fun i _ => n - (intOf i).toNat)
  case atStart => exact ⟨0, Nat.zero_le _, rfl, H1, B1⟩
  case round =>
    obtain ⟨k, hk, rfl, HF, HT⟩ := hrel
    by_cases hkl : k < n
    · have hko : k < os.length := by have := HN.out; omega
      obtain ⟨b1, o1, rfl, hb, hx⟩ := HC.out k hko
      obtain ⟨hx1, hx2, hx3, hx4, hx5⟩ := cellOp hx
      have y1 := (HT.out.cell (p := ⟨b1, o1 + k * 5, none⟩) hb).trans hx1
      have y2 := (HT.out.cell (p := ⟨b1, o1 + k * 5 + 1, none⟩) hb).trans hx2
      have y3 := (HT.out.cell (p := ⟨b1, o1 + k * 5 + 2, none⟩) hb).trans hx3
      have y4 := (HT.out.cell (p := ⟨b1, o1 + k * 5 + 3, none⟩) hb).trans hx4
      have y5 := (HT.out.cell (p := ⟨b1, o1 + k * 5 + 4, none⟩) hb).trans hx5
      have HOP := Lib.hid (HS.out os[k] (List.getElem_mem hko))
      have HTK := Lib.hid (List.take_succ_eq_append_getElem hko)
      clear hx hx1 hx2 hx3 hx4 hx5
      obtain ⟨x, hx⟩ : ∃ x, x = os[k] := ⟨_, rfl⟩
      rw [← hx] at y1 y2 y3 y4 y5 HOP HTK
      clear hx
      obtain ⟨kd, id, u, v, wt⟩ := x
      dsimp only at y1 y2 y3 y4 y5
      have hkn : (k : Int) < (n : Int) := by omega
      have hkd : decide ((k : Int) < (n : Int)) = true := by simpa using hkl
      go_wp2_with fail
      refine (does0 w.heap.size noQ wr f _ HF.out HT.out.size kd id u v wt HOP.out).mono ?_
      rintro e w4 ⟨⟨u4, x4, rfl⟩, h4, t4⟩
      have H4 : Hid (LB w.heap.size noQ w4 f (LF.none0.runsL (os.take (k + 1)))) := Lib.hid (by rw [HTK.out, runsL_snoc]; exact h4)
      have T4 := Lib.hid (HT.out.trans t4.below)
      clear h4 t4 y1 y2 y3 y4 y5
      go_wp2_with fail
      go_roundw
      case rel => exact ⟨k + 1, by omega, by go_num, H4, T4⟩
      case measure => simp [intOf]; omega
    · obtain rfl : k = n := by omega
      have hkd : decide ((k : Int) < (k : Int)) = false := by simp
      have HF2 : Hid (LB w.heap.size noQ wr f (LF.none0.runsL os)) := Lib.hid (by
        have := HF.out
        rw [List.take_of_length_le (by have := HN.out; omega)] at this
        exact this)
      go_wp2_with fail
      go_ret
      exact ⟨_, rfl, HF2.out, HT.out⟩

end Go.Proofs.Ytlhkajlkapoabaa
