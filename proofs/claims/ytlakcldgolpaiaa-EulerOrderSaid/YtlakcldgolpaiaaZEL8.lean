/-
  The law's changes at a forest of the document that has nothing.
-/
import Derived.ProofKit
import Derived.OpenShut
import Derived.ShutString
import Derived.ChangeOld
import Derived.SizedLaws
import Derived.Lib.SmallJoins
import Derived.Deep.Slices
import Derived.Test.YtlakcldgolpaiaaZAQ
namespace Go.Proofs.Ytlakcldgolpaiaa
open Go.RowKit Go.Maps
set_option linter.unusedVariables false

/-- A call of the script. -/
structure OpE where
  kd : Int
  id : Int
  u : Int
  v : Int
  on : Bool

def encOp (o : OpE) : List Value := [.int .i64 o.kd, .int .i64 o.id, .int .i64 o.u, .int .i64 o.v, .bool o.on]

theorem encOp_len (o : OpE) : (encOp o).length = 5 := rfl

structure OpE.At (o : OpE) : Prop where
  id : I64 o.id
  u : I64 o.u
  v : I64 o.v

/-- What a call of the script does to a forest. -/
noncomputable def FS.stepE (F : FS) (o : OpE) : FS :=
  if o.kd = 1 then F.addA o.u else if o.kd = 2 then F.delA o.u else if o.kd = 3 then F.linkA o.id o.u o.v else if o.kd = 4 then F.cutA o.id else if o.kd = 5 then F.markVA o.u o.on else if o.kd = 6 then F.markEA o.id o.on else F

theorem notF_D : NotF 31 := by unfold NotF; decide

theorem notF_O : NotF 33 := by unfold NotF; decide

theorem notF_E : NotF 37 := by unfold NotF; decide

section

variable {B : Nat} {Q : Nat → Prop} {w w' : World} {f p i : Nat} {F : FS}

/-- A forest stays where a block of another type turns. -/
theorem FB.far (h : FB B Q w f F) {t : TypeId} {cs : Array Value} (hb : Blk w p t cs) (hn : NotF t) (u : Value) : FB B Q (w.setCell ⟨p, i, none⟩ u) f F := by
  obtain ⟨S, h1, h2, h3⟩ := h
  refine ⟨S, ⟨h1.1.frame (T := fun k => k = p) ((Mod.refl (fun k => k = p) _).setCell (p := ⟨p, i, none⟩) (fun _ => rfl) _) (fun k hk e => h1.1.types hk (e ▸ hb) hn), h1.2⟩, h2, fun k hk => by simpa using h3 k hk⟩

theorem TameF.far (h : TameF B Q w w') (hB : B ≤ w.heap.size) (hp : w.heap.size ≤ p) (u : Value) : TameF B Q w (w'.setCell ⟨p, i, none⟩ u) := by
  refine ⟨h.below.setCell (p := ⟨p, i, none⟩) (Nat.le_trans hB hp) u, ?_, fun k cs t fr hb hn => ?_, fun k hq hk => (Below.heap_setCell w' ⟨p, i, none⟩ u k (fun e => by have e : k = p := e; omega)).trans (h.kept k hq hk)⟩
  · have := h.size
    have e : (w'.setCell ⟨p, i, none⟩ u).heap.size = w'.heap.size := by simp
    omega
  · refine (Below.heap_setCell w' ⟨p, i, none⟩ u k ?_).trans (h.rows k cs t fr hb hn)
    intro e
    have e : k = p := e
    have := (Array.getElem?_eq_some_iff.1 hb).1
    omega

theorem done4 {cs : Array Value} (h : FB B Q w' f F) (hb : Blk w' p 31 cs) (ht : TameF B Q w w') (hB : B ≤ w.heap.size) (hp : w.heap.size ≤ p) (a b c d : Value) :
    FB B Q ((((w'.setCell ⟨p, 0, none⟩ a).setCell ⟨p, 1, none⟩ b).setCell ⟨p, 2, none⟩ c).setCell ⟨p, 3, none⟩ d) f F ∧ TameF B Q w ((((w'.setCell ⟨p, 0, none⟩ a).setCell ⟨p, 1, none⟩ b).setCell ⟨p, 2, none⟩ c).setCell ⟨p, 3, none⟩ d) :=
  ⟨((((h.far hb notF_D a).far (hb.set_ 0 a) notF_D b).far ((hb.set_ 0 a).set_ 1 b) notF_D c).far (((hb.set_ 0 a).set_ 1 b).set_ 2 c) notF_D d), (((ht.far hB hp a).far hB hp b).far hB hp c).far hB hp d⟩

end

/-- The boxes of changes: the document's forest, the call, the result's cell. -/
structure Box6 (w W : World) (p : Nat) (o : OpE) : Prop where
  b0 : Blk W p 31 #[.slice none 0 0, .slice none 0 0, .slice none 0 0, .slice none 0 0]
  bo : Blk W (p + 1) 33 #[.int .i64 o.kd, .int .i64 o.id, .int .i64 o.u, .int .i64 o.v, .bool o.on]
  b1 : Blk W (p + 2) 31 #[.slice none 0 0, .slice none 0 0, .slice none 0 0, .slice none 0 0]
  lo : w.heap.size ≤ p

theorem box6 (w : World) (o : OpE) : Box6 w (((w.alloc z4).alloc (Obj.cells #[.int .i64 o.kd, .int .i64 o.id, .int .i64 o.u, .int .i64 o.v, .bool o.on] 33)).alloc z4) w.heap.size o ∧ Below w.heap.size w (((w.alloc z4).alloc (Obj.cells #[.int .i64 o.kd, .int .i64 o.id, .int .i64 o.u, .int .i64 o.v, .bool o.on] 33)).alloc z4) := by
  refine ⟨⟨((Blk.new _ _ _).alloc _).alloc _, ?_, ?_, Nat.le_refl _⟩, (((Below.refl _ _).alloc (Nat.le_refl _) _).alloc (by simp) _).alloc (by simp; omega) _⟩
  · have := (Blk.new (w.alloc z4) 33 #[.int .i64 o.kd, .int .i64 o.id, .int .i64 o.u, .int .i64 o.v, .bool o.on]).alloc z4
    simpa [z4] using this
  · have := Blk.new ((w.alloc z4).alloc (Obj.cells #[.int .i64 o.kd, .int .i64 o.id, .int .i64 o.u, .int .i64 o.v, .bool o.on] 33)) 31 #[.slice none 0 0, .slice none 0 0, .slice none 0 0, .slice none 0 0]
    simpa [z4] using this

theorem Box6.after {w W W' : World} {p : Nat} {o : OpE} (h : Box6 w W p o) (hb : Below W.heap.size W W') : Box6 w W' p o := ⟨h.b0.below hb h.b0.lt, h.bo.below hb h.bo.lt, h.b1.below hb h.b1.lt, h.lo⟩

theorem Box6.tame {B : Nat} {Q : Nat → Prop} {w W W' : World} {p : Nat} {o : OpE} (h : Box6 w W p o) (ht : TameF B Q W W') : Box6 w W' p o := ⟨ht.blk h.b0 notF_D, ht.blk h.bo notF_O, ht.blk h.b1 notF_D, h.lo⟩

set_option maxRecDepth 100000 in
set_option maxHeartbeats 8000000 in
theorem changes0 (B : Nat) (Q : Nat → Prop) (w : World) (f : Nat) (F : FS) (h : FB B Q w f F) (hB : B ≤ w.heap.size) (kd id u v : Int) (on : Bool) (ho : OpE.At ⟨kd, id, u, v, on⟩) :
    Calls Try.prog 10 #[.pointer (some ⟨f, 0, none⟩), emptyD, .agg #[.int .i64 kd, .int .i64 id, .int .i64 u, .int .i64 v, .bool on]] w fun e w' => (∃ x y, e = .returned (.tuple #[x, .bool y])) ∧ FB B Q w' f (F.stepE ⟨kd, id, u, v, on⟩) ∧ TameF B Q w w' := by
  obtain ⟨W, hW⟩ : ∃ W, W = ((w.alloc z4).alloc (Obj.cells #[.int .i64 kd, .int .i64 id, .int .i64 u, .int .i64 v, .bool on] 33)).alloc z4 := ⟨_, rfl⟩
  obtain ⟨q, hq⟩ : ∃ q, q = w.heap.size := ⟨_, rfl⟩
  have hbx := box6 w ⟨kd, id, u, v, on⟩
  dsimp only at hbx
  rw [← hW] at hbx
  have H0 := Lib.hid (h.below hbx.2)
  have TW := Lib.hid (TameF.of_below (Q := Q) hbx.2 hB)
  have hBW : B ≤ W.heap.size := Nat.le_trans hB hbx.2.size
  rw [← hq] at hbx
  have hlo : w.heap.size ≤ q + 2 := by omega
  have HU := ho.u
  have HI := ho.id
  have HV := ho.v
  dsimp only at HU HI HV
  unfold z4 at hW
  have HW := Lib.hid hW
  have HQ := Lib.hid hq
  have BX := Lib.hid hbx.1
  clear hW hq hbx h ho
  change Calls Try.prog _ #[.pointer (some ⟨f, 0, none⟩), .agg #[.slice none 0 0, .slice none 0 0, .slice none 0 0, .slice none 0 0], .agg #[.int .i64 kd, .int .i64 id, .int .i64 u, .int .i64 v, .bool on]] w _
  go_enter Try.func10, Try.ntmps10
  go_upto_region 1 with fail
  rw [← HW.out]
  try simp only [← HQ.out]
  have c0 := BX.out.b0.cell 0
  have cr0 := BX.out.b1.cell 0
  have cf0 := BX.out.b1.frozen 0
  have c1 := BX.out.b0.cell 1
  have cr1 := BX.out.b1.cell 1
  have cf1 := BX.out.b1.frozen 1
  have c2 := BX.out.b0.cell 2
  have cr2 := BX.out.b1.cell 2
  have cf2 := BX.out.b1.frozen 2
  have c3 := BX.out.b0.cell 3
  have cr3 := BX.out.b1.cell 3
  have cf3 := BX.out.b1.frozen 3
  have co0 := BX.out.bo.cell 0
  have co1 := BX.out.bo.cell 1
  have co2 := BX.out.bo.cell 2
  have co3 := BX.out.bo.cell 3
  have co4 := BX.out.bo.cell 4
  try dsimp only at co0 co1 co2 co3 co4
  by_cases hk1 : kd = 1
  · subst hk1
    go_wp2_with fail
    refine (bAddV B Q W f F H0.out hBW u HU).mono ?_
    rintro e w2 ⟨rfl, h2, t2⟩
    have BX2 := Lib.hid (BX.out.tame t2)
    have H2 := Lib.hid h2
    have T2 := Lib.hid (TW.out.trans t2)
    clear h2 t2 c0 cr0 cf0 c1 cr1 cf1 c2 cr2 cf2 c3 cr3 cf3 co0 co1 co2 co3 co4
    have d0 := BX2.out.b0.cell 0
    have dr0 := BX2.out.b1.cell 0
    have df0 := BX2.out.b1.frozen 0
    have d1 := BX2.out.b0.cell 1
    have dr1 := BX2.out.b1.cell 1
    have df1 := BX2.out.b1.frozen 1
    have d2 := BX2.out.b0.cell 2
    have dr2 := BX2.out.b1.cell 2
    have df2 := BX2.out.b1.frozen 2
    have d3 := BX2.out.b0.cell 3
    have dr3 := BX2.out.b1.cell 3
    have df3 := BX2.out.b1.frozen 3
    have do0 := BX2.out.bo.cell 0
    have do1 := BX2.out.bo.cell 1
    have do2 := BX2.out.bo.cell 2
    have do3 := BX2.out.bo.cell 3
    have do4 := BX2.out.bo.cell 4
    go_wp2_with fail
    refine (refAddV_nil w2 u).mono ?_
    rintro e w3 ⟨⟨x, n, rfl, X0, a0, b0, X1, a1, b1, X2, a2, b2, X3, a3, b3, rfl⟩, t3⟩
    have hb4 : Below w2.heap.size w2 (w3.alloc (Obj.cells #[.slice X0 a0 b0, .slice X1 a1 b1, .slice X2 a2 b2, .slice X3 a3 b3] 31)) := t3.alloc t3.size _
    have BX4 := Lib.hid (BX2.out.after hb4)
    have H4 := Lib.hid (H2.out.below hb4)
    have T4 := Lib.hid (T2.out.trans (TameF.of_below (B := B) (Q := Q) hb4 (Nat.le_trans hB T2.out.size)))
    obtain ⟨W4, hW4⟩ : ∃ W4, W4 = w3.alloc (Obj.cells #[.slice X0 a0 b0, .slice X1 a1 b1, .slice X2 a2 b2, .slice X3 a3 b3] 31) := ⟨_, rfl⟩
    have kn : Blk W4 w3.heap.size 31 #[.slice X0 a0 b0, .slice X1 a1 b1, .slice X2 a2 b2, .slice X3 a3 b3] := by rw [hW4]; exact Blk.new _ _ _
    rw [← hW4] at BX4 H4 T4
    obtain ⟨q4, hq4⟩ : ∃ q4, q4 = w3.heap.size := ⟨_, rfl⟩
    rw [← hq4] at kn
    have HW4 := Lib.hid hW4
    have HQ4 := Lib.hid hq4
    have n0 := kn.cell 0
    have n1 := kn.cell 1
    have n2 := kn.cell 2
    have n3 := kn.cell 3
    clear t3 hb4 hW4 hq4 kn d0 dr0 df0 d1 dr1 df1 d2 dr2 df2 d3 dr3 df3 do0 do1 do2 do3 do4
    have e0 := BX4.out.b0.cell 0
    have er0 := BX4.out.b1.cell 0
    have ef0 := BX4.out.b1.frozen 0
    have e1 := BX4.out.b0.cell 1
    have er1 := BX4.out.b1.cell 1
    have ef1 := BX4.out.b1.frozen 1
    have e2 := BX4.out.b0.cell 2
    have er2 := BX4.out.b1.cell 2
    have ef2 := BX4.out.b1.frozen 2
    have e3 := BX4.out.b0.cell 3
    have er3 := BX4.out.b1.cell 3
    have ef3 := BX4.out.b1.frozen 3
    have eo0 := BX4.out.bo.cell 0
    have eo1 := BX4.out.bo.cell 1
    have eo2 := BX4.out.bo.cell 2
    have eo3 := BX4.out.bo.cell 3
    have eo4 := BX4.out.bo.cell 4
    go_upto_region 5 with fail
    rw [← HW4.out]
    try simp only [← HQ4.out]
    obtain ⟨X, hX⟩ : ∃ X, X = Value.agg #[.slice X0 a0 b0, .slice X1 a1 b1, .slice X2 a2 b2, .slice X3 a3 b3] := ⟨_, rfl⟩
    have HD := Lib.hid (done4 H4.out BX4.out.b1 T4.out hB hlo (.slice X0 a0 b0) (.slice X1 a1 b1) (.slice X2 a2 b2) (.slice X3 a3 b3))
    go_wp2_with fail
    refine ret_cell_tmp2 (p := 6) (u := 7) (v := X) rfl rfl rfl (by rw [hX]; go_simp) rfl ⟨⟨_, _, rfl⟩, ?_, HD.out.2⟩
    have := HD.out.1
    unfold FS.stepE
    simpa using this
  have k1 : (kd == 1) = false := by simpa using hk1
  by_cases hk2 : kd = 2
  · subst hk2
    go_wp2_with fail
    refine (bDelV B Q W f F H0.out hBW u HU).mono ?_
    rintro e w2 ⟨rfl, h2, t2⟩
    have BX2 := Lib.hid (BX.out.tame t2)
    have H2 := Lib.hid h2
    have T2 := Lib.hid (TW.out.trans t2)
    clear h2 t2 c0 cr0 cf0 c1 cr1 cf1 c2 cr2 cf2 c3 cr3 cf3 co0 co1 co2 co3 co4
    have d0 := BX2.out.b0.cell 0
    have dr0 := BX2.out.b1.cell 0
    have df0 := BX2.out.b1.frozen 0
    have d1 := BX2.out.b0.cell 1
    have dr1 := BX2.out.b1.cell 1
    have df1 := BX2.out.b1.frozen 1
    have d2 := BX2.out.b0.cell 2
    have dr2 := BX2.out.b1.cell 2
    have df2 := BX2.out.b1.frozen 2
    have d3 := BX2.out.b0.cell 3
    have dr3 := BX2.out.b1.cell 3
    have df3 := BX2.out.b1.frozen 3
    have do0 := BX2.out.bo.cell 0
    have do1 := BX2.out.bo.cell 1
    have do2 := BX2.out.bo.cell 2
    have do3 := BX2.out.bo.cell 3
    have do4 := BX2.out.bo.cell 4
    go_wp2_with fail
    refine (refDelV_nil w2 u).mono ?_
    rintro e w3 ⟨⟨x, n, rfl, X0, a0, b0, X1, a1, b1, X2, a2, b2, X3, a3, b3, rfl⟩, t3⟩
    have hb4 : Below w2.heap.size w2 (w3.alloc (Obj.cells #[.slice X0 a0 b0, .slice X1 a1 b1, .slice X2 a2 b2, .slice X3 a3 b3] 31)) := t3.alloc t3.size _
    have BX4 := Lib.hid (BX2.out.after hb4)
    have H4 := Lib.hid (H2.out.below hb4)
    have T4 := Lib.hid (T2.out.trans (TameF.of_below (B := B) (Q := Q) hb4 (Nat.le_trans hB T2.out.size)))
    obtain ⟨W4, hW4⟩ : ∃ W4, W4 = w3.alloc (Obj.cells #[.slice X0 a0 b0, .slice X1 a1 b1, .slice X2 a2 b2, .slice X3 a3 b3] 31) := ⟨_, rfl⟩
    have kn : Blk W4 w3.heap.size 31 #[.slice X0 a0 b0, .slice X1 a1 b1, .slice X2 a2 b2, .slice X3 a3 b3] := by rw [hW4]; exact Blk.new _ _ _
    rw [← hW4] at BX4 H4 T4
    obtain ⟨q4, hq4⟩ : ∃ q4, q4 = w3.heap.size := ⟨_, rfl⟩
    rw [← hq4] at kn
    have HW4 := Lib.hid hW4
    have HQ4 := Lib.hid hq4
    have n0 := kn.cell 0
    have n1 := kn.cell 1
    have n2 := kn.cell 2
    have n3 := kn.cell 3
    clear t3 hb4 hW4 hq4 kn d0 dr0 df0 d1 dr1 df1 d2 dr2 df2 d3 dr3 df3 do0 do1 do2 do3 do4
    have e0 := BX4.out.b0.cell 0
    have er0 := BX4.out.b1.cell 0
    have ef0 := BX4.out.b1.frozen 0
    have e1 := BX4.out.b0.cell 1
    have er1 := BX4.out.b1.cell 1
    have ef1 := BX4.out.b1.frozen 1
    have e2 := BX4.out.b0.cell 2
    have er2 := BX4.out.b1.cell 2
    have ef2 := BX4.out.b1.frozen 2
    have e3 := BX4.out.b0.cell 3
    have er3 := BX4.out.b1.cell 3
    have ef3 := BX4.out.b1.frozen 3
    have eo0 := BX4.out.bo.cell 0
    have eo1 := BX4.out.bo.cell 1
    have eo2 := BX4.out.bo.cell 2
    have eo3 := BX4.out.bo.cell 3
    have eo4 := BX4.out.bo.cell 4
    go_upto_region 9 with fail
    rw [← HW4.out]
    try simp only [← HQ4.out]
    obtain ⟨X, hX⟩ : ∃ X, X = Value.agg #[.slice X0 a0 b0, .slice X1 a1 b1, .slice X2 a2 b2, .slice X3 a3 b3] := ⟨_, rfl⟩
    have HD := Lib.hid (done4 H4.out BX4.out.b1 T4.out hB hlo (.slice X0 a0 b0) (.slice X1 a1 b1) (.slice X2 a2 b2) (.slice X3 a3 b3))
    go_wp2_with fail
    refine ret_cell_tmp2 (p := 6) (u := 7) (v := X) rfl rfl rfl (by rw [hX]; go_simp) rfl ⟨⟨_, _, rfl⟩, ?_, HD.out.2⟩
    have := HD.out.1
    unfold FS.stepE
    simpa using this
  have k2 : (kd == 2) = false := by simpa using hk2
  by_cases hk3 : kd = 3
  · subst hk3
    go_wp2_with fail
    refine (bLink B Q W f F H0.out hBW id u v HI HU HV).mono ?_
    rintro e w2 ⟨rfl, h2, t2⟩
    have BX2 := Lib.hid (BX.out.tame t2)
    have H2 := Lib.hid h2
    have T2 := Lib.hid (TW.out.trans t2)
    clear h2 t2 c0 cr0 cf0 c1 cr1 cf1 c2 cr2 cf2 c3 cr3 cf3 co0 co1 co2 co3 co4
    have d0 := BX2.out.b0.cell 0
    have dr0 := BX2.out.b1.cell 0
    have df0 := BX2.out.b1.frozen 0
    have d1 := BX2.out.b0.cell 1
    have dr1 := BX2.out.b1.cell 1
    have df1 := BX2.out.b1.frozen 1
    have d2 := BX2.out.b0.cell 2
    have dr2 := BX2.out.b1.cell 2
    have df2 := BX2.out.b1.frozen 2
    have d3 := BX2.out.b0.cell 3
    have dr3 := BX2.out.b1.cell 3
    have df3 := BX2.out.b1.frozen 3
    have do0 := BX2.out.bo.cell 0
    have do1 := BX2.out.bo.cell 1
    have do2 := BX2.out.bo.cell 2
    have do3 := BX2.out.bo.cell 3
    have do4 := BX2.out.bo.cell 4
    go_wp2_with fail
    refine (refLink_nil w2 id u v).mono ?_
    rintro e w3 ⟨⟨x, n, rfl, X0, a0, b0, X1, a1, b1, X2, a2, b2, X3, a3, b3, rfl⟩, t3⟩
    have hb4 : Below w2.heap.size w2 (w3.alloc (Obj.cells #[.slice X0 a0 b0, .slice X1 a1 b1, .slice X2 a2 b2, .slice X3 a3 b3] 31)) := t3.alloc t3.size _
    have BX4 := Lib.hid (BX2.out.after hb4)
    have H4 := Lib.hid (H2.out.below hb4)
    have T4 := Lib.hid (T2.out.trans (TameF.of_below (B := B) (Q := Q) hb4 (Nat.le_trans hB T2.out.size)))
    obtain ⟨W4, hW4⟩ : ∃ W4, W4 = w3.alloc (Obj.cells #[.slice X0 a0 b0, .slice X1 a1 b1, .slice X2 a2 b2, .slice X3 a3 b3] 31) := ⟨_, rfl⟩
    have kn : Blk W4 w3.heap.size 31 #[.slice X0 a0 b0, .slice X1 a1 b1, .slice X2 a2 b2, .slice X3 a3 b3] := by rw [hW4]; exact Blk.new _ _ _
    rw [← hW4] at BX4 H4 T4
    obtain ⟨q4, hq4⟩ : ∃ q4, q4 = w3.heap.size := ⟨_, rfl⟩
    rw [← hq4] at kn
    have HW4 := Lib.hid hW4
    have HQ4 := Lib.hid hq4
    have n0 := kn.cell 0
    have n1 := kn.cell 1
    have n2 := kn.cell 2
    have n3 := kn.cell 3
    clear t3 hb4 hW4 hq4 kn d0 dr0 df0 d1 dr1 df1 d2 dr2 df2 d3 dr3 df3 do0 do1 do2 do3 do4
    have e0 := BX4.out.b0.cell 0
    have er0 := BX4.out.b1.cell 0
    have ef0 := BX4.out.b1.frozen 0
    have e1 := BX4.out.b0.cell 1
    have er1 := BX4.out.b1.cell 1
    have ef1 := BX4.out.b1.frozen 1
    have e2 := BX4.out.b0.cell 2
    have er2 := BX4.out.b1.cell 2
    have ef2 := BX4.out.b1.frozen 2
    have e3 := BX4.out.b0.cell 3
    have er3 := BX4.out.b1.cell 3
    have ef3 := BX4.out.b1.frozen 3
    have eo0 := BX4.out.bo.cell 0
    have eo1 := BX4.out.bo.cell 1
    have eo2 := BX4.out.bo.cell 2
    have eo3 := BX4.out.bo.cell 3
    have eo4 := BX4.out.bo.cell 4
    go_upto_region 13 with fail
    rw [← HW4.out]
    try simp only [← HQ4.out]
    obtain ⟨X, hX⟩ : ∃ X, X = Value.agg #[.slice X0 a0 b0, .slice X1 a1 b1, .slice X2 a2 b2, .slice X3 a3 b3] := ⟨_, rfl⟩
    have HD := Lib.hid (done4 H4.out BX4.out.b1 T4.out hB hlo (.slice X0 a0 b0) (.slice X1 a1 b1) (.slice X2 a2 b2) (.slice X3 a3 b3))
    go_wp2_with fail
    refine ret_cell_tmp2 (p := 6) (u := 7) (v := X) rfl rfl rfl (by rw [hX]; go_simp) rfl ⟨⟨_, _, rfl⟩, ?_, HD.out.2⟩
    have := HD.out.1
    unfold FS.stepE
    simpa using this
  have k3 : (kd == 3) = false := by simpa using hk3
  by_cases hk4 : kd = 4
  · subst hk4
    go_wp2_with fail
    refine (bCut B Q W f F H0.out hBW id HI).mono ?_
    rintro e w2 ⟨rfl, h2, t2⟩
    have BX2 := Lib.hid (BX.out.tame t2)
    have H2 := Lib.hid h2
    have T2 := Lib.hid (TW.out.trans t2)
    clear h2 t2 c0 cr0 cf0 c1 cr1 cf1 c2 cr2 cf2 c3 cr3 cf3 co0 co1 co2 co3 co4
    have d0 := BX2.out.b0.cell 0
    have dr0 := BX2.out.b1.cell 0
    have df0 := BX2.out.b1.frozen 0
    have d1 := BX2.out.b0.cell 1
    have dr1 := BX2.out.b1.cell 1
    have df1 := BX2.out.b1.frozen 1
    have d2 := BX2.out.b0.cell 2
    have dr2 := BX2.out.b1.cell 2
    have df2 := BX2.out.b1.frozen 2
    have d3 := BX2.out.b0.cell 3
    have dr3 := BX2.out.b1.cell 3
    have df3 := BX2.out.b1.frozen 3
    have do0 := BX2.out.bo.cell 0
    have do1 := BX2.out.bo.cell 1
    have do2 := BX2.out.bo.cell 2
    have do3 := BX2.out.bo.cell 3
    have do4 := BX2.out.bo.cell 4
    go_wp2_with fail
    refine (refCut_nil w2 id).mono ?_
    rintro e w3 ⟨⟨x, n, rfl, X0, a0, b0, X1, a1, b1, X2, a2, b2, X3, a3, b3, rfl⟩, t3⟩
    have hb4 : Below w2.heap.size w2 (w3.alloc (Obj.cells #[.slice X0 a0 b0, .slice X1 a1 b1, .slice X2 a2 b2, .slice X3 a3 b3] 31)) := t3.alloc t3.size _
    have BX4 := Lib.hid (BX2.out.after hb4)
    have H4 := Lib.hid (H2.out.below hb4)
    have T4 := Lib.hid (T2.out.trans (TameF.of_below (B := B) (Q := Q) hb4 (Nat.le_trans hB T2.out.size)))
    obtain ⟨W4, hW4⟩ : ∃ W4, W4 = w3.alloc (Obj.cells #[.slice X0 a0 b0, .slice X1 a1 b1, .slice X2 a2 b2, .slice X3 a3 b3] 31) := ⟨_, rfl⟩
    have kn : Blk W4 w3.heap.size 31 #[.slice X0 a0 b0, .slice X1 a1 b1, .slice X2 a2 b2, .slice X3 a3 b3] := by rw [hW4]; exact Blk.new _ _ _
    rw [← hW4] at BX4 H4 T4
    obtain ⟨q4, hq4⟩ : ∃ q4, q4 = w3.heap.size := ⟨_, rfl⟩
    rw [← hq4] at kn
    have HW4 := Lib.hid hW4
    have HQ4 := Lib.hid hq4
    have n0 := kn.cell 0
    have n1 := kn.cell 1
    have n2 := kn.cell 2
    have n3 := kn.cell 3
    clear t3 hb4 hW4 hq4 kn d0 dr0 df0 d1 dr1 df1 d2 dr2 df2 d3 dr3 df3 do0 do1 do2 do3 do4
    have e0 := BX4.out.b0.cell 0
    have er0 := BX4.out.b1.cell 0
    have ef0 := BX4.out.b1.frozen 0
    have e1 := BX4.out.b0.cell 1
    have er1 := BX4.out.b1.cell 1
    have ef1 := BX4.out.b1.frozen 1
    have e2 := BX4.out.b0.cell 2
    have er2 := BX4.out.b1.cell 2
    have ef2 := BX4.out.b1.frozen 2
    have e3 := BX4.out.b0.cell 3
    have er3 := BX4.out.b1.cell 3
    have ef3 := BX4.out.b1.frozen 3
    have eo0 := BX4.out.bo.cell 0
    have eo1 := BX4.out.bo.cell 1
    have eo2 := BX4.out.bo.cell 2
    have eo3 := BX4.out.bo.cell 3
    have eo4 := BX4.out.bo.cell 4
    go_upto_region 17 with fail
    rw [← HW4.out]
    try simp only [← HQ4.out]
    obtain ⟨X, hX⟩ : ∃ X, X = Value.agg #[.slice X0 a0 b0, .slice X1 a1 b1, .slice X2 a2 b2, .slice X3 a3 b3] := ⟨_, rfl⟩
    have HD := Lib.hid (done4 H4.out BX4.out.b1 T4.out hB hlo (.slice X0 a0 b0) (.slice X1 a1 b1) (.slice X2 a2 b2) (.slice X3 a3 b3))
    go_wp2_with fail
    refine ret_cell_tmp2 (p := 6) (u := 7) (v := X) rfl rfl rfl (by rw [hX]; go_simp) rfl ⟨⟨_, _, rfl⟩, ?_, HD.out.2⟩
    have := HD.out.1
    unfold FS.stepE
    simpa using this
  have k4 : (kd == 4) = false := by simpa using hk4
  by_cases hk5 : kd = 5
  · subst hk5
    go_wp2_with fail
    refine (bMarkV B Q W f F H0.out hBW u HU on).mono ?_
    rintro e w2 ⟨rfl, h2, t2⟩
    have BX2 := Lib.hid (BX.out.tame t2)
    have H2 := Lib.hid h2
    have T2 := Lib.hid (TW.out.trans t2)
    clear h2 t2 c0 cr0 cf0 c1 cr1 cf1 c2 cr2 cf2 c3 cr3 cf3 co0 co1 co2 co3 co4
    have d0 := BX2.out.b0.cell 0
    have dr0 := BX2.out.b1.cell 0
    have df0 := BX2.out.b1.frozen 0
    have d1 := BX2.out.b0.cell 1
    have dr1 := BX2.out.b1.cell 1
    have df1 := BX2.out.b1.frozen 1
    have d2 := BX2.out.b0.cell 2
    have dr2 := BX2.out.b1.cell 2
    have df2 := BX2.out.b1.frozen 2
    have d3 := BX2.out.b0.cell 3
    have dr3 := BX2.out.b1.cell 3
    have df3 := BX2.out.b1.frozen 3
    have do0 := BX2.out.bo.cell 0
    have do1 := BX2.out.bo.cell 1
    have do2 := BX2.out.bo.cell 2
    have do3 := BX2.out.bo.cell 3
    have do4 := BX2.out.bo.cell 4
    go_wp2_with fail
    refine (has_any _ [] w2 w2.heap.size (RK.nil _ _) u).mono ?_
    rw [decide_eq_false (by simp)]
    rintro e wx ⟨rfl, hwx⟩
    rw [hwx]
    clear hwx wx
    obtain ⟨X, hX⟩ : ∃ X, X = Value.agg #[.slice none 0 0, .slice none 0 0, .slice none 0 0, .slice none 0 0] := ⟨_, rfl⟩
    have HD := Lib.hid (done4 H2.out BX2.out.b1 T2.out hB hlo (.slice none 0 0) (.slice none 0 0) (.slice none 0 0) (.slice none 0 0))
    go_wp2_with fail
    refine ret_cell_tmp2 (p := 6) (u := 7) (v := X) rfl rfl rfl (by rw [hX]; go_simp) rfl ⟨⟨_, _, rfl⟩, ?_, HD.out.2⟩
    have := HD.out.1
    unfold FS.stepE
    simpa using this
  have k5 : (kd == 5) = false := by simpa using hk5
  by_cases hk6 : kd = 6
  · subst hk6
    go_wp2_with fail
    refine (bMarkE B Q W f F H0.out hBW id HI on).mono ?_
    rintro e w2 ⟨rfl, h2, t2⟩
    have BX2 := Lib.hid (BX.out.tame t2)
    have H2 := Lib.hid h2
    have T2 := Lib.hid (TW.out.trans t2)
    clear h2 t2 c0 cr0 cf0 c1 cr1 cf1 c2 cr2 cf2 c3 cr3 cf3 co0 co1 co2 co3 co4
    have d0 := BX2.out.b0.cell 0
    have dr0 := BX2.out.b1.cell 0
    have df0 := BX2.out.b1.frozen 0
    have d1 := BX2.out.b0.cell 1
    have dr1 := BX2.out.b1.cell 1
    have df1 := BX2.out.b1.frozen 1
    have d2 := BX2.out.b0.cell 2
    have dr2 := BX2.out.b1.cell 2
    have df2 := BX2.out.b1.frozen 2
    have d3 := BX2.out.b0.cell 3
    have dr3 := BX2.out.b1.cell 3
    have df3 := BX2.out.b1.frozen 3
    have do0 := BX2.out.bo.cell 0
    have do1 := BX2.out.bo.cell 1
    have do2 := BX2.out.bo.cell 2
    have do3 := BX2.out.bo.cell 3
    have do4 := BX2.out.bo.cell 4
    go_wp2_with fail
    refine (refEdge_nil w2 id).mono ?_
    rintro e w3 ⟨rfl, t3⟩
    have hb4 : Below w2.heap.size w2 (w3.alloc (Obj.cells #[.int .i64 0, .int .i64 0, .int .i64 0, .int .i64 0] 37)) := t3.alloc t3.size _
    have BX4 := Lib.hid (BX2.out.after hb4)
    have H4 := Lib.hid (H2.out.below hb4)
    have T4 := Lib.hid (T2.out.trans (TameF.of_below (B := B) (Q := Q) hb4 (Nat.le_trans hB T2.out.size)))
    obtain ⟨W4, hW4⟩ : ∃ W4, W4 = w3.alloc (Obj.cells #[.int .i64 0, .int .i64 0, .int .i64 0, .int .i64 0] 37) := ⟨_, rfl⟩
    rw [← hW4] at BX4 H4 T4
    have HW4 := Lib.hid hW4
    clear t3 hb4 hW4 d0 dr0 df0 d1 dr1 df1 d2 dr2 df2 d3 dr3 df3 do0 do1 do2 do3 do4
    have e0 := BX4.out.b0.cell 0
    have er0 := BX4.out.b1.cell 0
    have ef0 := BX4.out.b1.frozen 0
    have e1 := BX4.out.b0.cell 1
    have er1 := BX4.out.b1.cell 1
    have ef1 := BX4.out.b1.frozen 1
    have e2 := BX4.out.b0.cell 2
    have er2 := BX4.out.b1.cell 2
    have ef2 := BX4.out.b1.frozen 2
    have e3 := BX4.out.b0.cell 3
    have er3 := BX4.out.b1.cell 3
    have ef3 := BX4.out.b1.frozen 3
    have eo0 := BX4.out.bo.cell 0
    have eo1 := BX4.out.bo.cell 1
    have eo2 := BX4.out.bo.cell 2
    have eo3 := BX4.out.bo.cell 3
    have eo4 := BX4.out.bo.cell 4
    go_upto_region 27 with fail
    rw [← HW4.out]
    obtain ⟨X, hX⟩ : ∃ X, X = Value.agg #[.slice none 0 0, .slice none 0 0, .slice none 0 0, .slice none 0 0] := ⟨_, rfl⟩
    have HD := Lib.hid (done4 H4.out BX4.out.b1 T4.out hB hlo (.slice none 0 0) (.slice none 0 0) (.slice none 0 0) (.slice none 0 0))
    go_wp2_with fail
    refine ret_cell_tmp2 (p := 6) (u := 7) (v := X) rfl rfl rfl (by rw [hX]; go_simp) rfl ⟨⟨_, _, rfl⟩, ?_, HD.out.2⟩
    have := HD.out.1
    unfold FS.stepE
    simpa using this
  have k6 : (kd == 6) = false := by simpa using hk6
  obtain ⟨X, hX⟩ : ∃ X, X = Value.agg #[.slice none 0 0, .slice none 0 0, .slice none 0 0, .slice none 0 0] := ⟨_, rfl⟩
  have HD := Lib.hid (done4 H0.out BX.out.b1 TW.out hB hlo (.slice none 0 0) (.slice none 0 0) (.slice none 0 0) (.slice none 0 0))
  go_wp2_with fail
  refine ret_cell_tmp2 (p := 6) (u := 7) (v := X) rfl rfl rfl (by rw [hX]; go_simp) rfl ⟨⟨_, _, rfl⟩, ?_, HD.out.2⟩
  have := HD.out.1
  unfold FS.stepE
  simpa [hk1, hk2, hk3, hk4, hk5, hk6] using this

end Go.Proofs.Ytlakcldgolpaiaa

/-
  The walk of the law's filled.
-/
namespace Go.Proofs.Ytlakcldgolpaiaa
open Go.RowKit Go.Maps
set_option linter.unusedVariables false

noncomputable def FS.runsE (F : FS) : List OpE → FS
  | [] => F
  | o :: r => (F.stepE o).runsE r

theorem runsE_snoc (F : FS) (os : List OpE) (o : OpE) : F.runsE (os ++ [o]) = (F.runsE os).stepE o := by
  induction os generalizing F with
  | nil => rfl
  | cons x r ih => exact ih _

/-- A script that came in. -/
structure ScrE (w : World) (v : Value) (os : List OpE) : Prop where
  rk : RK encOp 5 w w.heap.size v os
  at_ : ∀ o ∈ os, o.At

theorem cellOp {w : World} {b off i : Nat} {o : OpE} (h : ∀ (j : Nat) u, (encOp o)[j]? = some u → w.cell? ⟨b, off + i * 5 + j, none⟩ = some u) :
    w.cell? ⟨b, off + i * 5, none⟩ = some (.int .i64 o.kd) ∧ w.cell? ⟨b, off + i * 5 + 1, none⟩ = some (.int .i64 o.id) ∧ w.cell? ⟨b, off + i * 5 + 2, none⟩ = some (.int .i64 o.u) ∧ w.cell? ⟨b, off + i * 5 + 3, none⟩ = some (.int .i64 o.v) ∧ w.cell? ⟨b, off + i * 5 + 4, none⟩ = some (.bool o.on) :=
  ⟨h 0 _ rfl, h 1 _ rfl, h 2 _ rfl, h 3 _ rfl, h 4 _ rfl⟩

set_option maxRecDepth 100000 in
set_option maxHeartbeats 4000000 in
theorem filled_any (w : World) (v0 : Value) (ss : List Int) (v1 : Value) (os : List OpE) (h0 : RI w w.heap.size v0 ss) (hs : ScrE w v1 os) :
    Calls Try.prog 15 #[v0, v1] w fun e w' => ∃ f, e = .returned (.pointer (some ⟨f, 0, none⟩)) ∧ FB w.heap.size noQ w' f (FS.new.runsE os) ∧ Below w.heap.size w w' := by
  obtain ⟨A, c, rfl, hc1, hc2, hc3, HC⟩ := hs.rk.open_
  obtain ⟨n, hn⟩ : ∃ n, n = os.length := ⟨_, rfl⟩
  rw [← hn] at hc1 hc3 ⊢
  have HS := Lib.hid hs.at_
  have H0 := Lib.hid h0
  have HN := Lib.hid hn
  obtain ⟨A0, c0, hv0, -, -, -, -⟩ := h0.open_
  obtain ⟨n0, hn0⟩ : ∃ n0, n0 = ss.length := ⟨_, rfl⟩
  rw [← hn0] at hv0
  subst hv0
  clear hs h0 hn hn0
  go_enter Try.func15, Try.ntmps15
  go_wp2_with fail
  refine (bNew w _ ss H0.out noQ noQ_lt).mono ?_
  rintro e w1 ⟨f, rfl, h1, b1⟩
  have H1 := Lib.hid h1
  have B1 := Lib.hid b1
  clear h1 b1
  go_wp2_with fail
  go_loopw [6] (fun i wr => ∃ k : Nat, k ≤ n ∧ i = .int .i64 k ∧ Hid (FB w.heap.size noQ wr f (FS.new.runsE (os.take k))) ∧ Hid (Below w.heap.size w wr)) (fun i _ => n - (intOf i).toNat)
  case atStart => exact ⟨0, Nat.zero_le _, rfl, H1, B1⟩
  case round =>
    obtain ⟨k, hk, rfl, HF, HT⟩ := hrel
    by_cases hkl : k < n
    · have hko : k < os.length := by have := HN.out; omega
      obtain ⟨b1, o1, rfl, hb, hx⟩ := HC.out k hko
      obtain ⟨hx1, hx2, hx3, hx4, hx5⟩ := cellOp hx
      have y1 := (HT.out.cell (p := ⟨b1, o1 + k * 5, none⟩) hb).trans hx1
      have y2 := (HT.out.cell (p := ⟨b1, o1 + k * 5 + 1, none⟩) hb).trans hx2
      have y3 := (HT.out.cell (p := ⟨b1, o1 + k * 5 + 2, none⟩) hb).trans hx3
      have y4 := (HT.out.cell (p := ⟨b1, o1 + k * 5 + 3, none⟩) hb).trans hx4
      have y5 := (HT.out.cell (p := ⟨b1, o1 + k * 5 + 4, none⟩) hb).trans hx5
      have HOP := Lib.hid (HS.out os[k] (List.getElem_mem hko))
      have HTK := Lib.hid (List.take_succ_eq_append_getElem hko)
      clear hx hx1 hx2 hx3 hx4 hx5
      obtain ⟨x, hx⟩ : ∃ x, x = os[k] := ⟨_, rfl⟩
      rw [← hx] at y1 y2 y3 y4 y5 HOP HTK
      clear hx
      obtain ⟨kd, id, u, v, on⟩ := x
      dsimp only at y1 y2 y3 y4 y5
      have hkn : (k : Int) < (n : Int) := by omega
      have hkd : decide ((k : Int) < (n : Int)) = true := by simpa using hkl
      go_wp2_with fail
      refine (changes0 w.heap.size noQ wr f _ HF.out HT.out.size kd id u v on HOP.out).mono ?_
      rintro e w4 ⟨⟨u4, x4, rfl⟩, h4, t4⟩
      have H4 : Hid (FB w.heap.size noQ w4 f (FS.new.runsE (os.take (k + 1)))) := Lib.hid (by rw [HTK.out, runsE_snoc]; exact h4)
      have T4 := Lib.hid (HT.out.trans t4.below)
      clear h4 t4 y1 y2 y3 y4 y5
      go_wp2_with fail
      go_roundw
      case rel => exact ⟨k + 1, by omega, by go_num, H4, T4⟩
      case measure => simp [intOf]; omega
    · obtain rfl : k = n := by omega
      have hkd : decide ((k : Int) < (k : Int)) = false := by simp
      have HF2 : Hid (FB w.heap.size noQ wr f (FS.new.runsE os)) := Lib.hid (by
        have := HF.out
        rw [List.take_of_length_le (by have := HN.out; omega)] at this
        exact this)
      go_wp2_with fail
      go_ret
      exact ⟨_, rfl, HF2.out, HT.out⟩

end Go.Proofs.Ytlakcldgolpaiaa

/-
  Arguments of layer 16's laws, as the form hands them in.
-/
namespace Go.Proofs.Ytlakcldgolpaiaa
open Go.ChangeShapes Go.WideShapes Go.ChangeAt Go.RowKit Go.Deep
set_option linter.unusedVariables false

theorem own : ownKnob Try.prog.godebug = none := by kernel_rfl

theorem laidOut : laidOutB Try.prog = true := by kernel_rfl

theorem i64_of_wf {i : Int} (h : (Lit.int .i64 i).wf = true) : I64 i := by
  simp [Lit.wf, IntKind.min, IntKind.max, IntKind.signed, IntKind.bits] at h
  unfold I64; omega

section

variable {H : Type} {enc : TypeId × Value → H} {W : World} {sp : Nat → Bool} {held : Bool}

theorem add_none {b off j : Nat} : (⟨b, off, none⟩ : Addr).add j = ⟨b, off + j, none⟩ := by unfold Addr.add; split <;> simp_all

/-- What an element weighs its slice weighs. -/
theorem weights_all {P : Program} {e : TypeId} : ∀ (l : List (DataW H)) (d : DataW H) (n : Nat), d ∈ l → n ∈ d.weights P e → n ∈ DataW.weightsAll P e l
  | [], _, _, h, _ => by cases h
  | x :: r, d, n, h, hn => by
    simp only [DataW.weightsAll, List.mem_append]
    rcases List.mem_cons.1 h with h | h
    · subst h; exact .inl hn
    · exact .inr (weights_all r d n h hn)

theorem weights_elem {P : Program} {t e : TypeId} {elems spare : List (DataW H)} (ht : P.underlying t = some (.slice e)) {d : DataW H} {n : Nat} (hd : d ∈ elems) (hn : n ∈ d.weights P e) : n ∈ (DataW.slice elems spare).weights P t := by
  simp only [DataW.weights, ht]
  exact List.mem_cons_of_mem _ (List.mem_append_left _ (weights_all elems d n hd hn))

theorem weights_len {P : Program} {t e : TypeId} {elems spare : List (DataW H)} (ht : P.underlying t = some (.slice e)) : (elems.length + spare.length) * P.bytesOf e ∈ (DataW.slice elems spare).weights P t := by
  simp [DataW.weights, ht]

/-- A slice of numbers of one kind, as it came in. -/
theorem nums_in {t e : TypeId} {q : IntKind} {bytes : Nat} (ht : Try.prog.underlying t = some (.slice e)) (he : Try.prog.underlying e = some (.int q)) (hc : Try.prog.cellsOf e = 1) (hb : Try.prog.bytesOf e = bytes) (hb0 : 0 < bytes)
    {fuel : Nat} {v : Value} {y : DataW H × List MemPlace} (h : DataW.trod enc Try.prog W 0 sp held fuel t [v] = some y) (hs : ∀ n ∈ y.1.weights Try.prog t, n ≤ reachBytes) :
    ∃ (A : Option Addr) (len cap : Nat) (zs : List Int), v = .slice A len cap ∧ zs.length = len ∧ len ≤ cap ∧ cap ≤ 9223372036854775807 ∧ len * bytes ≤ 140737488351232 ∧ (∀ z ∈ zs, (Lit.int q z).wf = true) ∧
      (zs = [] ∨ ∃ b off, A = some ⟨b, off, none⟩ ∧ b < W.heap.size ∧ ∀ (i : Nat) z, zs[i]? = some z → W.cell? ⟨b, off + i, none⟩ = some (.int q z)) := by
  rcases open_ints ht he hc h with ⟨hcs, _⟩ | ⟨a, len, cap, zs, hcs, _, hl, hm, hz, hx, hcell, hwz⟩
  · simp at hcs
    subst hcs
    exact ⟨none, 0, 0, [], rfl, rfl, Nat.le_refl _, by omega, by omega, by simp, .inl rfl⟩
  · simp at hcs
    subst hcs
    have hd : y.1 = _ := congrArg Prod.fst hx
    have hreach := hs ((zs.take len |>.length) + (zs.drop len |>.length) |> (· * Try.prog.bytesOf e)) (by
      rw [hd]
      have := weights_len (H := H) (P := Try.prog) (t := t) (e := e) (elems := lits q (zs.take len)) (spare := lits q (zs.drop len)) ht
      simpa [lits] using this)
    rw [hb] at hreach
    simp only [List.length_take, List.length_drop, reachBytes] at hreach
    have hlz : len ≤ zs.length := by rw [hz]; split <;> omega
    have hlen : (zs.take len).length = len := by rw [List.length_take]; omega
    have hmul : len * bytes ≤ (min len zs.length + (zs.length - len)) * bytes := Nat.mul_le_mul_right _ (by omega)
    refine ⟨some a, len, cap, zs.take len, rfl, hlen, by omega, by simpa [maxLen] using hm, by omega, fun z hz => hwz z (List.mem_of_mem_take hz), ?_⟩
    obtain ⟨b, off, spot⟩ := a
    rcases Nat.eq_zero_or_pos len with h0 | h0
    · exact .inl (List.eq_nil_of_length_eq_zero (by omega))
    · have hspot : spot = none := by simpa [Addr.add] using World.cell?_spot (hcell 0 (by omega))
      subst hspot
      have hblt : b < W.heap.size := by
        have := World.block_lt_of_cell? W _ (hcell 0 (by omega))
        simpa [Addr.add] using this
      refine .inr ⟨b, off, rfl, hblt, fun i z hi => ?_⟩
      have hil : i < len := by have := (List.getElem?_eq_some_iff.1 hi).1; omega
      rw [List.getElem?_take, if_pos hil] at hi
      have hc := hcell i (by omega)
      rw [add_none, List.getD, hi] at hc
      simpa using hc

theorem ints_in {fuel : Nat} {v : Value} {y : DataW H × List MemPlace} (h : DataW.trod enc Try.prog W 0 sp held fuel 22 [v] = some y) (hs : ∀ n ∈ y.1.weights Try.prog 22, n ≤ reachBytes) :
    ∃ V, RI W W.heap.size v V ∧ ∀ x ∈ V, I64 x := by
  obtain ⟨A, len, cap, zs, rfl, hz, h1, h2, h3, hw, hc⟩ := nums_in (bytes := 8) Try.underlying22 Try.underlying3 (by kernel_rfl) (by kernel_rfl) (by omega) h hs
  refine ⟨zs, ⟨by omega, A, cap, by rw [hz], by omega, h2, ?_⟩, fun x hx => ?_⟩
  · rcases hc with rfl | ⟨b, off, rfl, hbl, hc⟩
    · exact .inl rfl
    · refine .inr ⟨b, off, rfl, hbl, fun i x hx j u hu => ?_⟩
      match j, hu with
      | 0, hu => simp [encI] at hu; subst hu; simpa using hc i x hx
      | j + 1, hu => simp [encI] at hu
  · have := hw x hx
    simp [Lit.wf, IntKind.min, IntKind.max, IntKind.signed, IntKind.bits] at this
    unfold I64; omega

/-- A slice of structs, as it came in: each element by its cells. -/
theorem structs_in {α : Type} [Inhabited α] {t e : TypeId} (encA : α → List Value) (k bytes : Nat) (hk : ∀ x, (encA x).length = k) (hk0 : 0 < k) (hkb : k ≤ bytes) (P : α → Prop) (ht : Try.prog.underlying t = some (.slice e)) (hc : Try.prog.cellsOf e = k) (hb : Try.prog.bytesOf e = bytes)
    (hel : ∀ (n : Nat) (cs : List Value) (x : DataW H × List MemPlace), cs.length = k → DataW.trod enc Try.prog W 0 sp held n e cs = some x → (∀ m ∈ x.1.weights Try.prog e, m ≤ reachBytes) → ∃ a : α, cs = encA a ∧ P a)
    {fuel : Nat} {v : Value} {y : DataW H × List MemPlace} (h : DataW.trod enc Try.prog W 0 sp held fuel t [v] = some y) (hs : ∀ n ∈ y.1.weights Try.prog t, n ≤ reachBytes) :
    ∃ xs : List α, RK encA k W W.heap.size v xs ∧ xs.length * bytes ≤ 140737488351232 ∧ ∀ x ∈ xs, P x := by
  rcases open_slice ht h with ⟨hcs, _⟩ | ⟨a, len, cap, m, n, D, Pl, hcs, _, hl, hm, hmm, hx, hi⟩
  · simp at hcs
    subst hcs
    exact ⟨[], RK.nil _ _, by simp, by simp⟩
  · simp at hcs
    subst hcs
    have hd : y.1 = _ := congrArg Prod.fst hx
    rw [hd] at hs
    have hreach := hs _ (weights_len ht)
    rw [hb] at hreach
    simp only [List.length_map, List.length_range, reachBytes] at hreach
    have hlm : len ≤ m := by rw [hmm]; split <;> omega
    have hmul : len * bytes ≤ (len + (m - len)) * bytes := Nat.mul_le_mul_right _ (by omega)
    have hmul2 : len * k ≤ len * bytes := Nat.mul_le_mul_left _ hkb
    have each : ∀ i, i < len → ∃ x : α, (∀ (j : Nat) u, (encA x)[j]? = some u → W.cell? ((a.add (i * k)).add j) = some u) ∧ P x := by
      intro i hil
      obtain ⟨cs, h1, h2⟩ := hi i (by omega)
      rw [hc] at h1
      obtain ⟨_, hcl, hat⟩ := World.cells?_some h1
      obtain ⟨x, rfl, hp⟩ := hel n cs _ hcl h2 (fun q hq => hs q (weights_elem ht (List.mem_map.2 ⟨i, List.mem_range.2 hil, rfl⟩) hq))
      refine ⟨x, fun j u hu => ?_, hp⟩
      have hj : j < k := by have := (List.getElem?_eq_some_iff.1 hu).1; rw [hk] at this; exact this
      rw [hat j hj]; exact hu
    obtain ⟨F, hF⟩ := choose_lt each
    have hlen : ((List.range len).map F).length = len := by simp
    refine ⟨(List.range len).map F, ⟨by rw [hlen]; omega, some a, cap, by rw [hlen], by omega, by simpa [maxLen] using hm, ?_⟩, by rw [hlen]; omega, fun x hx => ?_⟩
    · obtain ⟨b, off, spot⟩ := a
      rcases Nat.eq_zero_or_pos len with h0 | h0
      · exact .inl (List.eq_nil_of_length_eq_zero (by omega))
      · have hz0 : 0 < (encA (F 0)).length := by rw [hk]; exact hk0
        have h00 := (hF 0 (by omega)).1 0 _ (List.getElem?_eq_getElem hz0)
        have hspot : spot = none := by simpa [Addr.add] using World.cell?_spot h00
        subst hspot
        have hblt : b < W.heap.size := by
          have := World.block_lt_of_cell? W _ h00
          simpa [Addr.add] using this
        refine .inr ⟨b, off, rfl, hblt, fun i x hi j u hu => ?_⟩
        have hil : i < len := by have := (List.getElem?_eq_some_iff.1 hi).1; omega
        rw [List.getElem?_map, List.getElem?_range hil] at hi
        simp at hi
        subst hi
        have := (hF i hil).1 j u hu
        rw [add_none, add_none] at this
        exact this
    · obtain ⟨i, hi, rfl⟩ := List.mem_map.1 hx
      exact (hF i (List.mem_range.1 hi)).2

theorem int_cell {t : TypeId} (ht : Try.prog.underlying t = some (.int .i64)) {n : Nat} {c : Value} (hc : (DataW.trod enc Try.prog W 0 sp held n t [c]).isSome = true) : ∃ z : Int, c = .int .i64 z ∧ I64 z := by
  obtain ⟨z, hz⟩ := Option.isSome_iff_exists.1 hc
  obtain ⟨q, h3, hx, hw⟩ := DataW.trod_int ht hz
  refine ⟨q, by simpa using h3, ?_⟩
  simp [Lit.wf, IntKind.min, IntKind.max, IntKind.signed, IntKind.bits] at hw
  unfold I64; omega

theorem bool_cell {t : TypeId} (ht : Try.prog.underlying t = some .bool) {n : Nat} {c : Value} (hc : (DataW.trod enc Try.prog W 0 sp held n t [c]).isSome = true) : ∃ z : Bool, c = .bool z := by
  obtain ⟨z, hz⟩ := Option.isSome_iff_exists.1 hc
  obtain ⟨q, h3, hx⟩ := DataW.trod_bool ht hz
  exact ⟨q, by simpa using h3⟩

set_option maxRecDepth 100000 in
theorem opE_elem {n : Nat} {cs : List Value} {x : DataW H × List MemPlace} (hl : cs.length = 5) (h : DataW.trod enc Try.prog W 0 sp held n 33 cs = some x) : ∃ o : OpE, cs = encOp o ∧ o.At := by
  obtain ⟨xs, n', _, _, _, hxl, hf⟩ := DataW.trod_struct Try.underlying33 h
  match cs, hl with
  | [c0, c1, c2, c3, c4], _ =>
    have hx5 : xs.length = 5 := hxl
    have g : ∀ (j : Nat), j < xs.length → (xs[j]?).isSome = true := fun j hj => by rw [List.getElem?_eq_getElem hj]; rfl
    have f0 : DataW.trod enc Try.prog W 0 sp held n' 3 (([c0, c1, c2, c3, c4].drop 0).take (Try.prog.cellsOf 3)) = xs[0]? := hf 0 _ rfl
    have f1 : DataW.trod enc Try.prog W 0 sp held n' 3 (([c0, c1, c2, c3, c4].drop 1).take (Try.prog.cellsOf 3)) = xs[1]? := hf 1 _ rfl
    have f2 : DataW.trod enc Try.prog W 0 sp held n' 3 (([c0, c1, c2, c3, c4].drop 2).take (Try.prog.cellsOf 3)) = xs[2]? := hf 2 _ rfl
    have f3 : DataW.trod enc Try.prog W 0 sp held n' 3 (([c0, c1, c2, c3, c4].drop 3).take (Try.prog.cellsOf 3)) = xs[3]? := hf 3 _ rfl
    have f4 : DataW.trod enc Try.prog W 0 sp held n' 4 (([c0, c1, c2, c3, c4].drop 4).take (Try.prog.cellsOf 4)) = xs[4]? := hf 4 _ rfl
    rw [show Try.prog.cellsOf 3 = 1 from by kernel_rfl] at f0 f1 f2 f3
    rw [show Try.prog.cellsOf 4 = 1 from by kernel_rfl] at f4
    obtain ⟨z0, rfl, hz0⟩ := int_cell Try.underlying3 (c := c0) (n := n') (by have := g 0 (by omega); rw [← f0] at this; exact this)
    obtain ⟨z1, rfl, hz1⟩ := int_cell Try.underlying3 (c := c1) (n := n') (by have := g 1 (by omega); rw [← f1] at this; exact this)
    obtain ⟨z2, rfl, hz2⟩ := int_cell Try.underlying3 (c := c2) (n := n') (by have := g 2 (by omega); rw [← f2] at this; exact this)
    obtain ⟨z3, rfl, hz3⟩ := int_cell Try.underlying3 (c := c3) (n := n') (by have := g 3 (by omega); rw [← f3] at this; exact this)
    obtain ⟨z4, rfl⟩ := bool_cell Try.underlying4 (c := c4) (n := n') (by have := g 4 (by omega); rw [← f4] at this; exact this)
    exact ⟨⟨z0, z1, z2, z3, z4⟩, rfl, ⟨hz1, hz2, hz3⟩⟩

theorem eops_in {v : Value} {d : DataW H} {p : List MemPlace} (h : DataW.Trod enc Try.prog W 0 sp held 23 v d p) (hs : ∀ n ∈ d.weights Try.prog 23, n ≤ reachBytes) (hone : v.cells.toList = [v]) :
    ∃ os, ScrE W v os := by
  obtain ⟨fuel, hf⟩ := h
  rw [hone] at hf
  haveI : Inhabited OpE := ⟨⟨0, 0, 0, 0, false⟩⟩
  obtain ⟨os, h1, h2, h3⟩ := structs_in (e := 33) encOp 5 40 encOp_len (by omega) (by omega) OpE.At Try.underlying23 (by kernel_rfl) (by kernel_rfl) (fun n cs x hl h _ => opE_elem hl h) hf hs
  exact ⟨os, h1, h3⟩

theorem sized_arg {ts : List TypeId} {ds : List (DataW H)} (hsz : (DataW.weightsEach Try.prog ts ds).all (· ≤ reachBytes) = true) {j : Nat} {t : TypeId} {d : DataW H} (ht : ts[j]? = some t) (hd : ds[j]? = some d) : ∀ n ∈ d.weights Try.prog t, n ≤ reachBytes := fun n hn => by
  have := List.all_eq_true.1 hsz n (DataW.weights_mem_each ht hd n hn)
  simpa using this

theorem ints_arg {v : Value} {d : DataW H} {p : List MemPlace} (h : DataW.Trod enc Try.prog W 0 sp held 22 v d p) (hs : ∀ n ∈ d.weights Try.prog 22, n ≤ reachBytes) (hone : v.cells.toList = [v]) :
    ∃ V, RI W W.heap.size v V ∧ ∀ x ∈ V, I64 x := by
  obtain ⟨fuel, hf⟩ := h
  rw [hone] at hf
  exact ints_in hf hs

end

end Go.Proofs.Ytlakcldgolpaiaa
