/-
  A page put by asks and what it does behind that, step by step; what asks leaves where a step may be refused. No walk.
-/
import Derived.BigQuiet
import Derived.Test.YtbagmmncjmbboaaGreatZCA38
import Derived.Test.YtbagmmncjmbboaaGreatD9
namespace Go.Proofs.YtbagmmncjmbboaaGreat
open Go.RowKit Go.Maps
set_option linter.unusedVariables false

theorem RB.cutToC {w : World} {B b off n c : Nat} {l : List Nat} (h : RB w B (.slice (some ⟨b, off, none⟩) n c) l) (k : Nat) (hk : k ≤ n) : RB w B (.slice (some ⟨b, off, none⟩) k c) (l.take k) := by
  obtain ⟨h1, h2, A, c', e, h3, h4, h5⟩ := h
  injection e with e1 e2 e3
  subst e1 e2 e3
  refine ⟨fun x hx => h1 x (List.mem_of_mem_take hx), by rw [List.length_take]; omega, some ⟨b, off, none⟩, c, by rw [List.length_take, Nat.min_eq_left hk], by rw [List.length_take]; omega, h4, ?_⟩
  rcases h5 with h5 | ⟨b', off', e, hb, hc⟩
  · left; rw [h5]; simp
  · refine .inr ⟨b', off', e, hb, fun j x hx => hc j x ?_⟩
    rw [List.getElem?_take] at hx
    split at hx
    · exact hx
    · cases hx

/-- What asks leaves, whatever the kind. -/
structure AskI (w w' : World) (I I' : PI) (Q : Nat → Prop) (c c' : CP) (X : Nat) (q : Int) (was : Nat → List Nat) : Prop where
  at_ : PoolAt w' I' Q c'
  late : Late c' was
  mod : Mod (fun k => I.Core k) w w'
  core : ∀ k, I'.Core k → I.Core k ∨ w.heap.size ≤ k
  ids : I'.p = I.p ∧ I'.g = I.g ∧ I'.q = I.q
  steps : c'.s.steps ≤ c.s.steps + 64 * (c.m.count + 2) + 1
  turn : c'.o.turn ≤ c.o.turn + 1
  base : c'.o.base = c.o.base
  count : c'.o.count = c.o.count
  len : c'.s.safe.length = c.s.safe.length
  or_ : (Fine c' X q ∧ c'.m.count = c.m.count) ∨ (Hit c'.s X q ∧ c'.o.dead = true)

def AskD (w : World) (I : PI) (Q : Nat → Prop) (c : CP) (X : Nat) (q : Int) (was : Nat → List Nat) (e : Ending) (w' : World) : Prop :=
  ∃ b I' c', e = .returned (.tuple #[m0, .bool b]) ∧ AskI w w' I I' Q c c' X q was

section

variable {w W W' : World} {I : PI} {Q : Nat → Prop} {c c' : CP} {X : Nat} {q : Int} {was : Nat → List Nat}

theorem AskE.askD {e : Ending} (h : AskE w I Q c X q was e W) : AskD w I Q c X q was e W := by
  obtain ⟨b, c', rfl, hb, hr⟩ := h
  refine ⟨b, I, c', rfl, hb.at_, hb.late, hb.mod.mono fun k _ e => PI.turn_core e, fun k e => .inl e, ⟨rfl, rfl, rfl⟩, hb.stepsM, hb.turn, hb.base, hb.count, hb.len, ?_⟩
  rcases hr with ⟨h1, -, h2⟩ | h1
  · exact .inl ⟨h1, h2⟩
  · exact .inr h1

theorem RB.three (w : World) (x y z : Nat) (hx : x < 256) (hy : y < 256) (hz : z < 256) : RB (w.alloc (.cells #[.int .u8 (x : Int), .int .u8 (y : Int), .int .u8 (z : Int)] 5 (3, 4))) (w.alloc (.cells #[.int .u8 (x : Int), .int .u8 (y : Int), .int .u8 (z : Int)] 5 (3, 4))).heap.size (.slice (some ⟨w.heap.size, 0, none⟩) 3 3) [x, y, z] :=
  RB.newRow w _ w.heap.size #[.int .u8 (x : Int), .int .u8 (y : Int), .int .u8 (z : Int)] 5 [x, y, z] 3 rfl rfl (by simp; exact ⟨hx, hy, hz⟩) (by simp) (by simp) (by omega) (by simp) (3, 4)

/-- The record of a page that asks puts. -/
theorem Live.appPut (h : Live w I Q c X q was) (hcnt : c.m.count = 4) (v : Value) (l : List Nat) (hv : RB w w.heap.size v l) (hl : l.length ≤ 1200) :
    Calls Tryz.prog 20 #[.pointer (some ⟨I.g, 0, none⟩), .int .i64 1, v] w fun e w' => ∃ A r I' c', e = .returned (.tuple #[.int .i64 A, .int .i64 r]) ∧ Live w' I' Q c' X q was ∧ AskI w w' I I' Q c c' X q was ∧ Mod (OwnL I.g I.sv I.bv) w w' ∧ c'.m.count = 4 ∧ c'.o = c.o ∧ c'.s = c.s ∧
      ((r = 0 ∧ 0 ≤ A ∧ A ≤ 9000000000000000000 ∧ A < ((c'.m.lsn c'.m.st.length : Nat) : Int)) ∨ r = 90) := by
  obtain ⟨hf, hlk, hsafe, hrun, hor⟩ := h.fine.app l hv.1 hl
  refine (App_live h (by omega) v l hv hl).mono ?_
  rintro e w' ⟨sv, bv, hL, rfl, hm, hcore⟩
  have hcount : (c.app 1 l).m.count = 4 := by
    rcases hor with ⟨-, -, -⟩ | ⟨-, e⟩
    · have : (c.m.append 1 l).1.count = c.m.count := by
        unfold LG.append
        repeat' split
        all_goals rfl
      exact this.trans hcnt
    · rw [e]; exact hcnt
  refine ⟨_, _, _, _, rfl, hL, ⟨hL.at_, hL.late, hm.mono fun k _ e => .inr (.inl e), hcore, ⟨rfl, rfl, rfl⟩, by show c.s.steps ≤ _; omega, by show c.o.turn ≤ _; omega, rfl, rfl, rfl, .inl ⟨hf, hcount.trans hcnt.symm⟩⟩, hm, hcount, rfl, rfl, ?_⟩
  rcases hor with ⟨h0, h1, h3⟩ | ⟨h0, -⟩
  · have hr := hf.log.ok.run
    have hn := hf.log.ok.num
    exact .inl ⟨h0, by omega, by rw [h1]; unfold LG.lsn; rw [hrun] at hr; omega, by rw [h1]; unfold LG.lsn; rw [hrun]; omega⟩
  · exact .inr h0

/-- What a Put leaves, whatever it answers. -/
theorem Live.put_ (h : Live w I Q c X q was) (n : Int) (hn64 : I64 n) (hst : c.s.steps < 900000000000000) (htn : c.o.turn < 900000000000000) (y : FrM) (gm : PG) (hg : PgIn w (fun k => ¬ I.Turn k) y gm) (A : Int) (hA : 0 ≤ A ∧ A ≤ 9000000000000000000) (hlt : A < ((c.m.lsn c.m.st.length : Nat) : Int)) :
    Calls Tryz.prog 22 #[.pointer (some ⟨I.q, 0, none⟩), .int .i64 n, .pointer (some ⟨y.p, 0, none⟩), .int .i64 A] w fun e w' => ∃ k c', e = .returned (.int .i64 k) ∧ Behind w w' I Q c c' was ∧ ((Fine c' X q ∧ c'.m.count = c.m.count) ∨ (Hit c'.s X q ∧ c'.o.dead = true)) := by
  refine (Put_live h n hn64 hst htn y gm hg A (by omega) hlt).mono ?_
  rintro e w' ⟨k, c', rfl, hb, ⟨-, hf, -, N, -, -, -, -, -, -, -, hlog, -, -⟩ | ⟨-, hm⟩⟩
  · exact ⟨k, c', rfl, hb, .inl ⟨hf, by rw [hlog]⟩⟩
  · refine ⟨k, c', rfl, hb, ?_⟩
    rcases hm.askR h.fine with ⟨h1, -, h2⟩ | h1
    · exact .inl ⟨h1, h2⟩
    · exact .inr h1

/-- Wide, one, Put, Insert, Spoil, as asks does them. -/
theorem Live.put2 (h : Live w I Q c X q was) (n : Int) (hn64 : I64 n) (hst : c.s.steps < 900000000000000) (htn : c.o.turn < 900000000000000) (v : Value) (l : List Nat) (hv : RB w w.heap.size v l) (hl : l.length ≤ 140737488351232) (A : Int) (hA : 0 ≤ A ∧ A ≤ 9000000000000000000) (hlt : A < ((c.m.lsn c.m.st.length : Nat) : Int)) :
    Calls Tryz.prog 52 #[v] w fun e w1 => ∃ g m cp, e = .returned (.slice (some ⟨g, 0, none⟩) m cp) ∧ l.length ≤ m ∧ m ≤ cp ∧ Below w.heap.size w w1 ∧
      Calls Tryz.prog 21 #[.slice (some ⟨g, 0, none⟩) l.length cp] w1 fun e w2 => ∃ y, e = .returned (.pointer (some ⟨y, 0, none⟩)) ∧ Below w1.heap.size w1 w2 ∧
        Calls Tryz.prog 22 #[.pointer (some ⟨I.q, 0, none⟩), .int .i64 n, .pointer (some ⟨y, 0, none⟩), .int .i64 A] w2 fun e w3 => ∃ k c', e = .returned (.int .i64 k) ∧ Mod I.Turn w2 w3 ∧
          ∀ w4, Below w3.heap.size w3 w4 → ∀ iv l2, RB w4 w4.heap.size iv l2 → Calls Tryz.prog 51 #[.pointer (some ⟨y, 0, none⟩), .int .i64 0, iv] w4 fun e w5 => (∃ z, e = .returned (.int .i64 z)) ∧ Mod (fun k => w.heap.size ≤ k ∧ k < w2.heap.size) w4 w5 ∧
            ∀ w6, Below w5.heap.size w5 w6 → Calls Tryz.prog 55 #[.slice (some ⟨g, 0, none⟩) m cp] w6 fun e w7 => e = .returned (.tuple #[]) ∧ Mod (fun k => w.heap.size ≤ k ∧ k < w2.heap.size) w6 w7 ∧ AskI w w7 I I Q c c' X q was := by
  refine (wide_any v l w hv (by omega)).mono ?_
  rintro e w1 ⟨v1, rfl, ho1, hb1⟩
  have hml : (l ++ marks).length = l.length + 64 := by rw [List.length_append]; simp [marks]
  obtain ⟨g, cp, rfl, hgB, hglt, hcp, -, -, -⟩ := ho1.form (by omega)
  refine ⟨g, _, cp, rfl, by omega, hcp, hb1, ?_⟩
  have hr1 : RB w1 w1.heap.size (.slice (some ⟨g, 0, none⟩) l.length cp) l := by
    have := ho1.rbn.cutToC l.length (by omega)
    rw [List.take_append_of_le_length (Nat.le_refl _), List.take_length] at this
    exact this
  refine (one10_any w1 _ l hr1).mono ?_
  rintro e w2 ⟨y, rfl, hy, hb2⟩
  refine ⟨y.p, rfl, hb2, ?_⟩
  have hb12 : Below w.heap.size w w2 := hb1.trans (hb2.mono hb1.size)
  have hG := h.guard (n := w2.heap.size) hb12 (Nat.le_refl _)
  have hy2 : PgIn w2 (fun k => w1.heap.size ≤ k ∧ k < w2.heap.size) y (onePg l) := hy.mod (Mod.refl (fun _ => False) _) (fun _ _ _ e => e) (fun k hk hf => ⟨hf, hk⟩)
  refine (hG.put_ n hn64 hst htn y (onePg l) (hy2.mod (Mod.refl (fun _ => False) _) (fun _ _ _ e => e) (fun k _ hf e => by have h1 := h.at_.lt k (PI.turn_core e); have h2 := hb1.size; omega)) A hA hlt).mono ?_
  rintro e w3 ⟨k, c', rfl, hbh, hor⟩
  refine ⟨k, c', rfl, hbh.mod, fun w4 hb4 iv l2 hiv => ?_⟩
  have hnT : ∀ k, w.heap.size ≤ k → ¬ I.Turn k := fun k hk e => by have := h.at_.lt k (PI.turn_core e); omega
  have hy4 := (hy2.mod (F' := fun k => w1.heap.size ≤ k ∧ k < w2.heap.size) hbh.mod (fun k _ hf => hnT k (by have := hb1.size; omega)) (fun k _ hf => hf)).mod (F' := fun k => w1.heap.size ≤ k ∧ k < w2.heap.size) (Mod.of_below hb4 (fun _ => False)) (fun _ _ _ e => e) (fun k _ hf => hf)
  refine (pageInsert_u hy4.at_ 0 hiv rfl).mono ?_
  rintro e w5 ⟨rfl, v', xs', -, hst5, -⟩
  have hin : ∀ k, (k = y.p ∨ y.v.ownBlock = some k) → w1.heap.size ≤ k ∧ k < w2.heap.size := fun k e => by
    rcases e with e | e
    · subst e; exact hy4.p
    · exact hy4.v k e
  refine ⟨⟨_, rfl⟩, hst5.mod.mono fun k _ e => by have := hin k e; have := hb1.size; omega, fun w6 hb6 => ?_⟩
  have ho2 := ho1.below hb2
  have ho3 := ho2.mod hbh.mod (fun b hb e => hnT b ((ho1.lt b hb).1) e)
  have ho4 := ho3.below hb4
  have ho5 := ho4.mod hst5.mod (fun b hb e => by have h1 := (hin b e).1; have h2 := (ho1.lt b hb).2; omega)
  have ho6 := ho5.below hb6
  refine (spoil_any _ _ w6 _ ho6).mono ?_
  rintro e w7 ⟨rfl, -, hgr⟩
  have hgm : Mod (fun k => k = g) w6 w7 := (Mod.of_grown hgr).mono fun k _ e => by
    have : some k = some g := e
    injection this
  have hsz1 := hb1.size
  have hsz2 := hb2.size
  have hat4 := hbh.at_.below hb4
  have hat5 := hat4.given hst5.mod (fun k e => .inr (by have := hin k e; omega))
  have hat6 := hat5.below hb6
  have hat7 := hat6.given hgm (fun k e => .inr (by subst e; omega))
  have hmc : Mod (fun k => I.Core k) w w7 := by
    have m2 : Mod (fun k => I.Core k) w w2 := Mod.of_below hb12 _
    have m3 := m2.trans hbh.mod fun k _ e => PI.turn_core e
    have m4 := m3.trans (Mod.of_below hb4 (fun _ => False)) fun _ _ e => e.elim
    have m5 := m4.trans hst5.mod fun k hk e => by have := (hin k e).1; omega
    have m6 := m5.trans (Mod.of_below hb6 (fun _ => False)) fun _ _ e => e.elim
    exact m6.trans hgm fun k hk e => by omega
  exact ⟨rfl, hgm.mono fun k _ e => by subst e; omega, hat7.drop fun k e => .inl e, hbh.late, hmc, fun k e => .inl e, ⟨rfl, rfl, rfl⟩, hbh.stepsM, hbh.turn, hbh.base, hbh.count, hbh.len, hor⟩
end
end Go.Proofs.YtbagmmncjmbboaaGreat

/-
  skeinlaw10.asks at a document's pool without pages: Put.
-/
namespace Go.Proofs.YtbagmmncjmbboaaGreat
open Go.RowKit Go.Maps
set_option linter.unusedVariables false

section

variable {w : World} {I : PI} {Q : Nat → Prop} {c : CP} {X : Nat} {q : Int} {was : Nat → List Nat}

/-- From the pool with the blocks behind the last call to what asks leaves. -/
theorem askI_of {w W1 W2 W3 : World} {I I' : PI} {Q : Nat → Prop} {c c' : CP} {X : Nat} {q : Int} {was : Nat → List Nat} {kd n : Int} {v2 v3 : Value} (hw : AskW w W1 kd n v2 v3)
    (h : AskI W1 W2 I I' (fun k => Q k ∨ (w.heap.size ≤ k ∧ k < w.heap.size + 3)) c c' X q was) (hm : Mod (fun k => k = w.heap.size + 2) W2 W3) : AskI w W3 I I' Q c c' X q was := by
  have h3 := h.at_.given hm fun k e => .inr (by omega)
  refine ⟨h3.drop fun k e => .inl e, h.late, ?_, fun k e => ?_, h.ids, h.steps, h.turn, h.base, h.count, h.len, h.or_⟩
  · refine ((Mod.of_below hw.bel (fun k => I.Core k)).trans h.mod fun k _ e => e).trans hm fun k hk e => ?_
    omega
  · rcases h.core k e with e | e
    · exact .inl e
    · exact .inr (Nat.le_trans hw.bel.size e)

theorem AskI.from_ {w W1 W2 : World} {I I' : PI} {Q : Nat → Prop} {c c' : CP} {X : Nat} {q : Int} {was : Nat → List Nat} (hb : Below w.heap.size w W1) (h : AskI W1 W2 I I' Q c c' X q was) : AskI w W2 I I' Q c c' X q was :=
  ⟨h.at_, h.late, (Mod.of_below hb _).trans h.mod fun k _ e => e, fun k e => (h.core k e).imp id fun e => Nat.le_trans hb.size e, h.ids, h.steps, h.turn, h.base, h.count, h.len, h.or_⟩

theorem bthenC {w8 wx wz : World} (h : Below w8.heap.size w8 wx) (hz : Below wx.heap.size wx wz) : Below w8.heap.size w8 wz := h.trans (hz.mono h.size)

theorem RB.four (w : World) (x y z u : Nat) (hx : x < 256) (hy : y < 256) (hz : z < 256) (hu : u < 256) : RB (w.alloc (.cells #[.int .u8 (x : Int), .int .u8 (y : Int), .int .u8 (z : Int), .int .u8 (u : Int)] 5 (4, 5))) (w.alloc (.cells #[.int .u8 (x : Int), .int .u8 (y : Int), .int .u8 (z : Int), .int .u8 (u : Int)] 5 (4, 5))).heap.size (.slice (some ⟨w.heap.size, 0, none⟩) 4 4) [x, y, z, u] :=
  RB.newRow w _ w.heap.size #[.int .u8 (x : Int), .int .u8 (y : Int), .int .u8 (z : Int), .int .u8 (u : Int)] 5 [x, y, z, u] 4 rfl rfl (by simp; exact ⟨hx, hy, hz, hu⟩) (by simp) (by simp) (by omega) (by simp) (4, 5)

theorem AskI.trans {w W1 W2 : World} {I I' : PI} {Q : Nat → Prop} {c c1 c' : CP} {X : Nat} {q : Int} {was : Nat → List Nat} (h : AskI w W1 I I' Q c c1 X q was) (hs : c1.s = c.s) (ho : c1.o = c.o) (hc : c1.m.count = c.m.count) (h2 : AskI W1 W2 I' I' Q c1 c' X q was) : AskI w W2 I I' Q c c' X q was := by
  have e1 := h2.steps
  rw [hs, hc] at e1
  have e2 := h2.turn
  rw [ho] at e2
  refine ⟨h2.at_, h2.late, h.mod.trans h2.mod fun k hk e => ?_, fun k e => ?_, h.ids, e1, e2, by rw [h2.base, ho], by rw [h2.count, ho], by rw [h2.len, hs], ?_⟩
  · rcases h.core k e with e | e
    · exact e
    · omega
  · rcases h2.core k e with e | e
    · exact h.core k e
    · exact .inr (Nat.le_trans h.mod.size e)
  · rcases h2.or_ with ⟨a, b⟩ | a
    · exact .inl ⟨a, b.trans hc⟩
    · exact .inr a

/-- The cells of asks' blocks that a Put reads. -/
theorem AskB.five {w W : World} {kd n : Int} {v2 v3 : Value} (h : AskB w W kd n v2 v3) : W.cell? ⟨w.heap.size, 0, none⟩ = some (.slice none 0 0) ∧ W.cell? ⟨w.heap.size, 1, none⟩ = some (.slice none 0 0) ∧ W.cell? ⟨w.heap.size, 2, none⟩ = some (.int .i64 0) ∧ W.cell? ⟨w.heap.size + 1, 1, none⟩ = some (.int .i64 n) ∧ W.cell? ⟨w.heap.size + 1, 2, none⟩ = some v2 :=
  ⟨h.m.cell 0, h.m.cell 1, h.m.cell 2, h.o.cell 1, h.o.cell 2⟩

set_option maxRecDepth 100000 in
set_option maxHeartbeats 8000000 in
theorem asks2 (h : Live w I Q c X q was) (hcnt : c.m.count = 4) (n : Int) (hn64 : I64 n) (dA : Option Addr) (dn dc : Nat) (item : List Nat) (hv : RB w w.heap.size (.slice dA dn dc) item) (hil : item.length ≤ 140737488351232) (hoff : Off (fun k => I.Core k) (.slice dA dn dc) item) (v3 : Value) (hst : c.s.steps < 900000000000000) (htn : c.o.turn < 900000000000000) :
    Calls Tryz.prog 14 #[.pointer (some ⟨I.g, 0, none⟩), .pointer (some ⟨I.q, 0, none⟩), m0, .agg #[.int .i64 2, .int .i64 n, .slice dA dn dc, v3]] w (AskD w I Q c X q was) := by
  obtain rfl : dn = item.length := by obtain ⟨A', c', e, -⟩ := hv.open_; injection e
  obtain ⟨dn, hdn⟩ : ∃ dn, dn = item.length := ⟨_, rfl⟩
  rw [← hdn] at hv hoff ⊢
  have HDN := Lib.hid hdn
  unfold m0
  have HAW := Lib.hid (askW_start w 2 n (.slice dA dn dc) v3)
  have HLV := Lib.hid h
  have HNN := Lib.hid hn64
  have HST := Lib.hid (And.intro hst htn)
  have HCT := Lib.hid hcnt
  have HIV := Lib.hid (And.intro hv (And.intro hil hoff))
  have hcv := run_const
  clear h hn64 hst htn hcnt hv hil hdn hoff
  go_enter Tryz.func14, Tryz.ntmps14
  go_upto_region 1 with fail
  obtain ⟨W1, hW1⟩ : ∃ W1, W1 = ((w.alloc (.cells #[.slice none 0 0, .slice none 0 0, .int .i64 0] 35)).alloc (.cells #[.int .i64 2, .int .i64 n, .slice dA dn dc, v3] 43)).alloc (.cells #[.slice none 0 0, .slice none 0 0, .int .i64 0] 35) := ⟨_, rfl⟩
  rw [← hW1] at HAW ⊢
  clear hW1
  have HL1 := Lib.hid (HLV.out.guard HAW.out.bel HAW.out.size)
  have HB1 := Lib.hid HAW.out.b
  obtain ⟨am0, am1, am2, ao0, ao1, ao2, ao3, ar0, ar1, ar2, af0, af1, af2⟩ := HB1.out.c
  have HB1a : Hid (Below W1.heap.size W1 (W1.alloc (.cells #[.int .u8 112, .int .u8 117, .int .u8 116] 5 (3, 4)))) := Lib.hid ((Below.refl _ _).alloc (Nat.le_refl _) _)
  have HL1a := Lib.hid (HL1.out.below HB1a.out)
  have HPT : Hid (RB (W1.alloc (.cells #[.int .u8 112, .int .u8 117, .int .u8 116] 5 (3, 4))) (W1.alloc (.cells #[.int .u8 112, .int .u8 117, .int .u8 116] 5 (3, 4))).heap.size (.slice (some ⟨W1.heap.size, 0, none⟩) 3 3) [112, 117, 116]) := Lib.hid (RB.three W1 112 117 116 (by omega) (by omega) (by omega))
  go_wp2_with fail
  refine (HL1a.out.appPut HCT.out _ [112, 117, 116] HPT.out (by simp)).mono ?_
  rintro e W2 ⟨A, r, I', c1, rfl, hl2, hai, hm2, hct, hco, hcs, hor⟩
  have HB2 : Hid (AskB w W2 2 n (.slice dA dn dc) v3) := Lib.hid ((HB1.out.below HB1a.out).mod hm2 fun k hk _ e => by have := HLV.out.at_.lt k (.inr (.inl e)); omega)
  have HL2 := Lib.hid hl2
  have HAI := Lib.hid hai
  have HCC := Lib.hid (And.intro hct (And.intro hco hcs))
  clear hl2 hai hm2 hct hco hcs HL1a HPT am0 am1 am2 ao0 ao1 ao2 ao3 ar0 ar1 ar2 af0 af1 af2
  obtain ⟨bm0, bm1, bm2, bo0, bo1, bo2, bo3, br0, br1, br2, bf0, bf1, bf2⟩ := HB2.out.c
  rcases hor with ⟨hr, hA0, hA1, hAl⟩ | hr
  · subst hr
    have hcoreX : ∀ k, w.heap.size ≤ k → k < w.heap.size + 3 → ¬ I'.Core k := fun k h1 h2 e => by
      rcases HAI.out.core k e with e | e
      · have := HLV.out.at_.lt k e; omega
      · have h3 := HAW.out.size; have h4 := HB1a.out.size; omega
    have HCX := Lib.hid hcoreX
    have hiv2 : RB W2 W2.heap.size (.slice dA dn dc) item := by
      have h1 := ((HIV.out.1.below HAW.out.bel).more HAW.out.bel.size)
      exact ((h1.below HB1a.out).more HB1a.out.size).mod HAI.out.mod HIV.out.2.2
    have hc := HL2.out.put2 n HNN.out (by rw [HCC.out.2.2]; exact HST.out.1) (by rw [HCC.out.2.1]; exact HST.out.2) _ item hiv2 HIV.out.2.1 A ⟨hA0, hA1⟩ hAl
    rw [← HDN.out] at hc
    have HC := Lib.hid hc
    have HIV2 := Lib.hid hiv2
    rw [HAI.out.ids.2.2] at HC
    clear hcoreX hiv2 hc hA0 hA1 hAl
    go_wp2_with fail
    refine HC.out.mono ?_
    rintro e W3 ⟨g, m, cp, rfl, hlm, hmc, hb3, hc⟩
    have HC := Lib.hid hc
    have HB3 := Lib.hid (HB2.out.below hb3)
    have HIV3 := Lib.hid ((HIV2.out.below hb3).more hb3.size)
    have hdm : dn ≤ cp := by omega
    have hdm2 : (dn : Int) ≤ (cp : Int) := by omega
    clear hc hb3 bm0 bm1 bm2 bo0 bo1 bo2 bo3 br0 br1 br2 bf0 bf1 bf2
    obtain ⟨cm0, cm1, cm2, co0, co1, co2, co3, cr0, cr1, cr2, cf0, cf1, cf2⟩ := HB3.out.c
    go_wp2_with fail
    refine HC.out.mono ?_
    rintro e W4 ⟨y, rfl, hb4, hc⟩
    have HC := Lib.hid hc
    have HB4 := Lib.hid (HB3.out.below hb4)
    have HIV4 := Lib.hid ((HIV3.out.below hb4).more hb4.size)
    clear hc hb4 cm0 cm1 cm2 co0 co1 co2 co3 cr0 cr1 cr2 cf0 cf1 cf2
    obtain ⟨dm0, dm1, dm2, do0, do1, do2, do3, dr0, dr1, dr2, df0, df1, df2⟩ := HB4.out.c
    go_wp2_with fail
    refine HC.out.mono ?_
    rintro e W5 ⟨k, c', rfl, hm5, hc⟩
    have HC := Lib.hid hc
    have HB5 := Lib.hid (HB4.out.mod hm5 fun k h1 h2 e => HCX.out k h1 h2 (PI.turn_core e))
    have hoff5 : Off (fun k => I'.Turn k) (.slice dA dn dc) item := by
      rcases HIV.out.2.2 with e | e
      · exact .inl e
      · by_cases hz : item = []
        · exact .inl hz
        · refine .inr fun b hb e2 => ?_
          obtain ⟨-, -, A', c'', e3, -, -, h5⟩ := HIV.out.1
          rcases h5 with h5 | ⟨b', off, e4, hlt, -⟩
          · exact hz h5
          · rw [e3, e4] at hb
            have hbb : b' = b := by simpa [Value.ownBlock] using hb
            rcases HAI.out.core b (PI.turn_core e2) with e5 | e5
            · exact e b (by rw [e3, e4]; simpa [Value.ownBlock] using hbb) e5
            · have h3 := HAW.out.size; have h4 := HB1a.out.size; omega
    have HIV5 := Lib.hid (HIV4.out.mod hm5 hoff5)
    have HS45 := Lib.hid hm5.size
    clear hc hm5 hoff5 dm0 dm1 dm2 do0 do1 do2 do3 dr0 dr1 dr2 df0 df1 df2
    have HS5 : Hid (∀ wx, Below W5.heap.size W5 wx → AskB w wx 2 n (.slice dA dn dc) v3) := Lib.hid fun wx hx => HB5.out.below hx
    have CM : Hid (∀ wx, Below W5.heap.size W5 wx → Calls Tryz.prog 54 #[.slice dA dn dc] wx fun e w' => ∃ A n c, e = .returned (.agg #[.int .i64 0, .int .u8 1, .int .u32 5, .slice A n c]) ∧ Below wx.heap.size wx w') := Lib.hid fun wx hx => model_any wx _ item ((HIV5.out.below hx).more hx.size)
    have hcp := fun wx A2 m2 c2 => refPut_empty wx n A2 m2 c2 A
    unfold m0 at hcp
    have CP := Lib.hid hcp
    clear hcp
    go_wp2_with fail
    go_cut [21, 22] from 108 (fun x21 x22 wx => ∃ X, x21 = .pointer (some ⟨X, 0, none⟩) ∧ x22 = .int .i64 1 ∧ Hid (Below W5.heap.size W5 wx) ∧ Hid (W5.heap.size ≤ X) ∧ Hid (Blk wx X 35 #[.slice none 0 0, .slice none 0 0, .int .i64 0]))
    case first =>
      have HD : Hid (Below W5.heap.size W5 W5.drew) := Lib.hid (Below.refl _ W5).drew
      go_region_held3 (fun wx => wx.cell? ⟨w.heap.size, 0, none⟩ = some (.slice none 0 0) ∧ wx.cell? ⟨w.heap.size, 1, none⟩ = some (.slice none 0 0) ∧ wx.cell? ⟨w.heap.size, 2, none⟩ = some (.int .i64 0) ∧ wx.cell? ⟨w.heap.size + 1, 1, none⟩ = some (.int .i64 n) ∧ wx.cell? ⟨w.heap.size + 1, 2, none⟩ = some (.slice dA dn dc))
        (exact (HS5.out _ (by first | with_reducible exact HZ.out | with_reducible exact HD.out | with_reducible exact HZ.out.alloc HZ.out.size _ | exact ((Below.refl _ W5).alloc (Nat.le_refl _) _).drew | exact ((HZ.out.setCell (p := ⟨_, 0, none⟩) HXL.out _).setCell (p := ⟨_, 1, none⟩) HXL.out _).setCell (p := ⟨_, 2, none⟩) HXL.out _)).five)
        (first
          | (go_at_call 54; refine (CM.out _ (by first | with_reducible exact HD.out | exact ((Below.refl _ W5).alloc (Nat.le_refl _) _).drew)).mono ?_; rintro e wz ⟨A9, m9, c9, rfl, hbz⟩; (first | (have HXB := Lib.hid ((Blk.drew (Blk.new W5 _ _)).below hbz (Blk.drew (Blk.new W5 _ _)).lt); have HXL : Hid (W5.heap.size ≤ W5.heap.size) := (Lib.hid (Nat.le_refl _))) | skip); have HZ := Lib.hid (bthenC (by first | with_reducible exact HD.out | exact ((Below.refl _ W5).alloc (Nat.le_refl _) _).drew) hbz); clear hbz)
          | (go_at_call 53; refine (CP.out _ A9 m9 c9).mono ?_; rintro e wy ⟨rfl, hby⟩; (first | (have HXB2 := Lib.hid (HXB.out.below hby HXB.out.lt); have HXB := HXB2) | (have HXB := Lib.hid ((Blk.new wz _ _).below hby (by simp)); have HXL := Lib.hid HZ.out.size) | skip); (first | (have x0 := HXB.out.cell 0; have x1 := HXB.out.cell 1; have x2 := HXB.out.cell 2; have xf0 := HXB.out.frozen 0; have xf1 := HXB.out.frozen 1; have xf2 := HXB.out.frozen 2) | skip); have HZ2 := Lib.hid (bthenC (by first | with_reducible exact HZ.out | exact HZ.out.alloc HZ.out.size _) hby); have HZ := HZ2; clear hby))
      all_goals (
        go_wp2_with fail
        go_meet
        first
          | exact ⟨_, rfl, rfl, Lib.hid (HZ.out.alloc HZ.out.size _), Lib.hid HZ.out.size, Lib.hid (Blk.new _ _ _)⟩
          | exact ⟨_, rfl, rfl, Lib.hid (((HZ.out.setCell (p := ⟨_, 0, none⟩) HXL.out _).setCell (p := ⟨_, 1, none⟩) HXL.out _).setCell (p := ⟨_, 2, none⟩) HXL.out _), HXL, Lib.hid (((HXB.out.set_ 0 _).set_ 1 _).set_ 2 _)⟩)
    case rest =>
      obtain ⟨X0, rfl, rfl, HB6, HXL, HXB⟩ := hcut
      have HX0 : Hid (¬ (W2.heap.size ≤ X0 ∧ X0 < W4.heap.size)) := Lib.hid (by have := HXL.out; have := HS45.out; omega)
      have hb6a : Below W5.heap.size W5 (wc.alloc (.cells #[.int .u8 109, .int .u8 105, .int .u8 110, .int .u8 101] 5 (4, 5))) := HB6.out.alloc HB6.out.size _
      have HC6 := Lib.hid (HC.out _ hb6a _ [109, 105, 110, 101] (RB.four wc 109 105 110 101 (by omega) (by omega) (by omega) (by omega)))
      have HBc := Lib.hid (HB5.out.below hb6a)
      have HXc := Lib.hid (HXB.out.alloc (.cells #[.int .u8 109, .int .u8 105, .int .u8 110, .int .u8 101] 5 (4, 5)))
      clear hb6a
      go_wp2_with fail
      refine HC6.out.mono ?_
      rintro e W7 ⟨⟨z, rfl⟩, hm7, hc⟩
      have hlow : ∀ k, w.heap.size ≤ k → k < w.heap.size + 3 → ¬ (W2.heap.size ≤ k ∧ k < W4.heap.size) := fun k h1 h2 h3 => by
        have h4 := HAI.out.mod.size
        have h5 := HAW.out.size
        have h6 := HB1a.out.size
        omega
      have HB7 := Lib.hid (HBc.out.mod hm7 hlow)
      have hx7 : ¬ (W2.heap.size ≤ X0 ∧ X0 < W4.heap.size) := HX0.out
      have HX7 := Lib.hid (HXc.out.mod hm7 hx7)
      have HC := Lib.hid (hc W7 (Below.refl _ _))
      clear hm7 hc
      go_wp2_with fail
      refine HC.out.mono ?_
      rintro e W9 ⟨rfl, hm9, hask⟩
      have HB9 := Lib.hid (HB7.out.mod hm9 hlow)
      have hxx := HX7.out.mod hm9 hx7
      have x0 : W9.cell? ⟨X0, 0, none⟩ = some (.slice none 0 0) := hxx.cell 0
      have x1 : W9.cell? ⟨X0, 1, none⟩ = some (.slice none 0 0) := hxx.cell 1
      have x2 : W9.cell? ⟨X0, 2, none⟩ = some (.int .i64 0) := hxx.cell 2
      have HASK := Lib.hid hask
      clear hm9 hask hlow hx7 hxx
      obtain ⟨em0, em1, em2, eo0, eo1, eo2, eo3, er0, er1, er2, ef0, ef1, ef2⟩ := HB9.out.c
      obtain ⟨bb, hbb⟩ : ∃ bb, bb = (k == 1) := ⟨_, rfl⟩
      have hbb2 : (k == 1) = bb := hbb.symm
      clear hbb
      go_wp2_with fail
      exact ret_pool Tryz.results14 rfl rfl (b := w.heap.size + 2) (v0 := .slice none 0 0) (v1 := .slice none 0 0) (v2 := .int .i64 0) HB9.out.end_ rfl ⟨_, I', c', rfl, askI_of HAW.out (AskI.trans (AskI.from_ HB1a.out HAI.out) HCC.out.2.2 HCC.out.2.1 (HCC.out.1.trans HCT.out.symm) HASK.out) (endMod w _)⟩
  · subst hr
    go_wp2_with fail
    exact ret_pool Tryz.results14 rfl rfl (b := w.heap.size + 2) (v0 := .slice none 0 0) (v1 := .slice none 0 0) (v2 := .int .i64 0) HB2.out.end_ rfl ⟨_, I', c1, rfl, askI_of HAW.out (AskI.from_ HB1a.out HAI.out) (endMod w _)⟩
end
end Go.Proofs.YtbagmmncjmbboaaGreat

/-
  CacheDies: a pool of which one step is refused. No walk.
-/
namespace Go.Proofs.YtbagmmncjmbboaaGreat
open Go.RowKit Go.Maps
set_option linter.unusedVariables false

theorem rf_oneC (W : World) (t : TypeId) (x y : Int) : RF (W.alloc (.cells #[.int .i64 x, .int .i64 y] t)) (W.alloc (.cells #[.int .i64 x, .int .i64 y] t)).heap.size (.slice (some ⟨W.heap.size, 0, none⟩) 1 1) [(x, y)] := by
  refine ⟨by simp, some ⟨W.heap.size, 0, none⟩, 1, rfl, by simp, by omega, .inr ⟨W.heap.size, 0, rfl, by simp, fun i f hf j u hu => ?_⟩⟩
  match i, hf with
  | 0, hf =>
    simp at hf
    subst hf
    match j, hu with
    | 0, hu => exact ((Blk.new W t _).cell 0).trans hu
    | 1, hu => exact ((Blk.new W t _).cell 1).trans hu
  | i + 1, hf => simp at hf

theorem WalAt.plannedC {w w' : World} {p sb mb plb g B : Nat} {pl : Option Nat} {s s' : DS} {sv bv : Value} {m : LG} (h : WalAt w p sb mb pl s g B sv bv m) (hd : DiskAt w' p sb mb (some plb) s') (hm : Mod (fun k => k = p) w w') (hp : w.heap.size ≤ plb) : WalAt w' p sb mb (some plb) s' g B sv bv m := by
  refine ⟨hd, h.lg.mod hm (fun k hk e => ?_), h.sep, fun b hb hk => ?_⟩
  · have := (h.lg.own k hk).1; have := h.sep; omega
  · injection hb with hb
    have := (h.lg.own b hk).2
    omega

/-- A pool, and beside it what the disk had. -/
structure Die (w W : World) (p1 g1 q1 count X : Nat) (q : Int) (k : Nat) (wv : Value) (wl : List Nat) (I : PI) (c : CP) : Prop where
  at_ : PoolAt W I (fun _ => False) c
  late : Late c (disk10 [] count).has
  or_ : (Fine c X q ∧ c.m.count = 4) ∨ (Hit c.s X q ∧ c.o.dead = true)
  ia : I.p = p1 ∧ I.g = g1 ∧ I.q = q1
  bel : Below w.heap.size w W
  new : ∀ k, I.Core k → w.heap.size ≤ k
  row : RB W W.heap.size wv wl ∧ Off (fun k => I.Core k) wv wl
  was : ∀ i, 4 ≤ i → i < 4 + count → piece wl (512 * i) (512 * i + 512) = (disk10 [] count).has i
  cnt : c.o.count = count
  base : c.o.base = 4
  len : 4 + count ≤ c.s.safe.length
  few : count ≤ 12
  steps : c.s.steps ≤ 4 + 385 * k
  turn : c.o.turn ≤ k

def DieK (w W : World) (p1 g1 q1 count X : Nat) (q : Int) (k : Nat) (wv : Value) (wl : List Nat) : Prop := ∃ I c, Die w W p1 g1 q1 count X q k wv wl I c

/-- The pool still lives. -/
def DieL (w W : World) (p1 g1 q1 count X : Nat) (q : Int) (k : Nat) (wv : Value) (wl : List Nat) : Prop := ∃ I c, Die w W p1 g1 q1 count X q k wv wl I c ∧ c.s.steps < X

section

variable {w W W' : World} {p1 g1 q1 count X k : Nat} {q : Int} {wv : Value} {wl : List Nat} {I : PI} {c : CP}

theorem Die.mem (h : Die w W p1 g1 q1 count X q k wv wl I c) (hb : Below W.heap.size W W') : Die w W' p1 g1 q1 count X q k wv wl I c :=
  ⟨h.at_.below hb, h.late, h.or_, h.ia, h.bel.trans (hb.mono h.bel.size), h.new, ⟨(h.row.1.below hb).more hb.size, h.row.2⟩, h.was, h.cnt, h.base, h.len, h.few, h.steps, h.turn⟩

theorem Die.more {k' : Nat} (h : Die w W p1 g1 q1 count X q k wv wl I c) (hk : k ≤ k') : Die w W p1 g1 q1 count X q k' wv wl I c :=
  ⟨h.at_, h.late, h.or_, h.ia, h.bel, h.new, h.row, h.was, h.cnt, h.base, h.len, h.few, by have := h.steps; omega, by have := h.turn; omega⟩

set_option maxRecDepth 100000 in
/-- asks, of any kind but the log's flush. -/
theorem Die.asks (h : Die w W p1 g1 q1 count X q k wv wl I c) (hlt : c.s.steps < X) (hk : k ≤ 2199023255552) (kd n : Int) (hkd : kd ≠ 6) (hn64 : I64 n) (dA : Option Addr) (dn dc : Nat) (item : List Nat) (hv : RB w w.heap.size (.slice dA dn dc) item) (hil : item.length ≤ 140737488351232) (v3 : Value) :
    Calls Tryz.prog 14 #[.pointer (some ⟨g1, 0, none⟩), .pointer (some ⟨q1, 0, none⟩), .agg #[.slice none 0 0, .slice none 0 0, .int .i64 0], .agg #[.int .i64 kd, .int .i64 n, .slice dA dn dc, v3]] W fun e W' => (∃ b, e = .returned (.tuple #[.agg #[.slice none 0 0, .slice none 0 0, .int .i64 0], .bool b])) ∧ DieK w W' p1 g1 q1 count X q (k + 1) wv wl := by
  obtain ⟨e1, rfl, rfl⟩ := h.ia
  have hs := h.steps
  have ht := h.turn
  obtain ⟨hf, hc4⟩ : Fine c X q ∧ c.m.count = 4 := by
    rcases h.or_ with h1 | ⟨⟨-, h2⟩, -⟩
    · exact h1
    · omega
  have hl : Live W I (fun _ => False) c X q (disk10 [] count).has := ⟨h.at_, hf, h.late⟩
  have hvW : RB W W.heap.size (.slice dA dn dc) item := (hv.below h.bel).more h.bel.size
  have hoff : Off (fun k => I.Core k) (.slice dA dn dc) item := by
    obtain ⟨-, -, A', c'', e3, -, -, h5⟩ := hv
    rcases h5 with h5 | ⟨b', off, e4, hlt, -⟩
    · exact .inl h5
    · refine .inr fun b hb e => ?_
      rw [e3, e4] at hb
      have hbb : b' = b := by simpa [Value.ownBlock] using hb
      have := h.new b e
      omega
  have key : Calls Tryz.prog 14 #[.pointer (some ⟨I.g, 0, none⟩), .pointer (some ⟨I.q, 0, none⟩), m0, .agg #[.int .i64 kd, .int .i64 n, .slice dA dn dc, v3]] W (AskD W I (fun _ => False) c X q (disk10 [] count).has) := by
    by_cases h1 : kd = 1
    · subst h1; exact (asks1 hl n hn64 _ v3 (by omega) (by omega)).mono fun e w' h => AskE.askD h
    by_cases h2 : kd = 2
    · subst h2; exact asks2 hl hc4 n hn64 dA dn dc item hvW hil hoff v3 (by omega) (by omega)
    by_cases h3 : kd = 3
    · subst h3; exact (asks3 hl n hn64 _ v3 (by omega) (by omega)).mono fun e w' h => AskE.askD h
    by_cases h4 : kd = 4
    · subst h4; exact (asks4 hl n hn64 _ v3 (by omega) (by omega)).mono fun e w' h => AskE.askD h
    by_cases h5 : kd = 5
    · subst h5; exact (asks5f hl n hn64 _ v3 (by omega) (by omega)).mono fun e w' h => AskE.askD h
    exact (asks0 hl kd (by omega) n hn64 _ v3 (by omega) (by omega)).mono fun e w' h => AskE.askD h
  refine key.mono ?_
  rintro e W' ⟨b, I', c', rfl, ha⟩
  have h1 := ha.steps
  rw [hc4] at h1
  have h2 := ha.turn
  have h3 := ha.ids
  refine ⟨⟨b, rfl⟩, I', c', ha.at_, ha.late, ?_, ⟨h3.1.trans e1, h3.2.1, h3.2.2⟩, below_by h.bel ha.mod h.new, fun k hk => ?_, ⟨h.row.1.mod ha.mod h.row.2, ?_⟩, h.was, ha.count.trans h.cnt, ha.base.trans h.base, by rw [ha.len]; exact h.len, h.few, by omega, by omega⟩
  · rcases ha.or_ with ⟨a, b⟩ | a
    · exact .inl ⟨a, b.trans hc4⟩
    · exact .inr a
  · rcases ha.core k hk with e | e
    · exact h.new k e
    · exact Nat.le_trans h.bel.size e
  · obtain ⟨-, -, A', c'', e3, -, -, h5⟩ := h.row.1
    rcases h5 with h5 | ⟨b', off, e4, hlt', -⟩
    · exact .inl h5
    · rcases h.row.2 with ho | ho
      · exact .inl ho
      · refine .inr fun b hb e => ?_
        rcases ha.core b e with e5 | e5
        · exact ho b hb e5
        · rw [e3, e4] at hb
          have hbb : b' = b := by simpa [Value.ownBlock] using hb
          omega

/-- No page is ahead of the log. -/
theorem Die.notAhead (h : Die w W p1 g1 q1 count X q k wv wl I c) : NotAhead W p1 g1 c.s I.pl I.sb I.mb ((c.m.lsn c.m.safe : Nat) : Int) count wv wl := by
  obtain ⟨rfl, rfl, e2⟩ := h.ia
  refine ⟨h.at_.wal.dk, h.row.1, h.len, h.few, fun i h4 hi => ?_, fun w2 hb2 => logSafe_any w2 I.p I.g I.B I.sv I.bv c.m (h.at_.wal.below hb2).lg⟩
  have hlen := h.len
  rw [h.was i h4 hi]
  exact (h.late.sec i (by omega)).2 (by rw [h.base]; exact h4) (by rw [h.base, h.cnt]; exact hi)

theorem find_dead {c c' : CP} {n k : Int} {a : Option Nat} (h : FindOut c n k a c') (hd : c.o.dead = true) : k = 91 ∧ c' = c := by
  rcases h with ⟨-, h1, -, h2⟩ | ⟨h1, -⟩ | ⟨h1, -⟩
  · exact ⟨h1, h2⟩
  · rw [hd] at h1; cases h1
  · rw [hd] at h1; cases h1

/-- The pool is dead: all its calls say so, and make no step. -/
theorem Die.dead (h : Die w W p1 g1 q1 count X q k wv wl I c) (hX : X ≤ c.s.steps) (hq : 1 ≤ q ∧ q ≤ 3) (hk : k ≤ 2199023255552) :
    Calls Tryz.prog 32 #[.pointer (some ⟨q1, 0, none⟩), .int .i64 0] W fun e W1 => e = .returned (.tuple #[.pointer none, .int .i64 91]) ∧
      Calls Tryz.prog 21 #[.slice none 0 0] W1 fun e W2 => ∃ y, e = .returned (.pointer (some ⟨y, 0, none⟩)) ∧
        Calls Tryz.prog 22 #[.pointer (some ⟨q1, 0, none⟩), .int .i64 0, .pointer (some ⟨y, 0, none⟩), .int .i64 1] W2 fun e W3 => e = .returned (.int .i64 91) ∧
          Calls Tryz.prog 33 #[.pointer (some ⟨q1, 0, none⟩), .int .i64 0] W3 fun e W4 => e = .returned (.int .i64 91) ∧
            Calls Tryz.prog 25 #[.pointer (some ⟨q1, 0, none⟩)] W4 fun e W5 => e = .returned (.int .i64 91) ∧
              Calls Tryz.prog 30 #[.pointer (some ⟨p1, 0, none⟩)] W5 fun e W6 => e = .returned (.int .i64 (c.s.steps : Int)) ∧ Below w.heap.size w W6 := by
  have hs := h.steps
  have ht := h.turn
  have hd : c.o.dead = true := by
    rcases h.or_ with ⟨h1, -⟩ | ⟨-, h2⟩
    · rcases h1.calm.q with h3 | ⟨-, -, h3⟩
      · omega
      · omega
    · exact h2
  obtain ⟨rfl, e1, rfl⟩ := h.ia
  refine (Get_pool h.at_ 0 (by unfold I64; omega) (by omega) (by omega)).mono ?_
  rintro e W1 ⟨k1, a1, c1, hf1, hp1, hm1, he1⟩
  obtain ⟨rfl, rfl⟩ := find_dead hf1 hd
  have he1' : e = .returned (.tuple #[.pointer none, .int .i64 91]) := by
    rcases he1 with ⟨-, h1⟩ | ⟨h1, -⟩
    · exact h1
    · cases h1
  refine ⟨he1', ?_⟩
  have hb1 := below_turn h.bel hm1 h.new
  refine (one10_any W1 (.slice none 0 0) [] (RB.nil _ _)).mono ?_
  rintro e W2 ⟨y, rfl, hy, hb2⟩
  refine ⟨y.p, rfl, ?_⟩
  have hb2' := hb1.trans (hb2.mono hb1.size)
  have hp2 := hp1.below hb2
  refine (Put_pool hp2 0 (by unfold I64; omega) (by omega) (by omega) y (onePg []) (hy.mod (Mod.refl (fun _ => False) _) (fun _ _ _ e => e) (fun k _ hf e => by have := hp1.lt k (PI.turn_core e); omega)) 1 (by omega)).mono ?_
  rintro e W3 ⟨k3, a3, c3, c3', hf3, rfl, -, hp3, hm3, he3⟩
  obtain ⟨rfl, rfl⟩ := find_dead hf3 hd
  have hc3 : c3' = c3 := by
    rcases he3 with ⟨-, h1⟩ | ⟨h1, -⟩
    · exact h1
    · cases h1
  subst hc3
  refine ⟨rfl, ?_⟩
  have hb3 := below_turn hb2' hm3 h.new
  refine (Pin_pool hp3 0 (by unfold I64; omega) (by omega) (by omega)).mono ?_
  rintro e W4 ⟨k4, a4, c4, c4', hf4, rfl, -, hp4, hm4, he4⟩
  obtain ⟨rfl, rfl⟩ := find_dead hf4 hd
  have hc4 : c4' = c4 := by
    rcases he4 with ⟨-, h1⟩ | ⟨h1, -⟩
    · exact h1
    · cases h1
  subst hc4
  refine ⟨rfl, ?_⟩
  have hb4 := below_turn hb3 hm4 h.new
  refine (Flush_pool hp4 (by omega)).mono ?_
  rintro e W5 ⟨rfl, hp5, hm5⟩
  have hfl : c4'.flush = (c4', 91) := by unfold CP.flush; rw [if_pos hd]
  rw [hfl] at hp5 ⊢
  refine ⟨rfl, ?_⟩
  have hb5 := below_turn hb4 hm5 h.new
  refine (Steps_any W5 I.p I.sb I.mb I.pl c4'.s hp5.wal.dk).mono ?_
  rintro e W6 ⟨rfl, rfl⟩
  exact ⟨rfl, hb5⟩
end

set_option maxHeartbeats 4000000 in
/-- The pool behind Plan. -/
theorem die_start (w W0 W1 W2 W3 W4 : World) (fr : Int) (count : Nat) (hc : 1 ≤ count ∧ count ≤ 12) (I : PI) (hp : PoolAt W1 I (fun _ => False) (newC (begS (disk10 [] count) 0 4) (begL (disk10 [] count) 0 4) 4 count (nfOf fr))) (hb0 : Below w.heap.size w W0) (hb1 : Below W0.heap.size W0 W1) (hI : ∀ k, I.Core k → W0.heap.size ≤ k)
    (wv : Value) (ho : OB W2 W1.heap.size wv (begS (disk10 [] count) 0 4).all) (hb2 : Below W1.heap.size W1 W2) (hb3 : Below W2.heap.size W2 W3) (X : Nat) (q : Int) (hX : (begS (disk10 [] count) 0 4).steps < X) (hq : 1 ≤ q ∧ q ≤ 3) (hd : DiskAt W4 I.p I.sb I.mb (some W3.heap.size) ((begS (disk10 [] count) 0 4).planned [((X : Int), q)])) (hm : Mod (fun k => k = I.p) W3 W4) :
    DieL w W4 I.p I.g I.q count X q 0 wv (begS (disk10 [] count) 0 4).all := by
  have hbg := newC_begins (l := []) (count := count) (by simp) hc (nfOf fr)
  have hp3 := (hp.below hb2).below hb3
  have hb01 := hb0.trans (hb1.mono hb0.size)
  have hb02 := hb01.trans (hb2.mono hb01.size)
  have hb03 := hb02.trans (hb3.mono hb02.size)
  have hat := hp3.moved (pl' := some W3.heap.size) (sv' := I.sv) (bv' := I.bv) hm (fun k _ e => .inl (.inl (.inl e))) (hp3.wal.plannedC hd hm (Nat.le_refl _)) (fun k e => .inl e) (fun k e => .inr (by injection e with e; omega))
  have hpn : w.heap.size ≤ I.p := Nat.le_trans hb0.size (hI I.p (.inl (.inl (.inl rfl))))
  have hcore : ∀ k, PI.Core { I with pl := some W3.heap.size, sv := I.sv, bv := I.bv } k → I.Core k ∨ k = W3.heap.size := fun k e => by
    rcases e with e | e | e | e
    · exact .inl (.inl e)
    · exact .inl (.inr (.inl e))
    · injection e with e; exact .inr e.symm
    · exact .inl (.inr (.inr (.inr e)))
  have hf := hbg.fine
  have hst := hbg.steps
  refine ⟨_, _, ⟨hat, ⟨hbg.was.mono fun i b _ h h1 _ => .inl (h (Nat.le_trans (Nat.le_of_eq hbg.base.symm) h1)), fun i x pg hx hp => by rw [hbg.frz i x hx] at hp; cases hp⟩, .inl ⟨⟨⟨hf.calm.off, fun j => ?_, .inr ⟨hq.1, hq.2, hX⟩⟩, hf.dead, ⟨hf.log.ok, hf.log.dead, hf.log.fresh, hf.log.byte, hf.log.fit⟩, hf.lay, hf.len, hf.same, hf.sync⟩, hbg.log.2.1⟩, ⟨rfl, rfl, rfl⟩, below_by hb03 hm (fun k e => by subst e; exact hpn), fun k e => ?_, ⟨?_, ?_⟩, fun i h4 hi => ?_, hbg.cnt, hbg.base, ?_, hc.2, ?_, ?_⟩, hX⟩
  · show (if j ≤ ((begS (disk10 [] count) 0 4).steps : Int) then 0 else firstFate [((X : Int), q)] j) = if j = (X : Int) then q else 0
    by_cases e : j = (X : Int)
    · rw [if_pos e, if_neg (by omega)]
      unfold firstFate
      rw [if_pos ⟨e.symm, hq.1, hq.2⟩]
    · rw [if_neg e]
      split
      · rfl
      · unfold firstFate
        rw [if_neg (fun h => e h.1.symm)]
        rfl
  · rcases hcore k e with e | e
    · exact Nat.le_trans hb0.size (hI k e)
    · rw [e]; exact hb03.size
  · exact ((ho.rbn.below hb3).more hb3.size).mod hm (.inr fun b e e2 => by
      have := ho.lt b e
      have h2 := hp.lt I.p (.inl (.inl (.inl rfl)))
      omega)
  · refine .inr fun b e e2 => ?_
    have h1 := ho.lt b e
    have h3 := hb3.size
    rcases hcore b e2 with e3 | e3
    · have := hp.lt b e3; omega
    · omega
  · have hok : (begS (disk10 [] count) 0 4).Ok := hp.wal.dk.ok
    have hl : (begS (disk10 [] count) 0 4).safe.length = 4 + count := hbg.len
    rw [piece_allC hok (by rw [hl]; exact hi)]
    exact (hbg.was i (by rw [hbg.len]; omega)).2 h4
  · exact Nat.le_of_eq hbg.len.symm
  · exact Nat.le_trans hst (by omega)
  · exact Nat.le_of_eq hbg.turn
end Go.Proofs.YtbagmmncjmbboaaGreat

/-
  The walk of CacheDies.
-/
namespace Go.Proofs.YtbagmmncjmbboaaGreat
open Go.RowKit Go.Maps
set_option linter.unusedVariables false

theorem Die.dk {w W : World} {p1 g1 q1 count X k : Nat} {q : Int} {wv : Value} {wl : List Nat} {I : PI} {c : CP} (h : Die w W p1 g1 q1 count X q k wv wl I c) : DiskAt W p1 I.sb I.mb I.pl c.s := by
  obtain ⟨rfl, -, -⟩ := h.ia
  exact h.at_.wal.dk

set_option maxRecDepth 100000 in
set_option maxHeartbeats 16000000 in
theorem cacheDies_walk (w : World) (cn fr : Int) (sv : Value) (os : List OpK) (st q : Int) (hs : OpsK w sv os) (hol : os.length * 64 ≤ 140737488351232) (hil : ∀ x ∈ os, x.item.length ≤ 140737488351232) :
    Calls Tryz.prog 6 #[.int .i64 cn, .int .i64 fr, sv, .int .i64 st, .int .i64 q] w fun e w' => e = .returned (.bool true) ∧ Below w.heap.size w w' := by
  obtain ⟨SA, sc, rfl, hs1, hs2, -, HROW⟩ := hs.rk.open_
  obtain ⟨n, hn⟩ : ∃ n, n = os.length := ⟨_, rfl⟩
  rw [← hn] at hs1 hol ⊢
  have hn41 : n ≤ 2199023255552 := by omega
  have HS := Lib.hid hs
  have HILS := Lib.hid hil
  have HN0 := Lib.hid hn
  clear hs hn hol hil
  by_cases hc1 : cn < 1
  · have gc1 : decide (cn < 1) = true := decide_eq_true hc1
    clear hc1
    go_enter Tryz.func6, Tryz.ntmps6
    go_wp2_with fail
    refine (alive10_any w).mono ?_
    rintro e W0 ⟨rfl, hb0⟩
    go_wp2_with fail
    go_ret
    exact ⟨rfl, hb0⟩
  by_cases hc2 : 12 < cn
  · have gc1 : decide (cn < 1) = false := decide_eq_false hc1
    have gc2 : decide (12 < cn) = true := decide_eq_true hc2
    clear hc1 hc2
    go_enter Tryz.func6, Tryz.ntmps6
    go_wp2_with fail
    refine (alive10_any w).mono ?_
    rintro e W0 ⟨rfl, hb0⟩
    go_wp2_with fail
    go_ret
    exact ⟨rfl, hb0⟩
  by_cases hc3 : st < 1
  · have gc1 : decide (cn < 1) = false := decide_eq_false hc1
    have gc2 : decide (12 < cn) = false := decide_eq_false hc2
    have gc3 : decide (st < 1) = true := decide_eq_true hc3
    clear hc1 hc2 hc3
    go_enter Tryz.func6, Tryz.ntmps6
    go_wp2_with fail
    refine (alive10_any w).mono ?_
    rintro e W0 ⟨rfl, hb0⟩
    go_wp2_with fail
    go_ret
    exact ⟨rfl, hb0⟩
  by_cases hc4 : 1000 < st
  · have gc1 : decide (cn < 1) = false := decide_eq_false hc1
    have gc2 : decide (12 < cn) = false := decide_eq_false hc2
    have gc3 : decide (st < 1) = false := decide_eq_false hc3
    have gc4 : decide (1000 < st) = true := decide_eq_true hc4
    clear hc1 hc2 hc3 hc4
    go_enter Tryz.func6, Tryz.ntmps6
    go_wp2_with fail
    refine (alive10_any w).mono ?_
    rintro e W0 ⟨rfl, hb0⟩
    go_wp2_with fail
    go_ret
    exact ⟨rfl, hb0⟩
  by_cases hc5 : q < 1
  · have gc1 : decide (cn < 1) = false := decide_eq_false hc1
    have gc2 : decide (12 < cn) = false := decide_eq_false hc2
    have gc3 : decide (st < 1) = false := decide_eq_false hc3
    have gc4 : decide (1000 < st) = false := decide_eq_false hc4
    have gc5 : decide (q < 1) = true := decide_eq_true hc5
    clear hc1 hc2 hc3 hc4 hc5
    go_enter Tryz.func6, Tryz.ntmps6
    go_wp2_with fail
    refine (alive10_any w).mono ?_
    rintro e W0 ⟨rfl, hb0⟩
    go_wp2_with fail
    go_ret
    exact ⟨rfl, hb0⟩
  by_cases hc6 : 3 < q
  · have gc1 : decide (cn < 1) = false := decide_eq_false hc1
    have gc2 : decide (12 < cn) = false := decide_eq_false hc2
    have gc3 : decide (st < 1) = false := decide_eq_false hc3
    have gc4 : decide (1000 < st) = false := decide_eq_false hc4
    have gc5 : decide (q < 1) = false := decide_eq_false hc5
    have gc6 : decide (3 < q) = true := decide_eq_true hc6
    clear hc1 hc2 hc3 hc4 hc5 hc6
    go_enter Tryz.func6, Tryz.ntmps6
    go_wp2_with fail
    refine (alive10_any w).mono ?_
    rintro e W0 ⟨rfl, hb0⟩
    go_wp2_with fail
    go_ret
    exact ⟨rfl, hb0⟩
  obtain ⟨count, rfl⟩ : ∃ count : Nat, cn = (count : Int) := ⟨cn.toNat, by omega⟩
  have HCN : Hid (1 ≤ count ∧ count ≤ 12) := Lib.hid (by omega)
  have HQ : Hid (1 ≤ q ∧ q ≤ 3) := Lib.hid (by omega)
  have HST : Hid (1 ≤ st ∧ st ≤ 1000) := Lib.hid (by omega)
  have gc1 : decide ((count : Int) < 1) = false := decide_eq_false hc1
  have gc2 : decide (12 < (count : Int)) = false := decide_eq_false hc2
  have gc1' : decide (12 < count) = false := decide_eq_false (by omega)
  have gc2' : decide (count < 1) = false := decide_eq_false (by omega)
  have gc3 : decide (st < 1) = false := decide_eq_false hc3
  have gc4 : decide (1000 < st) = false := decide_eq_false hc4
  have gc5 : decide (q < 1) = false := decide_eq_false hc5
  have gc6 : decide (3 < q) = false := decide_eq_false hc6
  clear hc1 hc2 hc3 hc4 hc5 hc6
  go_enter Tryz.func6, Tryz.ntmps6
  go_wp2_with fail
  refine (alive10_any w).mono ?_
  rintro e W0 ⟨rfl, hb0⟩
  have HB0 := Lib.hid hb0
  clear hb0
  go_wp2_with fail
  refine (made10_any W0 (.slice none 0 0) [] (RB.nil _ _) count (by simp) HCN.out fr (fun _ => False) (fun _ h => h.elim)).mono ?_
  rintro e W1 ⟨I, rfl, hp1, hI, -, hb1⟩
  have HP1 := Lib.hid hp1
  have HI := Lib.hid hI
  have HB1 := Lib.hid hb1
  have HDK := Lib.hid hp1.wal.dk
  have HBG := Lib.hid (newC_begins (l := []) (count := count) (by simp) HCN.out (nfOf fr))
  have HS4 : Hid ((begS (disk10 [] count) 0 4).steps ≤ 4) := Lib.hid HBG.out.steps
  have HDK : Hid (DiskAt W1 I.p I.sb I.mb I.pl (begS (disk10 [] count) 0 4)) := HDK
  obtain ⟨s0, hs0⟩ : ∃ s0, s0 = begS (disk10 [] count) 0 4 := ⟨_, rfl⟩
  rw [← hs0] at HS4 HDK
  have HS0 := Lib.hid hs0
  obtain ⟨sN0, hsN0⟩ : ∃ sN0, sN0 = s0.steps := ⟨_, rfl⟩
  rw [← hsN0] at HS4
  have HSN0 := Lib.hid hsN0
  obtain ⟨X, hX⟩ : ∃ X : Nat, (X : Int) = (sN0 : Int) + st := ⟨sN0 + st.toNat, by have := HST.out; omega⟩
  have HX0 := Lib.hid hX
  have gx : IntKind.i64.wrap ((sN0 : Int) + st) = (X : Int) := by rw [← hX, IntKind.wrap_i64]; have := HS4.out; have := HST.out; omega
  clear hp1 hI hb1 hs0 hsN0 hX
  go_wp2_with fail
  refine (All_any W1 I.p I.sb I.mb I.pl s0 HDK.out).mono ?_
  rintro e W2 ⟨wv, rfl, ho2, hb2⟩
  have HO2 := Lib.hid ho2
  have HB2 := Lib.hid hb2
  have HDK2 := Lib.hid (HDK.out.below hb2)
  clear ho2 hb2 HDK
  go_wp2_with fail
  refine (Steps_any W2 I.p I.sb I.mb I.pl s0 HDK2.out).mono ?_
  rintro e W3 ⟨rfl, rfl⟩
  rw [← HSN0.out]
  go_wp2_with fail
  refine (Plan_any (W2.alloc (.cells #[.int .i64 (X : Int), .int .i64 q] _)) I.p I.sb I.mb I.pl s0 (.slice (some ⟨W2.heap.size, 0, none⟩) 1 1) [((X : Int), q)] (HDK2.out.below ((Below.refl _ W2).alloc (Nat.le_refl _) _)) (rf_oneC W2 _ _ _) (by
    intro f hf
    simp at hf
    subst hf
    have := HX0.out; have := HS4.out; have := HST.out
    show I64 (X : Int)
    unfold I64
    omega) (.inr fun b e e2 => by
    have hbb : W2.heap.size = b := by simpa [Value.ownBlock] using e
    have h1 := HP1.out.lt I.p (.inl (.inl (.inl rfl)))
    have h2 := HB2.out.size
    omega) (by rw [← HSN0.out]; have := HS4.out; omega)).mono ?_
  rintro e W4 ⟨rfl, hd4, hm4⟩
  have HDL : Hid (DieL w W4 I.p I.g I.q count X q 0 wv s0.all) := Lib.hid (by
    rw [HS0.out] at hd4 ⊢
    exact die_start w W0 W1 W2 _ W4 fr count HCN.out I HP1.out HB0.out HB1.out HI.out wv (by rw [← HS0.out]; exact HO2.out) HB2.out ((Below.refl _ W2).alloc (Nat.le_refl _) _) X q (by rw [← HS0.out, ← HSN0.out]; have := HX0.out; have := HST.out; omega) HQ.out hd4 hm4)
  obtain ⟨wl, hwl⟩ : ∃ wl, wl = s0.all := ⟨_, rfl⟩
  obtain ⟨p1, hp1'⟩ : ∃ p1, p1 = I.p := ⟨_, rfl⟩
  obtain ⟨g1, hg1⟩ : ∃ g1, g1 = I.g := ⟨_, rfl⟩
  obtain ⟨q1, hq1⟩ : ∃ q1, q1 = I.q := ⟨_, rfl⟩
  rw [← hp1', ← hg1, ← hq1, ← hwl] at HDL
  rw [← hp1', ← hg1, ← hq1]
  clear hp1' hg1 hq1 hwl hd4 hm4 HO2 HB2 HDK2 HP1 HI HB1 HB0 HBG HS0 HSN0 HX0 HS4 HST gx
  go_wp2_with fail
  go_loopw [76] (fun i wr => ∃ k : Nat, k ≤ n ∧ i = .int .i64 (k : Int) ∧ Hid (DieL w wr p1 g1 q1 count X q k wv wl)) (fun i wr => n - (intOf i).toNat)
  case atStart => exact ⟨0, Nat.zero_le _, rfl, HDL⟩
  case round =>
    clear HDL
    obtain ⟨k, hk, rfl, HA⟩ := hrel
    by_cases hlt : k < n
    · have hkos : k < os.length := by rw [← HN0.out]; exact hlt
      obtain ⟨x, hx⟩ : ∃ x, os[k]? = some x := ⟨_, List.getElem?_eq_getElem hkos⟩
      obtain ⟨I, c, hal, hltX⟩ := HA.out
      obtain ⟨rb, ro, rfl, hrb, hcells⟩ := HROW.out k hkos
      have hxx : os[k] = x := (List.getElem?_eq_some_iff.1 hx).2
      rw [hxx] at hcells
      have HX := Lib.hid (HS.out.at_ x (List.mem_of_getElem? hx))
      have HIL := Lib.hid (HILS.out x (List.mem_of_getElem? hx))
      obtain ⟨r0, r1, r2, r3⟩ := cellK hcells
      have hrbw : rb < w.heap.size := hrb
      have hbe := hal.bel
      obtain ⟨kd, hkd⟩ : ∃ kd, kd = x.kind := ⟨_, rfl⟩
      obtain ⟨nn, hnn⟩ : ∃ nn, nn = x.n := ⟨_, rfl⟩
      have HNN : Hid (I64 nn) := Lib.hid (by rw [hnn]; exact HX.out.n64)
      rw [← hkd] at r0
      rw [← hnn] at r1
      have d0 : wr.cell? ⟨rb, ro + k * 4, none⟩ = some (.int .i64 kd) := by rw [hbe.cell (p := ⟨rb, ro + k * 4, none⟩) hrbw]; exact r0
      have d1 : wr.cell? ⟨rb, ro + k * 4 + 1, none⟩ = some (.int .i64 nn) := by rw [hbe.cell (p := ⟨rb, ro + k * 4 + 1, none⟩) hrbw]; exact r1
      have d2 : wr.cell? ⟨rb, ro + k * 4 + 2, none⟩ = some (.slice x.dA x.dn x.dc) := by rw [hbe.cell (p := ⟨rb, ro + k * 4 + 2, none⟩) hrbw]; exact r2
      have d3 : wr.cell? ⟨rb, ro + k * 4 + 3, none⟩ = some (.slice x.fA x.fn x.fc) := by rw [hbe.cell (p := ⟨rb, ro + k * 4 + 3, none⟩) hrbw]; exact r3
      have HAL := Lib.hid (hal.mem ((Below.refl _ wr).alloc (Nat.le_refl _) (.cells #[.int .i64 kd, .int .i64 nn, .slice x.dA x.dn x.dc, .slice x.fA x.fn x.fc] 43)))
      have HLT := Lib.hid hltX
      clear hx hxx hcells r0 r1 r2 r3 hrb hrbw hbe hal HA hkd hnn hltX
      by_cases hk6 : kd = 6
      ·
        subst hk6
        have HFIN : Hid (DieL w (wr.alloc (.cells #[.int .i64 6, .int .i64 nn, .slice x.dA x.dn x.dc, .slice x.fA x.fn x.fc] 43)) p1 g1 q1 count X q (k + 1) wv wl) := Lib.hid ⟨_, _, HAL.out.more (Nat.le_succ k), HLT.out⟩
        go_wp2_with fail

        go_roundw
        case rel => exact ⟨k + 1, by omega, by go_num, HFIN⟩
        case measure => simp [intOf]; omega
      by_cases hk7 : kd = 7
      ·
        subst hk7
        have HFIN : Hid (DieL w (wr.alloc (.cells #[.int .i64 7, .int .i64 nn, .slice x.dA x.dn x.dc, .slice x.fA x.fn x.fc] 43)) p1 g1 q1 count X q (k + 1) wv wl) := Lib.hid ⟨_, _, HAL.out.more (Nat.le_succ k), HLT.out⟩
        go_wp2_with fail

        go_roundw
        case rel => exact ⟨k + 1, by omega, by go_num, HFIN⟩
        case measure => simp [intOf]; omega
      have gk6 : (kd == 6) = false := by simpa using hk6
      have gk7 : (kd == 7) = false := by simpa using hk7
      have HA1 := Lib.hid (HAL.out.asks HLT.out (by omega) kd nn hk6 HNN.out x.dA x.dn x.dc x.item HX.out.item HIL.out (.slice x.fA x.fn x.fc))
      clear hk6 hk7
      go_wp2_with fail
      refine HA1.out.mono ?_
      rintro e W1 ⟨⟨b, rfl⟩, I1, c1, hd1⟩
      have HD1 := Lib.hid hd1
      clear hd1 HA1
      go_wp2_with fail
      refine (ahead_any W1 p1 g1 I1.sb I1.mb count c1.s I1.pl _ wv wl HD1.out.notAhead).mono ?_
      rintro e W2 ⟨rfl, hb2⟩
      have HD2 := Lib.hid (HD1.out.mem hb2)
      clear hb2 HD1
      go_wp2_with fail
      refine (Steps_any W2 p1 I1.sb I1.mb I1.pl c1.s HD2.out.dk).mono ?_
      rintro e W3 ⟨rfl, rfl⟩
      obtain ⟨sN, hsN⟩ : ∃ sN, sN = c1.s.steps := ⟨_, rfl⟩
      rw [← hsN]
      have HSN := Lib.hid hsN
      clear hsN
      by_cases hst : X ≤ sN
      · have ga1 : decide ((X : Int) ≤ (sN : Int)) = true := decide_eq_true (by omega)
        have ga2 : decide (X ≤ sN) = true := decide_eq_true hst
        have ga3 : decide ((sN : Int) < (X : Int)) = false := decide_eq_false (by omega)
        have ga4 : decide (sN < X) = false := decide_eq_false (by omega)
        have HC := Lib.hid (HD2.out.dead (by rw [← HSN.out]; exact hst) HQ.out (by omega))
        clear hst
        go_wp2_with fail
        refine (Steps_any W2 p1 I1.sb I1.mb I1.pl c1.s HD2.out.dk).mono ?_
        rintro e W3 ⟨rfl, rfl⟩
        rw [← HSN.out]
        go_wp2_with fail
        refine (Steps_any W2 p1 I1.sb I1.mb I1.pl c1.s HD2.out.dk).mono ?_
        rintro e W3 ⟨rfl, rfl⟩
        rw [← HSN.out]
        go_wp2_with fail
        refine HC.out.mono ?_
        rintro e W3 ⟨rfl, hc⟩
        have HC := Lib.hid hc
        clear hc
        go_wp2_with fail
        refine HC.out.mono ?_
        rintro e W4 ⟨y, rfl, hc⟩
        have HC := Lib.hid hc
        clear hc
        go_wp2_with fail
        refine HC.out.mono ?_
        rintro e W5 ⟨rfl, hc⟩
        have HC := Lib.hid hc
        clear hc
        go_wp2_with fail
        refine HC.out.mono ?_
        rintro e W6 ⟨rfl, hc⟩
        have HC := Lib.hid hc
        clear hc
        go_wp2_with fail
        refine HC.out.mono ?_
        rintro e W7 ⟨rfl, hc⟩
        have HC := Lib.hid hc
        clear hc
        go_wp2_with fail
        refine HC.out.mono ?_
        rintro e W8 ⟨rfl, hb8⟩
        rw [← HSN.out]
        go_wp2_with fail
        go_ret
        exact ⟨rfl, hb8⟩
      · have ga1 : decide ((X : Int) ≤ (sN : Int)) = false := decide_eq_false (by omega)
        have ga2 : decide (X ≤ sN) = false := decide_eq_false hst
        have HFIN : Hid (DieL w W2 p1 g1 q1 count X q (k + 1) wv wl) := Lib.hid ⟨_, _, HD2.out, by rw [← HSN.out]; omega⟩
        clear hst
        go_wp2_with fail
        go_roundw
        case rel => exact ⟨k + 1, by omega, by go_num, HFIN⟩
        case measure => simp [intOf]; omega
    · obtain rfl : k = n := by omega
      obtain ⟨I1, c1, hd1, hlt1⟩ := HA.out
      have HD2 := Lib.hid hd1
      obtain ⟨sN, hsN⟩ : ∃ sN, sN = c1.s.steps := ⟨_, rfl⟩
      rw [← hsN] at hlt1
      have HSN := Lib.hid hsN
      have ga3 : decide ((sN : Int) < (X : Int)) = true := decide_eq_true (by omega)
      have ga4 : decide (sN < X) = true := decide_eq_true hlt1
      clear hsN hd1 hlt1 HA
      go_wp2_with fail
      refine (Steps_any wr p1 I1.sb I1.mb I1.pl c1.s HD2.out.dk).mono ?_
      rintro e W3 ⟨rfl, rfl⟩
      rw [← HSN.out]
      go_wp2_with fail
      go_ret
      exact ⟨rfl, HD2.out.bel⟩
end Go.Proofs.YtbagmmncjmbboaaGreat
