/-
  skeinref10's functions at a document's pool without pages.
-/
import Derived.Test.YtbagmmncjmbboaaGreatZCA29
namespace Go.Proofs.YtbagmmncjmbboaaGreat
open Go.RowKit Go.Maps
set_option linter.unusedVariables false

/-- A document's pool without pages. -/
def m0 : Value := .agg #[.slice none 0 0, .slice none 0 0, .int .i64 0]

/-- A struct of three cells and a value beside it are returned. -/
theorem ret_pool {fn : Func} {q r : Tmp} {a : Act} {w : World} {post : Ending → World → Prop} {b : Nat} {v0 v1 v2 u : Value} (hr : fn.results = #[.cell q 35, .tmp r]) (hp : a.tmps.getD q undef = .pointer (some ⟨b, 0, none⟩)) (hu : a.tmps.getD r undef = u)
    (hB : Blk w b 35 #[v0, v1, v2]) (hd : a.defers = []) (h : post (.returned (.tuple #[.agg #[v0, v1, v2], u])) w) : bodyPost Tryz.prog fn post .ret a w := by
  refine bodyPost_ret (v := .tuple #[.agg #[v0, v1, v2], u]) ?_ hd h
  have hp' : a.tmps[q]?.getD undef = .pointer (some ⟨b, 0, none⟩) := by simpa using hp
  have hu' : a.tmps[r]?.getD undef = u := by simpa using hu
  have e0 : w.cell? ⟨b, 0, none⟩ = some v0 := hB.cell 0
  have e1 : w.cell? ⟨b, 1, none⟩ = some v1 := hB.cell 1
  have e2 : w.cell? ⟨b, 2, none⟩ = some v2 := hB.cell 2
  simp only [results, hr]
  go_simp

theorem refReach_empty (w : World) (n : Int) : Calls Tryz.prog 48 #[m0, .int .i64 n] w fun e w' => e = .returned (.int .i64 1) ∧ Below w.heap.size w w' := by
  unfold m0
  by_cases hn : n < 0
  · have h1 : decide (n < 0) = true := decide_eq_true hn
    clear hn
    go_enter Tryz.func48, Tryz.ntmps48
    go_wp2
    go_ret
    exact ⟨rfl, by go_grown⟩
  · have h1 : decide (n < 0) = false := decide_eq_false hn
    have h2 : decide (0 ≤ n) = true := decide_eq_true (by omega)
    clear hn
    go_enter Tryz.func48, Tryz.ntmps48
    go_wp2
    go_ret
    exact ⟨rfl, by go_grown⟩

set_option maxRecDepth 100000 in
theorem refPin_empty (w : World) (n : Int) : Calls Tryz.prog 56 #[m0, .int .i64 n] w fun e w' => e = .returned (.tuple #[m0, .int .i64 1]) ∧ Below w.heap.size w w' := by
  have hr : ∀ wx, Calls Tryz.prog 48 #[m0, .int .i64 n] wx fun e w' => e = .returned (.int .i64 1) ∧ Below wx.heap.size wx w' := fun wx => refReach_empty wx n
  unfold m0 at hr ⊢
  go_enter Tryz.func56, Tryz.ntmps56
  go_wp2_with fail
  have hbk : Blk ((w.alloc (.cells #[.slice none 0 0, .slice none 0 0, .int .i64 0] 35)).alloc (.cells #[.slice none 0 0, .slice none 0 0, .int .i64 0] 35)) (w.heap.size + 1) 35 #[.slice none 0 0, .slice none 0 0, .int .i64 0] := by
    have := Blk.new (w.alloc (.cells #[.slice none 0 0, .slice none 0 0, .int .i64 0] 35)) 35 #[.slice none 0 0, .slice none 0 0, .int .i64 0]
    rw [size_alloc_] at this
    exact this
  have hbb : Below w.heap.size w ((w.alloc (.cells #[.slice none 0 0, .slice none 0 0, .int .i64 0] 35)).alloc (.cells #[.slice none 0 0, .slice none 0 0, .int .i64 0] 35)) := ((Below.refl _ w).alloc (Nat.le_refl _) _).alloc (by simp) _
  have hb0 : Blk ((w.alloc (.cells #[.slice none 0 0, .slice none 0 0, .int .i64 0] 35)).alloc (.cells #[.slice none 0 0, .slice none 0 0, .int .i64 0] 35)) w.heap.size 35 #[.slice none 0 0, .slice none 0 0, .int .i64 0] := (Blk.new w _ _).alloc _
  have HBK := Lib.hid hbk
  have HBB := Lib.hid hbb
  have HB0 := Lib.hid hb0
  clear hbk hbb hb0
  refine (hr _).mono ?_
  rintro e w1 ⟨rfl, hb1⟩
  have hk1 := HBK.out.below hb1 HBK.out.lt
  have hk0 := HB0.out.below hb1 HB0.out.lt
  have c0 : w1.cell? ⟨w.heap.size, 0, none⟩ = some (.slice none 0 0) := hk0.cell 0
  have c1 : w1.cell? ⟨w.heap.size, 1, none⟩ = some (.slice none 0 0) := hk0.cell 1
  have c2 : w1.cell? ⟨w.heap.size, 2, none⟩ = some (.int .i64 0) := hk0.cell 2
  have d0 : w1.cell? ⟨w.heap.size + 1, 0, none⟩ = some (.slice none 0 0) := hk1.cell 0
  have d1 : w1.cell? ⟨w.heap.size + 1, 1, none⟩ = some (.slice none 0 0) := hk1.cell 1
  have d2 : w1.cell? ⟨w.heap.size + 1, 2, none⟩ = some (.int .i64 0) := hk1.cell 2
  have f0 := hk1.frozen 0
  have f1 := hk1.frozen 1
  have f2 := hk1.frozen 2
  have HK1 := Lib.hid hk1
  have HB1 := Lib.hid (HBB.out.trans (hb1.mono HBB.out.size))
  clear hk1 hk0 hb1 hr
  go_wp2_with fail
  refine ret_pool Tryz.results56 rfl rfl (b := w.heap.size + 1) (v0 := .slice none 0 0) (v1 := .slice none 0 0) (v2 := .int .i64 0) ?_ rfl ⟨rfl, ?_⟩
  · exact ((HK1.out.set_ 0 _).set_ 1 _).set_ 2 _
  · exact ((HB1.out.setCell (p := ⟨w.heap.size + 1, 0, none⟩) (Nat.le_succ _) _).setCell (p := ⟨w.heap.size + 1, 1, none⟩) (Nat.le_succ _) _).setCell (p := ⟨w.heap.size + 1, 2, none⟩) (Nat.le_succ _) _

set_option maxRecDepth 100000 in
theorem refUnpin_empty (w : World) (n : Int) : Calls Tryz.prog 57 #[m0, .int .i64 n] w fun e w' => e = .returned (.tuple #[m0, .int .i64 101]) ∧ Below w.heap.size w w' := by
  unfold m0
  go_enter Tryz.func57, Tryz.ntmps57
  go_wp2_with fail
  go_loopw [7, 8] (fun dn i wr => dn = .bool false ∧ i = .int .i64 0 ∧ Hid (Blk wr w.heap.size 35 #[.slice none 0 0, .slice none 0 0, .int .i64 0]) ∧ Hid (Blk wr (w.heap.size + 1) 35 #[.slice none 0 0, .slice none 0 0, .int .i64 0]) ∧ Hid (Below w.heap.size w wr)) (fun _ _ _ => 0)
  case atStart =>
    have hk1 : Blk ((w.alloc (.cells #[.slice none 0 0, .slice none 0 0, .int .i64 0] 35)).alloc (.cells #[.slice none 0 0, .slice none 0 0, .int .i64 0] 35)) (w.heap.size + 1) 35 #[.slice none 0 0, .slice none 0 0, .int .i64 0] := by
      have := Blk.new (w.alloc (.cells #[.slice none 0 0, .slice none 0 0, .int .i64 0] 35)) 35 #[.slice none 0 0, .slice none 0 0, .int .i64 0]
      rw [size_alloc_] at this
      exact this
    have hk0 : Blk ((w.alloc (.cells #[.slice none 0 0, .slice none 0 0, .int .i64 0] 35)).alloc (.cells #[.slice none 0 0, .slice none 0 0, .int .i64 0] 35)) w.heap.size 35 #[.slice none 0 0, .slice none 0 0, .int .i64 0] := (Blk.new w _ _).alloc _
    exact ⟨rfl, rfl, Lib.hid (hk0.alloc _), Lib.hid (hk1.alloc _), Lib.hid ((((Below.refl _ w).alloc (Nat.le_refl _) _).alloc (by simp) _).alloc (by simp; omega) _)⟩
  case round =>
    obtain ⟨rfl, rfl, H0, H1, HB⟩ := hrel
    have c0 : wr.cell? ⟨w.heap.size, 0, none⟩ = some (.slice none 0 0) := H0.out.cell 0
    have c1 : wr.cell? ⟨w.heap.size, 1, none⟩ = some (.slice none 0 0) := H0.out.cell 1
    have c2 : wr.cell? ⟨w.heap.size, 2, none⟩ = some (.int .i64 0) := H0.out.cell 2
    have d0 : wr.cell? ⟨w.heap.size + 1, 0, none⟩ = some (.slice none 0 0) := H1.out.cell 0
    have d1 : wr.cell? ⟨w.heap.size + 1, 1, none⟩ = some (.slice none 0 0) := H1.out.cell 1
    have d2 : wr.cell? ⟨w.heap.size + 1, 2, none⟩ = some (.int .i64 0) := H1.out.cell 2
    have f0 := H1.out.frozen 0
    have f1 := H1.out.frozen 1
    have f2 := H1.out.frozen 2
    go_wp2_with fail
    refine ret_pool Tryz.results57 rfl rfl (b := w.heap.size + 1) (v0 := .slice none 0 0) (v1 := .slice none 0 0) (v2 := .int .i64 0) ?_ rfl ⟨rfl, ?_⟩
    · exact ((H1.out.set_ 0 _).set_ 1 _).set_ 2 _
    · exact ((HB.out.setCell (p := ⟨w.heap.size + 1, 0, none⟩) (Nat.le_succ _) _).setCell (p := ⟨w.heap.size + 1, 1, none⟩) (Nat.le_succ _) _).setCell (p := ⟨w.heap.size + 1, 2, none⟩) (Nat.le_succ _) _
end Go.Proofs.YtbagmmncjmbboaaGreat

/-
  The log's flush beside a pool; what asks leaves of a pool whose document's pool is empty. No walk.
-/
namespace Go.Proofs.YtbagmmncjmbboaaGreat
open Go.RowKit Go.Maps
set_option linter.unusedVariables false

section

variable {w W W' : World} {I : PI} {Q : Nat → Prop} {c c' : CP} {X : Nat} {q : Int} {was : Nat → List Nat}

/-- New blocks that the pool must leave alone. -/
theorem PoolAt.guard (h : PoolAt w I Q c) (hb : Below w.heap.size w W) {n : Nat} (hn : n ≤ W.heap.size) : PoolAt W I (fun k => Q k ∨ (w.heap.size ≤ k ∧ k < n)) c :=
  h.later (S := fun _ => False) (Mod.of_below hb _) (fun _ _ e => e.elim) fun k hk => by
    rcases hk with hk | hk
    · exact ⟨Nat.lt_of_lt_of_le (h.far k hk).1 hb.size, .inl hk⟩
    · exact ⟨by omega, .inr hk.1⟩

theorem PoolAt.drop {Q' : Nat → Prop} (h : PoolAt w I Q c) (hq : ∀ k, Q' k → Q k) : PoolAt w I Q' c :=
  h.later (S := fun _ => False) (Mod.refl _ _) (fun _ _ e => e.elim) fun k hk => ⟨(h.far k (hq k hk)).1, .inl (hq k hk)⟩

theorem PoolAt.given {S : Nat → Prop} (h : PoolAt w I Q c) (hm : Mod S w W) (hS : ∀ k, S k → Q k) : PoolAt W I Q c :=
  h.later hm (fun k _ e => hS k e) fun k hk => ⟨Nat.lt_of_lt_of_le (h.far k hk).1 hm.size, .inl hk⟩

theorem Live.guard (h : Live w I Q c X q was) (hb : Below w.heap.size w W) {n : Nat} (hn : n ≤ W.heap.size) : Live W I (fun k => Q k ∨ (w.heap.size ≤ k ∧ k < n)) c X q was :=
  ⟨h.at_.guard hb hn, h.fine, h.late⟩

/-- The pool behind a flush of the log. -/
def CP.logFlush (c : CP) : CP := { c with s := (c.m.flush c.s).1, m := (c.m.flush c.s).2.1 }

theorem flush_countL (m : LG) (s : DS) : (m.flush s).2.1.count = m.count := by
  unfold LG.flush
  split
  · rfl
  · split
    · rfl
    · split
      · rfl
      · rfl

/-- The log's flush, where no step is refused. -/
theorem LogFlush_live (h : Live w I Q c X 0 was) (hst : c.s.steps < 900000000000000) :
    Calls Tryz.prog 58 #[.pointer (some ⟨I.g, 0, none⟩)] w fun e w' => ∃ k, e = .returned (.int .i64 k) ∧ Behind w w' I Q c c.logFlush was ∧ Fine c.logFlush X 0 ∧ (∀ n, n < c.o.count → c.logFlush.look n = c.look n) := by
  have hok := h.at_.wal.lg.ok
  have hcn := hok.count.2
  refine (Flush_any w I.p I.sb I.mb I.g I.B I.pl c.s I.sv I.bv c.m h.at_.wal (by omega)).mono ?_
  rintro e w' ⟨rfl, hw, hm⟩
  have hlen := h.fine.len
  have hlay := h.fine.lay
  have hst2 := flush_steps hok c.s
  obtain ⟨e1, e2, e3⟩ := flush_log c.s hok.safe
  have hmT : Mod I.Turn w w' := hm.mono fun k _ e => .inl e
  have hat : PoolAt w' I Q c.logFlush := by
    have := h.at_.moved (pl' := I.pl) (sv' := I.sv) (bv' := I.bv) hm (fun k _ e => .inl e) hw (fun k e => .inl e) (fun k e => .inl e)
    exact this
  rcases h.fine.calm.flush h.fine.log with ⟨hk, hf⟩ | ⟨-, hh, -⟩
  · have hhas : ∀ n, n < c.o.count → c.logFlush.s.has (c.o.base + n) = c.s.has (c.o.base + n) := fun n hn => hf.has (c.o.base + n) (by omega) (by omega)
    have hml : c.logFlush.m = { c.m with safe := c.m.st.length } := hf.log
    have hlate : Late c.logFlush was := by
      refine ⟨?_, fun i x pg hx hp hd => ?_⟩
      · have h1 := h.late.sec.mono (Q := LateP c.o.base c.o.count ((c.m.flush c.s).2.1.lsn (c.m.flush c.s).2.1.safe : Nat) was) fun k b _ hb => hb.mono (by have := lsn_le (m := c.m) (m' := (c.m.flush c.s).2.1) e2 e3; omega)
        exact h1.flushL h.fine.log (fun k b hk hb => by omega)
      · have h4 := h.late.dirty i x pg hx hp hd
        show pg.lsn < (((c.m.flush c.s).2.1.lsn (c.m.flush c.s).2.1.st.length : Nat) : Int)
        rw [e1]
        have := lsn_le (m := c.m) (m' := (c.m.flush c.s).2.1) e2 (Nat.le_refl c.m.st.length)
        omega
    have hfine : Fine c.logFlush X 0 := by
      refine ⟨hf.calm, h.fine.dead, h.fine.log.safe_ (by rw [hml]) (by rw [hml]; exact Nat.le_refl _) hf.len, by rw [hml]; exact hlay, by show c.o.base + c.o.count ≤ (c.m.flush c.s).1.safe.length; rw [hf.len]; exact hlen, ?_, ?_⟩
      · intro i x pg hx hp hd
        have hr := h.at_.rng i x hx (by rw [hp]; rfl)
        have := h.fine.same i x pg hx hp hd
        show PageOf (c.logFlush.s.has (c.o.base + x.1.num.toNat)) pg
        rw [hhas _ (by omega)]
        exact this
      · intro hu n hn
        have h0 := h.fine.sync hu n hn
        rcases hf.pend (c.o.base + n) h0 with e | e
        · exact e
        · omega
    refine ⟨_, rfl, ⟨hat, hlate, hmT, ?_, Nat.le_succ _, rfl, rfl, rfl, hf.len, ?_⟩, hfine, fun n hn => ?_⟩
    · show (c.m.flush c.s).1.steps ≤ _
      omega
    · show (c.m.flush c.s).1.steps ≤ _
      omega
    · unfold CP.look
      show lookF c.fs (c.logFlush.s.has (c.o.base + n)) n = _
      rw [hhas n hn]
  · exact absurd rfl hh

/-- What a call of asks leaves of a pool. -/
def AskR (c c' : CP) (X : Nat) (q : Int) : Prop := (Fine c' X q ∧ (∀ n, n < c.o.count → c'.look n = c.look n) ∧ c'.m.count = c.m.count) ∨ (Hit c'.s X q ∧ c'.o.dead = true)

theorem AskR.calm (h : AskR c c' X 0) : Fine c' X 0 ∧ (∀ n, n < c.o.count → c'.look n = c.look n) ∧ c'.m.count = c.m.count := by
  rcases h with h | ⟨⟨h, -⟩, -⟩
  · exact h
  · exact absurd rfl h

theorem Miss.askR {n k : Int} (h : Miss c X q n k c') (hf : Fine c X q) : AskR c c' X q := by
  rcases h with ⟨-, rfl, -⟩ | ⟨N, -, -, -, ⟨-, rfl, -⟩ | ⟨-, h1, h2, -⟩⟩ | ⟨-, h1, h2⟩
  · exact .inl ⟨hf, fun _ _ => rfl, rfl⟩
  · exact .inl ⟨hf, fun _ _ => rfl, rfl⟩
  · exact .inl ⟨h1, h2.look, by rw [h2.log.1]⟩
  · exact .inr ⟨h1, h2⟩
end

/-! ### The blocks that asks begins with -/

structure AskW (w W : World) (kd n : Int) (v2 v3 : Value) : Prop where
  m : Blk W w.heap.size 35 #[.slice none 0 0, .slice none 0 0, .int .i64 0]
  o : Blk W (w.heap.size + 1) 43 #[.int .i64 kd, .int .i64 n, v2, v3]
  r : Blk W (w.heap.size + 2) 35 #[.slice none 0 0, .slice none 0 0, .int .i64 0]
  bel : Below w.heap.size w W

theorem askW_start (w : World) (kd n : Int) (v2 v3 : Value) : AskW w (((w.alloc (.cells #[.slice none 0 0, .slice none 0 0, .int .i64 0] 35)).alloc (.cells #[.int .i64 kd, .int .i64 n, v2, v3] 43)).alloc (.cells #[.slice none 0 0, .slice none 0 0, .int .i64 0] 35)) kd n v2 v3 := by
  have h1 := Blk.new (w.alloc (.cells #[.slice none 0 0, .slice none 0 0, .int .i64 0] 35)) 43 #[.int .i64 kd, .int .i64 n, v2, v3]
  rw [size_alloc_] at h1
  have h2 := Blk.new ((w.alloc (.cells #[.slice none 0 0, .slice none 0 0, .int .i64 0] 35)).alloc (.cells #[.int .i64 kd, .int .i64 n, v2, v3] 43)) 35 #[.slice none 0 0, .slice none 0 0, .int .i64 0]
  rw [size_alloc_, size_alloc_] at h2
  exact ⟨((Blk.new w _ _).alloc _).alloc _, h1.alloc _, h2, (((Below.refl _ w).alloc (Nat.le_refl _) _).alloc (by simp) _).alloc (by simp; omega) _⟩

section

variable {w W W' : World} {kd n : Int} {v2 v3 : Value}

theorem AskW.size (h : AskW w W kd n v2 v3) : w.heap.size + 3 ≤ W.heap.size := by have := h.r.lt; omega

theorem AskW.below (h : AskW w W kd n v2 v3) (hb : Below W.heap.size W W') : AskW w W' kd n v2 v3 :=
  ⟨h.m.below hb h.m.lt, h.o.below hb h.o.lt, h.r.below hb h.r.lt, h.bel.trans (hb.mono h.bel.size)⟩

/-- The blocks' cells. -/
structure AskC (W : World) (b : Nat) (kd n : Int) (v2 v3 : Value) : Prop where
  m0 : W.cell? ⟨b, 0, none⟩ = some (.slice none 0 0)
  m1 : W.cell? ⟨b, 1, none⟩ = some (.slice none 0 0)
  m2 : W.cell? ⟨b, 2, none⟩ = some (.int .i64 0)
  o0 : W.cell? ⟨b + 1, 0, none⟩ = some (.int .i64 kd)
  o1 : W.cell? ⟨b + 1, 1, none⟩ = some (.int .i64 n)
  o2 : W.cell? ⟨b + 1, 2, none⟩ = some v2
  o3 : W.cell? ⟨b + 1, 3, none⟩ = some v3
  r0 : W.cell? ⟨b + 2, 0, none⟩ = some (.slice none 0 0)
  r1 : W.cell? ⟨b + 2, 1, none⟩ = some (.slice none 0 0)
  r2 : W.cell? ⟨b + 2, 2, none⟩ = some (.int .i64 0)
  f0 : W.frozen? ⟨b + 2, 0, none⟩ = false
  f1 : W.frozen? ⟨b + 2, 1, none⟩ = false
  f2 : W.frozen? ⟨b + 2, 2, none⟩ = false

theorem AskC.of (hm : Blk W w.heap.size 35 #[.slice none 0 0, .slice none 0 0, .int .i64 0]) (ho : Blk W (w.heap.size + 1) 43 #[.int .i64 kd, .int .i64 n, v2, v3]) (hr : Blk W (w.heap.size + 2) 35 #[.slice none 0 0, .slice none 0 0, .int .i64 0]) : AskC W w.heap.size kd n v2 v3 :=
  ⟨hm.cell 0, hm.cell 1, hm.cell 2, ho.cell 0, ho.cell 1, ho.cell 2, ho.cell 3, hr.cell 0, hr.cell 1, hr.cell 2, hr.frozen 0, hr.frozen 1, hr.frozen 2⟩

/-- The three blocks behind some calls. -/
structure AskB (w W : World) (kd n : Int) (v2 v3 : Value) : Prop where
  m : Blk W w.heap.size 35 #[.slice none 0 0, .slice none 0 0, .int .i64 0]
  o : Blk W (w.heap.size + 1) 43 #[.int .i64 kd, .int .i64 n, v2, v3]
  r : Blk W (w.heap.size + 2) 35 #[.slice none 0 0, .slice none 0 0, .int .i64 0]

theorem AskW.b (h : AskW w W kd n v2 v3) : AskB w W kd n v2 v3 := ⟨h.m, h.o, h.r⟩

theorem AskB.c (h : AskB w W kd n v2 v3) : AskC W w.heap.size kd n v2 v3 := AskC.of h.m h.o h.r

theorem AskB.below (h : AskB w W kd n v2 v3) (hb : Below W.heap.size W W') : AskB w W' kd n v2 v3 := ⟨h.m.below hb h.m.lt, h.o.below hb h.o.lt, h.r.below hb h.r.lt⟩

theorem AskB.mod {S : Nat → Prop} (h : AskB w W kd n v2 v3) (hm : Mod S W W') (hs : ∀ k, w.heap.size ≤ k → k < w.heap.size + 3 → ¬ S k) : AskB w W' kd n v2 v3 :=
  ⟨h.m.mod hm (hs _ (Nat.le_refl _) (by omega)), h.o.mod hm (hs _ (by omega) (by omega)), h.r.mod hm (hs _ (by omega) (by omega))⟩

theorem AskB.turn {I : PI} {Q : Nat → Prop} {c : CP} (h : AskB w W kd n v2 v3) (hm : Mod I.Turn W W') (hp : PoolAt w I Q c) : AskB w W' kd n v2 v3 :=
  h.mod hm fun k hk _ e => by have := hp.lt k (PI.turn_core e); omega

/-- The answer is laid. -/
theorem AskB.end_ (h : AskB w W kd n v2 v3) : Blk (((W.setCell ⟨w.heap.size + 2, 0, none⟩ (.slice none 0 0)).setCell ⟨w.heap.size + 2, 1, none⟩ (.slice none 0 0)).setCell ⟨w.heap.size + 2, 2, none⟩ (.int .i64 0)) (w.heap.size + 2) 35 #[.slice none 0 0, .slice none 0 0, .int .i64 0] :=
  ((h.r.set_ 0 _).set_ 1 _).set_ 2 _

theorem endMod (w W : World) : Mod (fun k => k = w.heap.size + 2) W (((W.setCell ⟨w.heap.size + 2, 0, none⟩ (.slice none 0 0)).setCell ⟨w.heap.size + 2, 1, none⟩ (.slice none 0 0)).setCell ⟨w.heap.size + 2, 2, none⟩ (.int .i64 0)) :=
  (((Mod.refl (fun k => k = w.heap.size + 2) W).setCell (p := ⟨w.heap.size + 2, 0, none⟩) (fun _ => rfl) _).setCell (p := ⟨w.heap.size + 2, 1, none⟩) (fun _ => rfl) _).setCell (p := ⟨w.heap.size + 2, 2, none⟩) (fun _ => rfl) _
end

/-- What asks answers where the document's pool is empty: anything; what it leaves of the pool. -/
def AskE (w : World) (I : PI) (Q : Nat → Prop) (c : CP) (X : Nat) (q : Int) (was : Nat → List Nat) (e : Ending) (w' : World) : Prop :=
  ∃ b c', e = .returned (.tuple #[m0, .bool b]) ∧ Behind w w' I Q c c' was ∧ AskR c c' X q

/-- From the pool with the blocks behind the last call to what asks leaves. -/
theorem askE_of {w W1 W2 W3 : World} {I : PI} {Q : Nat → Prop} {c c' : CP} {X : Nat} {q : Int} {was : Nat → List Nat} {kd n : Int} {v2 v3 : Value} (h : Live w I Q c X q was) (hw : AskW w W1 kd n v2 v3)
    (hb : Behind W1 W2 I (fun k => Q k ∨ (w.heap.size ≤ k ∧ k < w.heap.size + 3)) c c' was) (hr : AskR c c' X q) (hm : Mod (fun k => k = w.heap.size + 2) W2 W3) : Behind w W3 I Q c c' was := by
  have h3 : PoolAt W3 I (fun k => Q k ∨ (w.heap.size ≤ k ∧ k < w.heap.size + 3)) c' := hb.at_.given hm fun k e => .inr (by omega)
  refine ⟨h3.drop fun k e => .inl e, hb.late, ?_, hb.steps, hb.turn, hb.base, hb.count, hb.nf, hb.len, hb.stepsM⟩
  refine ((Mod.of_below hw.bel I.Turn).trans hb.mod fun k _ e => e).trans hm fun k hk e => ?_
  omega
end Go.Proofs.YtbagmmncjmbboaaGreat
