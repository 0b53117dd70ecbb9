/-
  A pool in memory: its disk, its log, its frames, the map of what they hold, the pages. What other calls leave of it. No walk.
-/
import Derived.Test.YtbagmmncjmbboaaGreatZCA5
import Derived.Test.YtbagmmncjmbboaaGreatZV15
namespace Go.Proofs.YtbagmmncjmbboaaGreat
open Go.RowKit Go.Maps
set_option linter.unusedVariables false

/-- A pool in plain words: its disk, its log, its numbers, its frames. -/
structure CP where
  s : DS
  m : LG
  o : PO
  fs : List (Fr × FrM)

/-- Where a pool lies. -/
structure PI where
  p : Nat
  sb : Nat
  mb : Nat
  pl : Option Nat
  g : Nat
  B : Nat
  sv : Value
  bv : Value
  q : Nat
  fb : Nat
  mp : Nat
  nf : Nat

/-- The blocks that are its own, pages aside. -/
def PI.Core (I : PI) (k : Nat) : Prop := OwnW I.p I.sb I.mb I.g k ∨ OwnL I.g I.sv I.bv k ∨ I.pl = some k ∨ k = I.q ∨ k = I.fb ∨ k = I.mp

/-- The blocks that its calls turn. -/
def PI.Turn (I : PI) (k : Nat) : Prop := OwnW I.p I.sb I.mb I.g k ∨ k = I.q ∨ k = I.fb ∨ k = I.mp

theorem PI.turn_core {I : PI} {k : Nat} (h : I.Turn k) : I.Core k := by
  rcases h with h | h | h | h
  · exact .inl h
  · exact .inr (.inr (.inr (.inl h)))
  · exact .inr (.inr (.inr (.inr (.inl h))))
  · exact .inr (.inr (.inr (.inr (.inr h))))

/-- Neither its own nor one of those that it must leave alone. -/
def PI.Far (I : PI) (Q : Nat → Prop) (k : Nat) : Prop := ¬ I.Core k ∧ ¬ Q k

/-- A frame's page in memory, in blocks that have F. -/
structure PgIn (w : World) (F : Nat → Prop) (x : FrM) (pg : PG) : Prop where
  at_ : PageAt w x.p 0 x.v x.xs pg
  fit : pg.Fit
  p : F x.p
  v : ∀ k, x.v.ownBlock = some k → F k
  items : ItemsIn (fun k => k < w.heap.size ∧ F k) x.xs pg.items

theorem PgIn.mod {w w' : World} {F F' S : Nat → Prop} {x : FrM} {pg : PG} (h : PgIn w F x pg) (hm : Mod S w w') (hs : ∀ k, k < w.heap.size → F k → ¬ S k) (hf : ∀ k, k < w.heap.size → F k → F' k) : PgIn w' F' x pg :=
  ⟨h.at_.mod hm (hs _ h.at_.lt h.p) (fun b hb => hs _ (h.at_.row.lt b hb).2 (h.v b hb)) (h.items.off fun k hk e => hs k e.1 e.2 hk), h.fit, hf _ h.at_.lt h.p, fun k hk => hf _ (h.at_.row.lt k hk).2 (h.v k hk), h.items.mono fun k hk => ⟨Nat.lt_of_lt_of_le hk.1 hm.size, hf k hk.1 hk.2⟩⟩

def isPtr (v : Value) : Prop := ∃ a, v = .pointer a

/-- The frame that holds a page, as the map tells it. -/
def holdF (fb : Nat) (fs : List (Fr × FrM)) (n : Int) : Option Value := (idx fs n).map fun i => .pointer (some ⟨fb, i * 6, none⟩)

theorem holdF_ptr {fb : Nat} {fs : List (Fr × FrM)} {n : Int} {v : Value} (h : holdF fb fs n = some v) : isPtr v := by
  unfold holdF at h
  cases hi : idx fs n with
  | none => rw [hi] at h; cases h
  | some i => rw [hi] at h; injection h with h; exact ⟨_, h.symm⟩

structure PoolAt (w : World) (I : PI) (Q : Nat → Prop) (c : CP) : Prop where
  wal : WalAt w I.p I.sb I.mb I.pl c.s I.g I.B I.sv I.bv c.m
  blk : Blk w I.q 113 (poC I.p I.g I.fb I.mp I.nf c.o)
  frs : FrAt w I.fb c.fs
  num : c.fs.length = I.nf
  nf : 1 ≤ I.nf ∧ I.nf ≤ 64
  map : MapG kI isPtr w I.mp I.nf (holdF I.fb c.fs)
  uniq : Uniq c.fs
  page : ∀ (i : Nat) x pg, c.fs[i]? = some x → x.1.page = some pg → PgIn w (I.Far Q) x.2 pg
  rng : ∀ (i : Nat) x, c.fs[i]? = some x → x.1.page.isSome = true → 0 ≤ x.1.num ∧ x.1.num < c.o.count
  idle : ∀ (i : Nat) x, c.fs[i]? = some x → x.1.page = none → x.1.pins = 0 ∧ x.1.dirty = false
  turn : ∀ (i : Nat) x, c.fs[i]? = some x → x.1.asked ≤ c.o.turn ∧ x.1.pins ≤ c.o.turn
  fit : c.o.base + c.o.count ≤ 4096
  aq : Apart I.p I.sb I.mb I.g I.pl I.sv I.bv I.q
  af : Apart I.p I.sb I.mb I.g I.pl I.sv I.bv I.fb
  am : Apart I.p I.sb I.mb I.g I.pl I.sv I.bv I.mp
  ne : I.q ≠ I.fb ∧ I.q ≠ I.mp ∧ I.fb ≠ I.mp
  far : ∀ k, Q k → k < w.heap.size ∧ ¬ I.Core k

theorem apart_far {I : PI} {k : Nat} (h : ¬ I.Core k) : Apart I.p I.sb I.mb I.g I.pl I.sv I.bv k := ⟨fun e => h (.inl (.inl e)), fun e => h (.inr (.inl e)), fun e => h (.inr (.inr (.inl e)))⟩

section

variable {w w' : World} {I : PI} {Q Q' S : Nat → Prop} {c : CP}

theorem PoolAt.lt (h : PoolAt w I Q c) : ∀ k, I.Core k → k < w.heap.size := by
  intro k hk
  have hd := h.wal.dk.lt
  rcases hk with (e | e) | e | e | e | e | e
  · unfold Own at e; omega
  · subst e; exact h.wal.lg.lt
  · exact (h.wal.lg.own k e).2
  · exact hd.2.2.2 k e
  · subst e; exact h.blk.lt
  · subst e; exact Blk.lt h.frs
  · subst e; exact h.map.lt

/-- New memory is far. -/
theorem PoolAt.new_far (h : PoolAt w I Q c) {k : Nat} (hk : w.heap.size ≤ k) : I.Far Q k := ⟨fun e => by have := h.lt k e; omega, fun e => by have := (h.far k e).1; omega⟩

/-- A call that turned what the pool must leave alone, or made memory. -/
theorem PoolAt.later (h : PoolAt w I Q c) (hm : Mod S w w') (hS : ∀ k, k < w.heap.size → S k → Q k) (hq : ∀ k, Q' k → k < w'.heap.size ∧ (Q k ∨ w.heap.size ≤ k)) : PoolAt w' I Q' c := by
  have hn : ∀ k, I.Core k → ¬ S k := fun k hk e => (h.far k (hS k (h.lt k hk) e)).2 hk
  have hm' : Mod (fun k => S k ∧ k < w.heap.size) w w' := hm.mono fun k hk e => ⟨e, hk⟩
  refine ⟨h.wal.apart hm' fun k hk => apart_far (h.far k (hS k hk.2 hk.1)).2, h.blk.mod hm (hn _ (.inr (.inr (.inr (.inl rfl))))), Blk.mod h.frs hm (hn _ (.inr (.inr (.inr (.inr (.inl rfl)))))), h.num, h.nf, h.map.mod hm (hn _ (.inr (.inr (.inr (.inr (.inr rfl)))))), h.uniq, ?_, h.rng, h.idle, h.turn, h.fit, h.aq, h.af, h.am, h.ne, ?_⟩
  · intro i x pg hx hp
    refine (h.page i x pg hx hp).mod hm (fun k hk hf e => hf.2 (hS k hk e)) (fun k hk hf => ⟨hf.1, fun e => ?_⟩)
    rcases (hq k e).2 with e | e
    · exact hf.2 e
    · omega
  · intro k hk
    refine ⟨(hq k hk).1, fun e => ?_⟩
    rcases (hq k hk).2 with e2 | e2
    · exact (h.far k e2).2 e
    · have := h.lt k e; omega

theorem PoolAt.below (h : PoolAt w I Q c) (hb : Below w.heap.size w w') : PoolAt w' I Q c :=
  h.later (S := fun _ => False) (Mod.of_below hb _) (fun _ _ e => e.elim) (fun k hk => ⟨Nat.lt_of_lt_of_le (h.far k hk).1 hb.size, .inl hk⟩)

/-- A call of its disk or its log, not through the pool. -/
theorem PoolAt.moved {pl' : Option Nat} {sv' bv' : Value} {s' : DS} {m' : LG} (h : PoolAt w I Q c) (hm : Mod S w w') (hS : ∀ k, k < w.heap.size → S k → OwnW I.p I.sb I.mb I.g k ∨ OwnL I.g I.sv I.bv k ∨ I.pl = some k)
    (hw : WalAt w' I.p I.sb I.mb pl' s' I.g I.B sv' bv' m') (hl : ∀ k, OwnL I.g sv' bv' k → OwnL I.g I.sv I.bv k ∨ w.heap.size ≤ k) (hp : ∀ k, pl' = some k → I.pl = some k ∨ w.heap.size ≤ k) :
    PoolAt w' { I with pl := pl', sv := sv', bv := bv' } Q { c with s := s', m := m' } := by
  have hc : ∀ k, k < w.heap.size → S k → I.Core k := fun k hk e => by
    rcases hS k hk e with e | e | e
    · exact .inl e
    · exact .inr (.inl e)
    · exact .inr (.inr (.inl e))
  have ap : ∀ k, k < w.heap.size → Apart I.p I.sb I.mb I.g I.pl I.sv I.bv k → ¬ S k := fun k hk a e => by
    rcases hS k hk e with e | e | e
    · exact a.ownW e
    · exact a.log e
    · exact a.pl e
  have ap2 : ∀ k, k < w.heap.size → Apart I.p I.sb I.mb I.g I.pl I.sv I.bv k → Apart I.p I.sb I.mb I.g pl' sv' bv' k := fun k hk a => by
    refine ⟨a.own, fun e => ?_, fun e => ?_⟩
    · rcases hl k e with e | e
      · exact a.log e
      · omega
    · rcases hp k e with e | e
      · exact a.pl e
      · omega
  have core : ∀ k, k < w.heap.size → PI.Core { I with pl := pl', sv := sv', bv := bv' } k → I.Core k := by
    intro k hk e
    rcases e with e | e | e | e
    · exact .inl e
    · rcases hl k e with e | e
      · exact .inr (.inl e)
      · omega
    · rcases hp k e with e | e
      · exact .inr (.inr (.inl e))
      · omega
    · exact .inr (.inr (.inr e))
  have l1 := h.blk.lt
  have l2 : I.fb < w.heap.size := Blk.lt h.frs
  have l3 := h.map.lt
  refine ⟨hw, h.blk.mod hm (ap _ l1 h.aq), Blk.mod h.frs hm (ap _ l2 h.af), h.num, h.nf, h.map.mod hm (ap _ l3 h.am), h.uniq, ?_, h.rng, h.idle, h.turn, h.fit, ap2 _ l1 h.aq, ap2 _ l2 h.af, ap2 _ l3 h.am, h.ne, ?_⟩
  · intro i x pg hx hp
    exact (h.page i x pg hx hp).mod hm (fun k hk hf e => hf.1 (hc k hk e)) (fun k hk hf => ⟨fun e => hf.1 (core k hk e), hf.2⟩)
  · intro k hk
    exact ⟨Nat.lt_of_lt_of_le (h.far k hk).1 hm.size, fun e => (h.far k hk).2 (core k (h.far k hk).1 e)⟩

/-- A call of the pool. -/
theorem PoolAt.turned {c' : CP} (h : PoolAt w I Q c) (hm : Mod I.Turn w w') (hwal : WalAt w' I.p I.sb I.mb I.pl c'.s I.g I.B I.sv I.bv c'.m) (hblk : Blk w' I.q 113 (poC I.p I.g I.fb I.mp I.nf c'.o)) (hfr : FrAt w' I.fb c'.fs)
    (hmap : MapG kI isPtr w' I.mp I.nf (holdF I.fb c'.fs)) (hnum : c'.fs.length = c.fs.length) (hu : Uniq c'.fs) (hbase : c'.o.base = c.o.base) (hcount : c'.o.count = c.o.count) (hle : c.o.turn ≤ c'.o.turn)
    (hx : ∀ (i : Nat) x, c'.fs[i]? = some x → (∃ y, c.fs[i]? = some y ∧ (x.1.num = y.1.num ∧ x.1.page = y.1.page ∧ x.2 = y.2) ∧ (x.1.page = none → x.1.pins = y.1.pins ∧ x.1.dirty = y.1.dirty) ∧ (x.1.asked = y.1.asked ∨ x.1.asked ≤ c'.o.turn) ∧ (x.1.pins = y.1.pins ∨ x.1.pins ≤ c'.o.turn)) ∨
      ((∃ pg, x.1.page = some pg ∧ PgIn w' (I.Far Q) x.2 pg) ∧ (0 ≤ x.1.num ∧ x.1.num < c'.o.count) ∧ x.1.asked ≤ c'.o.turn ∧ x.1.pins ≤ c'.o.turn)) :
    PoolAt w' I Q c' := by
  refine ⟨hwal, hblk, hfr, by rw [hnum]; exact h.num, h.nf, hmap, hu, ?_, ?_, ?_, ?_, by rw [hbase, hcount]; exact h.fit, h.aq, h.af, h.am, h.ne, ?_⟩
  · intro i x pg hi hp
    rcases hx i x hi with ⟨y, hy, ⟨-, e2, e3⟩, -⟩ | ⟨⟨pg', hp', hin⟩, -⟩
    · rw [e3]
      exact (h.page i y pg hy (by rw [← e2]; exact hp)).mod hm (fun k hk hf e => hf.1 (PI.turn_core e)) (fun k hk hf => hf)
    · rw [hp] at hp'
      injection hp' with hp'
      rw [hp']; exact hin
  · intro i x hi hp
    rcases hx i x hi with ⟨y, hy, ⟨e1, e2, -⟩, -⟩ | ⟨-, h2, -⟩
    · rw [e1, hcount]; exact h.rng i y hy (by rw [← e2]; exact hp)
    · exact h2
  · intro i x hi hp
    rcases hx i x hi with ⟨y, hy, ⟨e1, e2, -⟩, e4, -⟩ | ⟨⟨pg', hp', -⟩, -⟩
    · rw [(e4 hp).1, (e4 hp).2]; exact h.idle i y hy (by rw [← e2]; exact hp)
    · rw [hp] at hp'; cases hp'
  · intro i x hi
    rcases hx i x hi with ⟨y, hy, -, -, e5, e6⟩ | ⟨-, -, h3, h4⟩
    · have := h.turn i y hy
      exact ⟨by rcases e5 with e | e <;> omega, by rcases e6 with e | e <;> omega⟩
    · exact ⟨h3, h4⟩
  · intro k hk
    exact ⟨Nat.lt_of_lt_of_le (h.far k hk).1 hm.size, (h.far k hk).2⟩

/-- So many entries as pages that are held. -/
theorem PoolAt.held (h : PoolAt w I Q c) : ∀ a, a ∈ keysOf c.fs ↔ I64 a ∧ (holdF I.fb c.fs a).isSome = true := by
  intro a
  unfold holdF
  rw [keys_mem, Option.isSome_map]
  constructor
  · intro e
    refine ⟨?_, e⟩
    obtain ⟨i, hi⟩ := Option.isSome_iff_exists.1 e
    obtain ⟨x, h1, h2⟩ := idx_some hi
    have := isAt_yes.1 h2
    have h3 := h.rng i x h1 this.1
    have h4 := h.fit
    unfold I64; omega
  · exact fun e => e.2

theorem map_bound {fb nf mp n : Nat} {fs : List (Fr × FrM)} (hu : Uniq fs) (hl : fs.length ≤ nf) (hr : ∀ (i : Nat) x, fs[i]? = some x → x.1.page.isSome = true → 0 ≤ x.1.num ∧ x.1.num < 4097) (h : MapG kI isPtr w mp n (holdF fb fs)) : MapG kI isPtr w mp nf (holdF fb fs) := by
  refine (MapG.bound h (keys_nodup hu) fun a => ?_).mono (Nat.le_trans (keys_len fs) hl)
  unfold holdF
  rw [keys_mem, Option.isSome_map]
  constructor
  · intro e
    refine ⟨?_, e⟩
    obtain ⟨i, hi⟩ := Option.isSome_iff_exists.1 e
    obtain ⟨x, h1, h2⟩ := idx_some hi
    have := isAt_yes.1 h2
    have h3 := hr i x h1 this.1
    show I64 a
    unfold I64; omega
  · exact fun e => e.2

/-- Another frame in its place that holds the same page. -/
theorem holdF_same {fb : Nat} {fs : List (Fr × FrM)} (hu : Uniq fs) {i : Nat} {x y : Fr × FrM} (hx : fs[i]? = some x) (hp : y.1.page.isSome = x.1.page.isSome) (hn : y.1.num = x.1.num) : ∀ a, holdF fb (fs.set i y) a = holdF fb fs a := by
  intro a
  have hu2 := hu.same hx (y := y) (fun e => by rw [← hp]; exact e) hn
  have e : isAt a y = isAt a x := by unfold isAt; rw [hp, hn]
  unfold holdF
  rw [idx_set hu hx hu2, e]
  by_cases h1 : isAt a x = true
  · rw [if_pos h1, idx_of hu hx h1]
  · rw [if_neg h1, if_neg h1]
end
end Go.Proofs.YtbagmmncjmbboaaGreat

/-
  The pool's clean, on a pool as a whole; a frame's six cells stored at once.
-/
namespace Go.Proofs.YtbagmmncjmbboaaGreat
open Go.RowKit Go.Maps
set_option linter.unusedVariables false

set_option maxRecDepth 100000 in
theorem flush_steps {m : LG} (h : m.Ok) (s : DS) : (m.flush s).1.steps ≤ s.steps + m.count + 1 := by
  have h1 : (DS.save m.run m.first m.st m.st.length (m.safe / 498) s).1.steps ≤ s.steps + m.count + 1 :=
    steps_save (m.first : Int) m.count m.st.length (m.safe / 498) s (by have := h.st; rw [Nat.add_mul]; omega) h.count.1
  unfold LG.flush
  split
  · dsimp only; omega
  · split
    · dsimp only; omega
    · split
      · exact h1
      · exact h1

theorem flushP_steps {m : LG} (h : m.Ok) (pg : PG) (s : DS) : (flushP pg s m).1.steps ≤ s.steps + m.count + 1 := by
  unfold flushP
  split
  · exact flush_steps h s
  · dsimp only; omega

theorem cleanP_steps {m : LG} (h : m.Ok) (at_ : Int) (pg : PG) (s : DS) : (cleanP at_ pg s m).1.steps ≤ s.steps + m.count + 2 := by
  have h1 := flushP_steps h pg s
  unfold cleanP
  split
  · have h2 := write_steps5 (flushP pg s m).1 at_ (pageL pg)
    dsimp only
    omega
  · omega

/-- The pool behind clean of frame i, and what it answers. -/
def CP.clean (c : CP) (i : Nat) : CP × Int :=
  match c.fs[i]? with
  | none => (c, 0)
  | some x => match x.1.page with
    | none => (c, 0)
    | some pg => if x.1.dirty = true then (⟨(cleanP ((c.o.base : Int) + x.1.num) pg c.s c.m).1, (cleanP ((c.o.base : Int) + x.1.num) pg c.s c.m).2.1, c.o.after (cleanP ((c.o.base : Int) + x.1.num) pg c.s c.m).2.2, framesAfter c.fs i x (cleanP ((c.o.base : Int) + x.1.num) pg c.s c.m).2.2⟩, (cleanP ((c.o.base : Int) + x.1.num) pg c.s c.m).2.2) else (c, 0)

theorem clean_free {c : CP} {i : Nat} {x : Fr × FrM} (hx : c.fs[i]? = some x) (hp : x.1.page = none) : c.clean i = (c, 0) := by unfold CP.clean; rw [hx]; dsimp only; rw [hp]

theorem clean_not {c : CP} {i : Nat} {x : Fr × FrM} (hx : c.fs[i]? = some x) (hd : x.1.dirty = false) : c.clean i = (c, 0) := by
  unfold CP.clean; rw [hx]; dsimp only
  cases x.1.page with
  | none => rfl
  | some pg => dsimp only; rw [hd]; rfl

theorem clean_yes {c : CP} {i : Nat} {x : Fr × FrM} {pg : PG} (hx : c.fs[i]? = some x) (hp : x.1.page = some pg) (hd : x.1.dirty = true) :
    c.clean i = (⟨(cleanP ((c.o.base : Int) + x.1.num) pg c.s c.m).1, (cleanP ((c.o.base : Int) + x.1.num) pg c.s c.m).2.1, c.o.after (cleanP ((c.o.base : Int) + x.1.num) pg c.s c.m).2.2, framesAfter c.fs i x (cleanP ((c.o.base : Int) + x.1.num) pg c.s c.m).2.2⟩, (cleanP ((c.o.base : Int) + x.1.num) pg c.s c.m).2.2) := by
  unfold CP.clean; rw [hx]; dsimp only; rw [hp]; dsimp only; rw [if_pos hd]

theorem clean_idle (w : World) (q fb i : Nat) (h3 : w.cell? ⟨fb, i * 6 + 3, none⟩ = some (.bool false)) :
    Calls Tryz.prog 69 #[.pointer (some ⟨q, 0, none⟩), .pointer (some ⟨fb, i * 6, none⟩)] w fun e w' => e = .returned (.int .i64 0) ∧ w' = w := by
  go_enter Tryz.func69, Tryz.ntmps69
  go_wp2_with fail
  go_ret
  exact ⟨rfl, rfl⟩

section

variable {w w' : World} {I : PI} {Q : Nat → Prop} {c : CP}

/-- The pool's cells. -/
theorem PoolAt.c0 (h : PoolAt w I Q c) : w.cell? ⟨I.q, 0, none⟩ = some (.pointer (some ⟨I.p, 0, none⟩)) := h.blk.cell 0

theorem PoolAt.c2 (h : PoolAt w I Q c) : w.cell? ⟨I.q, 2, none⟩ = some (.int .i64 (c.o.base : Int)) := h.blk.cell 2

theorem PoolAt.c3 (h : PoolAt w I Q c) : w.cell? ⟨I.q, 3, none⟩ = some (.int .i64 (c.o.count : Int)) := h.blk.cell 3

theorem PoolAt.c4 (h : PoolAt w I Q c) : w.cell? ⟨I.q, 4, none⟩ = some (.slice (some ⟨I.fb, 0, none⟩) I.nf I.nf) := h.blk.cell 4

theorem PoolAt.c5 (h : PoolAt w I Q c) : w.cell? ⟨I.q, 5, none⟩ = some (.map (some I.mp)) := h.blk.cell 5

theorem PoolAt.c6 (h : PoolAt w I Q c) : w.cell? ⟨I.q, 6, none⟩ = some (.int .i64 (c.o.turn : Int)) := h.blk.cell 6

theorem PoolAt.c7 (h : PoolAt w I Q c) : w.cell? ⟨I.q, 7, none⟩ = some (.bool c.o.uns) := h.blk.cell 7

theorem PoolAt.c8 (h : PoolAt w I Q c) : w.cell? ⟨I.q, 8, none⟩ = some (.bool c.o.dead) := h.blk.cell 8

theorem after_same (o : PO) (k : Int) : (o.after k).base = o.base ∧ (o.after k).count = o.count ∧ (o.after k).turn = o.turn := by
  unfold PO.after; split <;> exact ⟨rfl, rfl, rfl⟩

/-- A frame that is the old one, but clean. -/
theorem framesAfter_at {fs : List (Fr × FrM)} {i : Nat} {x : Fr × FrM} (hx : fs[i]? = some x) (k : Int) {j : Nat} {y : Fr × FrM} (hy : (framesAfter fs i x k)[j]? = some y) : ∃ z, fs[j]? = some z ∧ (y = z ∨ (j = i ∧ k = 0 ∧ y = ({ z.1 with dirty := false }, z.2))) := by
  unfold framesAfter at hy
  split at hy
  · rcases set_at hx hy with ⟨rfl, rfl⟩ | ⟨hj, hy⟩
    · exact ⟨x, hx, .inr ⟨rfl, by assumption, rfl⟩⟩
    · exact ⟨y, hy, .inl rfl⟩
  · exact ⟨y, hy, .inl rfl⟩

theorem framesAfter_uniq {fs : List (Fr × FrM)} (hu : Uniq fs) {i : Nat} {x : Fr × FrM} (hx : fs[i]? = some x) (k : Int) : Uniq (framesAfter fs i x k) := by
  unfold framesAfter
  split
  · exact hu.same hx (fun e => e) rfl
  · exact hu

theorem framesAfter_hold {fb : Nat} {fs : List (Fr × FrM)} (hu : Uniq fs) {i : Nat} {x : Fr × FrM} (hx : fs[i]? = some x) (k : Int) (a : Int) : holdF fb (framesAfter fs i x k) a = holdF fb fs a := by
  unfold framesAfter
  split
  · exact holdF_same (y := ({ x.1 with dirty := false }, x.2)) hu hx rfl rfl a
  · rfl

theorem framesAfter_len (fs : List (Fr × FrM)) (i : Nat) (x : Fr × FrM) (k : Int) : (framesAfter fs i x k).length = fs.length := by
  unfold framesAfter; split <;> simp

theorem clean_pool (h : PoolAt w I Q c) {i : Nat} {x : Fr × FrM} (hx : c.fs[i]? = some x) (hst : c.s.steps < 1000000000000000) :
    Calls Tryz.prog 69 #[.pointer (some ⟨I.q, 0, none⟩), .pointer (some ⟨I.fb, i * 6, none⟩)] w fun e w' => e = .returned (.int .i64 (c.clean i).2) ∧ PoolAt w' I Q (c.clean i).1 ∧ Mod I.Turn w w' := by
  cases hp : x.1.page with
  | none =>
    have k3 := h.frs.cell hx 3 (.bool false) (by rw [show (encFr x)[3]? = some (.bool x.1.dirty) from rfl, (h.idle i x hx hp).2])
    refine (clean_idle w I.q I.fb i k3).mono ?_
    rintro e w' ⟨rfl, rfl⟩
    rw [clean_free hx hp]
    exact ⟨rfl, h, Mod.refl _ _⟩
  | some pg =>
    have hr := h.rng i x hx (by rw [hp]; rfl)
    obtain ⟨n, hn⟩ : ∃ n : Nat, x.1.num = (n : Int) := ⟨x.1.num.toNat, by omega⟩
    have hpg := h.page i x pg hx hp
    have hfit := h.fit
    have hz : ∀ k, I.Far Q k → ¬ OwnW I.p I.sb I.mb I.g k := fun k hf e => hf.1 (.inl e)
    have hok := h.wal.lg.ok
    have hfs := flushP_steps hok pg c.s
    have hcn := hok.count.2
    refine (clean_any w I.q I.fb I.mp I.nf i n (c.o.base + n) I.p I.sb I.mb I.g I.B 0 I.pl c.s I.sv I.bv c.m c.o c.fs x pg h.wal h.blk h.frs hx hn rfl (by omega) hp hpg.at_ hpg.fit h.aq h.af (fun k hk => by rcases hk with hk | hk; (subst hk; exact hz _ hpg.p); exact hz _ (hpg.v k hk)) (hpg.items.mono fun k hk => hz k hk.2) h.ne.1 hst (by omega)).mono ?_
    rintro e w' (⟨hd, rfl, rfl⟩ | ⟨hd, rfl, hw, hm, hq, hf⟩)
    · rw [clean_not hx hd]
      exact ⟨rfl, h, Mod.refl _ _⟩
    · rw [clean_yes hx hp hd]
      have e1 : ((c.o.base + n : Nat) : Int) = (c.o.base : Int) + x.1.num := by rw [hn]; omega
      rw [e1] at hw hq hf ⊢
      have hm2 : Mod I.Turn w w' := hm.mono fun k _ e => by
        rcases e with e | e | e
        · exact .inl e
        · exact .inr (.inl e)
        · exact .inr (.inr (.inl e))
      obtain ⟨k, hk⟩ : ∃ k, k = (cleanP ((c.o.base : Int) + x.1.num) pg c.s c.m).2.2 := ⟨_, rfl⟩
      rw [← hk] at hq hf ⊢
      obtain ⟨a1, a2, a3⟩ := after_same c.o k
      have hmap : MapG kI isPtr w' I.mp I.nf (holdF I.fb (framesAfter c.fs i x k)) := by
        refine (h.map.mod hm ?_).cast fun a _ => (framesAfter_hold h.uniq hx k a).symm
        rintro (e | e | e)
        · exact h.am.ownW e
        · exact h.ne.2.1 e.symm
        · exact h.ne.2.2 e.symm
      refine ⟨rfl, h.turned hm2 hw hq hf hmap (framesAfter_len _ _ _ _) (framesAfter_uniq h.uniq hx k) a1 a2 (by dsimp only; omega) ?_, hm2⟩
      intro j y hy
      obtain ⟨z, hz1, hz2⟩ := framesAfter_at hx k hy
      refine .inl ⟨z, hz1, ?_⟩
      rcases hz2 with rfl | ⟨rfl, -, rfl⟩
      · exact ⟨⟨rfl, rfl, rfl⟩, fun _ => ⟨rfl, rfl⟩, .inl rfl, .inl rfl⟩
      · rw [hx] at hz1
        injection hz1 with hz1
        subst hz1
        exact ⟨⟨rfl, rfl, rfl⟩, fun e => absurd (hp.symm.trans e) (by simp), .inl rfl, .inl rfl⟩
end

theorem flat_put6 {y : Fr × FrM} : ∀ (fs : List (Fr × FrM)) (i : Nat), i < fs.length → (fs.flatMap encFr).take (i * 6) ++ encFr y ++ (fs.flatMap encFr).drop (i * 6 + 6) = (fs.set i y).flatMap encFr
  | [], i, hi => by simp at hi
  | a :: r, 0, _ => by
    have ha := encFr_len a
    simp only [Nat.zero_mul, List.take_zero, List.nil_append, Nat.zero_add, List.set_cons_zero, List.flatMap_cons]
    rw [List.drop_append_of_le_length (by omega), List.drop_eq_nil_of_le (by omega), List.nil_append]
  | a :: r, i + 1, hi => by
    have ha := encFr_len a
    have h1 := flat_put6 (y := y) r i (by simpa using hi)
    simp only [List.set_cons_succ, List.flatMap_cons]
    rw [← h1, List.take_append, List.drop_append, List.take_of_length_le (by omega), List.drop_eq_nil_of_le (by omega), ha,
      show (i + 1) * 6 - 6 = i * 6 by omega, show (i + 1) * 6 + 6 - 6 = i * 6 + 6 by omega, List.nil_append]
    simp only [List.append_assoc]

theorem flat_len6 (fs : List (Fr × FrM)) : (fs.flatMap encFr).length = fs.length * 6 := by
  induction fs with
  | nil => rfl
  | cons a r ih => rw [List.flatMap_cons, List.length_append, ih, encFr_len, List.length_cons]; omega

/-- A frame stored as a whole. -/
theorem FrAt.put {w : World} {fb : Nat} {fs : List (Fr × FrM)} (h : FrAt w fb fs) {i : Nat} (hi : i < fs.length) (y : Fr × FrM) : FrAt (w.setCells fb (i * 6) (encFr y)) fb (fs.set i y) := by
  have h1 := blk_setCells (encFr y) (i * 6) w _ _ h (by rw [List.size_toArray, flat_len6, encFr_len]; omega)
  rw [encFr_len] at h1
  have e : ((fs.flatMap encFr).toArray.toList.take (i * 6) ++ encFr y ++ (fs.flatMap encFr).toArray.toList.drop (i * 6 + 6)).toArray = ((fs.set i y).flatMap encFr).toArray := by
    rw [List.toList_toArray, flat_put6 fs i hi]
  rw [e] at h1
  exact h1

theorem FrAt.there {w : World} {fb : Nat} {fs : List (Fr × FrM)} (h : FrAt w fb fs) {i : Nat} (hi : i < fs.length) : w.there fb (i * 6) 6 := by
  intro j hj
  refine ⟨?_, Blk.frozen h _⟩
  have hl : i * 6 + j < (fs.flatMap encFr).toArray.size := by rw [List.size_toArray, flat_len6]; omega
  rw [Blk.cell h, Array.getElem?_eq_getElem hl]
  rfl
end Go.Proofs.YtbagmmncjmbboaaGreat
