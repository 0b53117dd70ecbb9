/-
  Two pools that tell the same: each pair of calls in plain steps. No walk.
-/
import Derived.BigQuiet
import Derived.Test.YtbagmmncjmbboaaGreatZCA29
namespace Go.Proofs.YtbagmmncjmbboaaGreat
open Go.RowKit Go.Maps
set_option linter.unusedVariables false

/-- The first pool has done its call, the second one is to follow; then both tell lk. -/
structure Half (w wr : World) (p1 g1 q1 p2 g2 q2 k : Nat) (I J : PI) (c d : CP) (lk : Nat → List Nat) : Prop where
  two : Two wr I J c d (disk10 [] 8).has (disk10 [] 8).has
  log : LogEq c.m d.m
  look : ∀ m, m < 8 → c.look m = lk m
  ia : I.p = p1 ∧ I.g = g1 ∧ I.q = q1
  ib : J.p = p2 ∧ J.g = g2 ∧ J.q = q2
  bel : Below w.heap.size w wr
  newA : ∀ k, I.Core k → w.heap.size ≤ k
  newB : ∀ k, J.Core k → w.heap.size ≤ k
  na : c.s.steps ≤ 4 + (k + 1) * 1000000 ∧ c.o.turn ≤ (k + 1) * 10
  nb : d.s.steps ≤ 4 + k * 1000000 ∧ d.o.turn ≤ k * 10

section

variable {w wr W W' : World} {p1 g1 q1 p2 g2 q2 k : Nat} {I J : PI} {c d : CP} {lk : Nat → List Nat}

theorem Half.mem (h : Half w W p1 g1 q1 p2 g2 q2 k I J c d lk) (hb : Below W.heap.size W W') : Half w W' p1 g1 q1 p2 g2 q2 k I J c d lk :=
  ⟨h.two.below hb, h.log, h.look, h.ia, h.ib, h.bel.trans (hb.mono h.bel.size), h.newA, h.newB, h.na, h.nb⟩

theorem Alike.half {c1 : CP} (h : Alike w wr p1 g1 q1 p2 g2 q2 k I J c d) (ht : Two W I J c1 d (disk10 [] 8).has (disk10 [] 8).has) (hn : Near c c1) (hm : Mod I.Turn wr W) (hl : LogLike c.m c1.m) (hlk : ∀ m, m < 8 → c1.look m = lk m) : Half w W p1 g1 q1 p2 g2 q2 k I J c1 d lk :=
  ⟨ht, h.log.like hl rfl, hlk, h.ia, h.ib, below_turn h.bel hm h.newA, h.newA, h.newB, ⟨by have := hn.steps; have := h.na.1; omega, by have := hn.turn; have := h.na.2; omega⟩, h.nb⟩

theorem Half.full {d1 : CP} (h : Half w W p1 g1 q1 p2 g2 q2 k I J c d lk) (ht : Two W' J I d1 c (disk10 [] 8).has (disk10 [] 8).has) (hn : Near d d1) (hm : Mod J.Turn W W') (hl : LogLike d.m d1.m) (hlk : ∀ m, m < 8 → d1.look m = lk m) : Alike w W' p1 g1 q1 p2 g2 q2 (k + 1) I J c d1 :=
  ⟨ht.symm, h.log.like rfl hl, fun m hm => (h.look m hm).trans (hlk m hm).symm, h.ia, h.ib, below_turn h.bel hm h.newB, h.newA, h.newB, h.na, ⟨by have := hn.steps; have := h.nb.1; omega, by have := hn.turn; have := h.nb.2; omega⟩⟩

theorem Alike.get (h : Alike w wr p1 g1 q1 p2 g2 q2 k I J c d) (hk : k ≤ 100) (n : Int) (hn64 : I64 n) :
    Calls Tryz.prog 32 #[.pointer (some ⟨q1, 0, none⟩), .int .i64 n] wr fun e w' => ∃ c', Half w w' p1 g1 q1 p2 g2 q2 k I J c' d d.look ∧ Mod I.Turn wr w' ∧
      ((∃ N pg y, n = ((N : Nat) : Int) ∧ N < 8 ∧ e = .returned (.tuple #[.pointer (some ⟨y.p, 0, none⟩), .int .i64 0]) ∧ PgIn w' (fun k => ¬ J.Core k) y pg ∧ PageOf (d.look N) pg) ∨
       (¬ (0 ≤ n ∧ n < 8) ∧ e = .returned (.tuple #[.pointer none, .int .i64 1]))) := by
  have h1 := h.na
  obtain ⟨e1, e2, rfl⟩ := h.ia
  refine (h.two.get n hn64 (by omega) (by omega)).mono ?_
  rintro e w' ⟨c', ht, hnr, hm, hl, hlk, ⟨N, pg, y, rfl, hN, rfl, hy, hpo⟩ | ⟨hn, rfl⟩⟩
  · refine ⟨c', h.half ht hnr hm hl (fun m hm => (hlk m hm).trans (h.look m hm)), hm, .inl ⟨N, pg, y, rfl, hN, rfl, ?_, by rw [← h.look N hN]; exact hpo⟩⟩
    exact hy.mod (Mod.refl (fun _ => False) _) (fun _ _ _ e => e) (fun k _ hf e => by have := h.two.b.lt k e; omega)
  · exact ⟨c', h.half ht hnr hm hl (fun m hm => (hlk m hm).trans (h.look m hm)), hm, .inr ⟨hn, rfl⟩⟩

theorem Half.get (h : Half w W p1 g1 q1 p2 g2 q2 k I J c d d.look) (hk : k ≤ 100) (n : Int) (hn64 : I64 n) {N : Nat} {pg : PG} {y : FrM} (hn : n = (N : Int)) (hN : N < 8) (hy : PgIn W (fun k => ¬ J.Core k) y pg) (hpo : PageOf (d.look N) pg) :
    Calls Tryz.prog 32 #[.pointer (some ⟨q2, 0, none⟩), .int .i64 n] W fun e w' => ∃ z, e = .returned (.tuple #[.pointer (some ⟨z, 0, none⟩), .int .i64 0]) ∧ (∃ d', Alike w w' p1 g1 q1 p2 g2 q2 (k + 1) I J c d') ∧
      PgIn w' (fun _ => True) y pg ∧ ∃ v xs, PgIn w' (fun _ => True) ⟨z, v, xs⟩ pg := by
  have h1 := h.nb
  obtain ⟨e1, e2, rfl⟩ := h.ib
  refine (h.two.symm.get n hn64 (by omega) (by omega)).mono ?_
  rintro e w' ⟨d', ht, hnr, hm, hl, hlk, ⟨N2, pg2, y2, hn2, hN2, rfl, hy2, hpo2⟩ | ⟨hn2, -⟩⟩
  · have e1 : N2 = N := by omega
    subst e1
    have e2 : pg2 = pg := pageOf_unique hpo2 hpo
    subst e2
    refine ⟨y2.p, rfl, ⟨d', h.full ht hnr hm hl hlk⟩, ?_, y2.v, y2.xs, ?_⟩
    · exact hy.mod hm (fun k _ hf e => hf (PI.turn_core e)) (fun _ _ _ => trivial)
    · exact hy2.mod (Mod.refl (fun _ => False) _) (fun _ _ _ e => e) (fun _ _ _ => trivial)
  · exact absurd ⟨by omega, by omega⟩ hn2

theorem Half.get_no (h : Half w W p1 g1 q1 p2 g2 q2 k I J c d d.look) (hk : k ≤ 100) (n : Int) (hn64 : I64 n) (hn : ¬ (0 ≤ n ∧ n < 8)) :
    Calls Tryz.prog 32 #[.pointer (some ⟨q2, 0, none⟩), .int .i64 n] W fun e w' => e = .returned (.tuple #[.pointer none, .int .i64 1]) ∧ ∃ d', Alike w w' p1 g1 q1 p2 g2 q2 (k + 1) I J c d' := by
  have h1 := h.nb
  obtain ⟨e1, e2, rfl⟩ := h.ib
  refine (h.two.symm.get n hn64 (by omega) (by omega)).mono ?_
  rintro e w' ⟨d', ht, hnr, hm, hl, hlk, ⟨N2, pg2, y2, rfl, hN2, -⟩ | ⟨-, rfl⟩⟩
  · exact absurd ⟨by omega, by omega⟩ hn
  · exact ⟨rfl, d', h.full ht hnr hm hl hlk⟩

theorem Alike.flush (h : Alike w wr p1 g1 q1 p2 g2 q2 k I J c d) (hk : k ≤ 100) :
    Calls Tryz.prog 25 #[.pointer (some ⟨q1, 0, none⟩)] wr fun e w' => e = .returned (.int .i64 0) ∧ ∃ c', Half w w' p1 g1 q1 p2 g2 q2 k I J c' d d.look ∧ ∀ m, m < 8 → c'.s.has (4 + m) = d.look m := by
  have h1 := h.na
  obtain ⟨e1, e2, rfl⟩ := h.ia
  refine (h.two.flush (by omega)).mono ?_
  rintro e w' ⟨c', rfl, ht, hnr, hm, hl, hlk, hhas⟩
  exact ⟨rfl, c', h.half ht hnr hm hl (fun m hm => (hlk m hm).trans (h.look m hm)), fun m hm => (hhas m hm).trans (h.look m hm)⟩

theorem Half.flush (h : Half w W p1 g1 q1 p2 g2 q2 k I J c d d.look) (hk : k ≤ 100) :
    Calls Tryz.prog 25 #[.pointer (some ⟨q2, 0, none⟩)] W fun e w' => e = .returned (.int .i64 0) ∧ ∃ d', Alike w w' p1 g1 q1 p2 g2 q2 (k + 1) I J c d' ∧ ∀ m, m < 8 → d'.s.has (4 + m) = d.look m := by
  have h1 := h.nb
  obtain ⟨e1, e2, rfl⟩ := h.ib
  refine (h.two.symm.flush (by omega)).mono ?_
  rintro e w' ⟨d', rfl, ht, hnr, hm, hl, hlk, hhas⟩
  exact ⟨rfl, d', h.full ht hnr hm hl hlk, hhas⟩

/-- A block that the pools leave alone. -/
structure Box (W : World) (I J : PI) (bx : Nat) (t : TypeId) (cs : Array Value) : Prop where
  blk : Blk W bx t cs
  a : ¬ I.Core bx
  b : ¬ J.Core bx

theorem Box.below {bx : Nat} {t : TypeId} {cs : Array Value} (h : Box W I J bx t cs) (hb : Below W.heap.size W W') : Box W' I J bx t cs := ⟨h.blk.below hb h.blk.lt, h.a, h.b⟩

theorem Box.turnA {bx : Nat} {t : TypeId} {cs : Array Value} (h : Box W I J bx t cs) (hm : Mod I.Turn W W') : Box W' I J bx t cs := ⟨h.blk.mod hm (fun e => h.a (PI.turn_core e)), h.a, h.b⟩

theorem Box.turnB {bx : Nat} {t : TypeId} {cs : Array Value} (h : Box W I J bx t cs) (hm : Mod J.Turn W W') : Box W' I J bx t cs := ⟨h.blk.mod hm (fun e => h.b (PI.turn_core e)), h.a, h.b⟩

/-- Behind both appends. -/
def Apps (w W : World) (p1 g1 q1 p2 g2 q2 k bx : Nat) (t : TypeId) (cs : Array Value) (A r : Int) : Prop := ∃ I J c d, Alike w W p1 g1 q1 p2 g2 q2 k I J c d ∧ Box W I J bx t cs ∧
  ((r = 0 ∧ 0 ≤ A ∧ A ≤ 9000000000000000000 ∧ A < ((c.m.lsn c.m.st.length : Nat) : Int) ∧ A < ((d.m.lsn d.m.st.length : Nat) : Int)) ∨ r = 90)

/-- Both logs take a record. -/
theorem Alike.app {bx : Nat} {t : TypeId} {cs : Array Value} (h : Alike w wr p1 g1 q1 p2 g2 q2 k I J c d) (hbx : Box wr I J bx t cs) :
    Calls Tryz.prog 20 #[.pointer (some ⟨g1, 0, none⟩), .int .i64 1, .slice none 0 0] wr fun e w' => ∃ A r, e = .returned (.tuple #[.int .i64 A, .int .i64 r]) ∧
      Calls Tryz.prog 20 #[.pointer (some ⟨g2, 0, none⟩), .int .i64 1, .slice none 0 0] w' fun e w' => e = .returned (.tuple #[.int .i64 A, .int .i64 r]) ∧ Apps w w' p1 g1 q1 p2 g2 q2 k bx t cs A r := by
  obtain ⟨e1, rfl, e2⟩ := h.ia
  obtain ⟨e3, rfl, e4⟩ := h.ib
  have hlt := hbx.blk.lt
  refine (h.two.app (.slice none 0 0) [] (RB.nil _ _) (by simp)).mono ?_
  rintro e w1 ⟨sv, bv, ht, rfl, hm, hlk, hcore, hor⟩
  have hB1 : Box w1 { I with sv := sv, bv := bv } J bx t cs := ⟨hbx.blk.mod hm (fun e => hbx.a (.inr (.inl e))), fun e => by
    rcases hcore bx e with e | e
    · exact hbx.a e
    · omega, hbx.b⟩
  have hlt1 := hB1.blk.lt
  refine ⟨_, _, rfl, ?_⟩
  refine (ht.symm.app (.slice none 0 0) [] (RB.nil _ _) (by simp)).mono ?_
  rintro e w2 ⟨sv2, bv2, ht2, rfl, hm2, hlk2, hcore2, hor2⟩
  obtain ⟨q1', q2'⟩ := h.log.append 1 []
  rw [q1']
  have hnA : ∀ k, PI.Core { I with sv := sv, bv := bv } k → w.heap.size ≤ k := fun k hk => by
    rcases hcore k hk with e | e
    · exact h.newA k e
    · exact Nat.le_trans h.bel.size e
  have hb1 : Below w.heap.size w w1 := below_by h.bel hm (fun k hk => h.newA k (.inr (.inl hk)))
  have hnB : ∀ k, PI.Core { J with sv := sv2, bv := bv2 } k → w.heap.size ≤ k := fun k hk => by
    rcases hcore2 k hk with e | e
    · exact h.newB k e
    · exact Nat.le_trans hb1.size e
  refine ⟨rfl, _, _, _, _, ⟨ht2.symm, q2', fun m hm => by rw [hlk m, hlk2 m]; exact h.look m hm, h.ia, h.ib, below_by hb1 hm2 (fun k hk => h.newB k (.inr (.inl hk))), hnA, hnB, h.na, h.nb⟩, ⟨hB1.blk.mod hm2 (fun e => hbx.b (.inr (.inl e))), hB1.a, fun e => ?_⟩, ?_⟩
  · rcases hcore2 bx e with e | e
    · exact hbx.b e
    · omega
  · rw [q1'] at hor
    rcases hor with ⟨a1, a2, a3⟩ | a1
    · rcases hor2 with ⟨b1, b2, b3⟩ | b1
      · exact .inl ⟨a1, by omega, by omega, by omega, by omega⟩
      · rw [a1] at b1; cases b1
    · exact .inr a1

/-- What Put sets. -/
def putLk (n : Int) (pg : PG) (lk : Nat → List Nat) (m : Nat) : List Nat := if n = (m : Int) then pageL pg else lk m

/-- What Put answers. -/
def putE (n : Int) : Int := if 0 ≤ n ∧ n < 8 then 0 else 1

theorem Alike.put (h : Alike w wr p1 g1 q1 p2 g2 q2 k I J c d) (hk : k ≤ 100) (hb : Below wr.heap.size wr W) (n : Int) (hn64 : I64 n) (y : FrM) (gm : PG) (hg : PgIn W (fun k => wr.heap.size ≤ k) y gm) (A : Int) (hA : 0 ≤ A ∧ A ≤ 9000000000000000000) (hlt : A < ((c.m.lsn c.m.st.length : Nat) : Int)) :
    Calls Tryz.prog 22 #[.pointer (some ⟨q1, 0, none⟩), .int .i64 n, .pointer (some ⟨y.p, 0, none⟩), .int .i64 A] W fun e w' => e = .returned (.int .i64 (putE n)) ∧ Mod I.Turn W w' ∧ ∃ c', Half w w' p1 g1 q1 p2 g2 q2 k I J c' d (putLk n { gm with lsn := A } d.look) := by
  have h1 := h.na
  obtain ⟨e1, e2, rfl⟩ := h.ia
  have hw := h.mem hb
  have hg' : PgIn W (fun k => ¬ I.Turn k) y gm := hg.mod (Mod.refl (fun _ => False) _) (fun _ _ _ e => e) (fun k _ hf e => by have := h.two.a.lt k (PI.turn_core e); omega)
  refine (hw.two.put n hn64 (by omega) (by omega) y gm hg' A (by omega) hlt).mono ?_
  rintro e w' ⟨c', ht, hnr, hm, hl, ⟨N, rfl, hN, rfl, hlk⟩ | ⟨hn, rfl, hlk⟩⟩
  · refine ⟨by unfold putE; rw [if_pos ⟨by omega, by omega⟩], hm, c', hw.half ht hnr hm hl fun m hm => ?_⟩
    rw [hlk m hm]
    unfold putLk
    by_cases e : m = N
    · rw [if_pos e, if_pos (by omega)]
    · rw [if_neg e, if_neg (by omega)]; exact h.look m hm
  · refine ⟨by unfold putE; rw [if_neg hn], hm, c', hw.half ht hnr hm hl fun m hm => ?_⟩
    rw [hlk m hm]
    unfold putLk
    rw [if_neg (by omega)]; exact h.look m hm

theorem Half.put {gm : PG} {A n : Int} (h : Half w wr p1 g1 q1 p2 g2 q2 k I J c d (putLk n { gm with lsn := A } d.look)) (hk : k ≤ 100) (hb : Below wr.heap.size wr W) (hn64 : I64 n) (y : FrM) (hg : PgIn W (fun k => wr.heap.size ≤ k) y gm) (hA : 0 ≤ A ∧ A ≤ 9000000000000000000) (hlt : A < ((d.m.lsn d.m.st.length : Nat) : Int)) :
    Calls Tryz.prog 22 #[.pointer (some ⟨q2, 0, none⟩), .int .i64 n, .pointer (some ⟨y.p, 0, none⟩), .int .i64 A] W fun e w' => e = .returned (.int .i64 (putE n)) ∧ Mod J.Turn W w' ∧ ∃ d', Alike w w' p1 g1 q1 p2 g2 q2 (k + 1) I J c d' := by
  have h1 := h.nb
  obtain ⟨e1, e2, rfl⟩ := h.ib
  have hw := h.mem hb
  have hg' : PgIn W (fun k => ¬ J.Turn k) y gm := hg.mod (Mod.refl (fun _ => False) _) (fun _ _ _ e => e) (fun k _ hf e => by have := h.two.b.lt k (PI.turn_core e); omega)
  refine (hw.two.symm.put n hn64 (by omega) (by omega) y gm hg' A (by omega) hlt).mono ?_
  rintro e w' ⟨d', ht, hnr, hm, hl, ⟨N, rfl, hN, rfl, hlk⟩ | ⟨hn, rfl, hlk⟩⟩
  · refine ⟨by unfold putE; rw [if_pos ⟨by omega, by omega⟩], hm, d', hw.full ht hnr hm hl fun m hm => ?_⟩
    rw [hlk m hm]
    unfold putLk
    by_cases e : m = N
    · rw [if_pos e, if_pos (by omega)]
    · rw [if_neg e, if_neg (by omega)]
  · refine ⟨by unfold putE; rw [if_neg hn], hm, d', hw.full ht hnr hm hl fun m hm => ?_⟩
    rw [hlk m hm]
    unfold putLk
    rw [if_neg (by omega)]
/-- Two pools that are alike. -/
def AlikeK (w W : World) (p1 g1 q1 p2 g2 q2 k : Nat) : Prop := ∃ I J c d, Alike w W p1 g1 q1 p2 g2 q2 k I J c d

theorem AlikeK.mem (h : AlikeK w W p1 g1 q1 p2 g2 q2 k) (hb : Below W.heap.size W W') : AlikeK w W' p1 g1 q1 p2 g2 q2 k := by
  obtain ⟨I, J, c, d, h⟩ := h
  exact ⟨I, J, c, d, h.mem hb⟩

/-- Both write a page. -/
theorem Alike.puts {bx : Nat} {t : TypeId} {cs : Array Value} (h : Alike w wr p1 g1 q1 p2 g2 q2 k I J c d) (hk : k ≤ 100) (hbx : Box wr I J bx t cs) (n : Int) (hn64 : I64 n) (v : Value) (l : List Nat) (hv : RB w w.heap.size v l) (A : Int) (hA : 0 ≤ A ∧ A ≤ 9000000000000000000) (h1 : A < ((c.m.lsn c.m.st.length : Nat) : Int)) (h2 : A < ((d.m.lsn d.m.st.length : Nat) : Int)) :
    Calls Tryz.prog 21 #[v] wr fun e w1 => ∃ y, e = .returned (.pointer (some ⟨y, 0, none⟩)) ∧ Blk w1 bx t cs ∧
      Calls Tryz.prog 22 #[.pointer (some ⟨q1, 0, none⟩), .int .i64 n, .pointer (some ⟨y, 0, none⟩), .int .i64 A] w1 fun e w2 => e = .returned (.int .i64 (putE n)) ∧ Blk w2 bx t cs ∧
        Calls Tryz.prog 21 #[v] w2 fun e w3 => ∃ z, e = .returned (.pointer (some ⟨z, 0, none⟩)) ∧ Blk w3 bx t cs ∧
          Calls Tryz.prog 22 #[.pointer (some ⟨q2, 0, none⟩), .int .i64 n, .pointer (some ⟨z, 0, none⟩), .int .i64 A] w3 fun e w4 => e = .returned (.int .i64 (putE n)) ∧ Blk w4 bx t cs ∧ AlikeK w w4 p1 g1 q1 p2 g2 q2 (k + 1) := by
  refine (one10_any wr v l ((hv.below h.bel).more h.bel.size)).mono ?_
  rintro e w1 ⟨y, rfl, hy, hb1⟩
  refine ⟨y.p, rfl, (hbx.below hb1).blk, ?_⟩
  refine (h.put hk hb1 n hn64 y (onePg l) hy A hA h1).mono ?_
  rintro e w2 ⟨rfl, hm2, c', hh⟩
  have hbx2 := (hbx.below hb1).turnA hm2
  refine ⟨rfl, hbx2.blk, ?_⟩
  refine (one10_any w2 v l ((hv.below hh.bel).more hh.bel.size)).mono ?_
  rintro e w3 ⟨z, rfl, hz, hb3⟩
  have hbx3 := hbx2.below hb3
  refine ⟨z.p, rfl, hbx3.blk, ?_⟩
  refine (hh.put hk hb3 hn64 z hz hA h2).mono ?_
  rintro e w4 ⟨rfl, hm4, d', hal⟩
  exact ⟨rfl, (hbx3.turnB hm4).blk, _, _, _, _, hal⟩

theorem Apps.puts {bx : Nat} {t : TypeId} {cs : Array Value} {A r : Int} (h : Apps w wr p1 g1 q1 p2 g2 q2 k bx t cs A r) (hr : r = 0) (hk : k ≤ 100) (n : Int) (hn64 : I64 n) (v : Value) (l : List Nat) (hv : RB w w.heap.size v l) :
    Calls Tryz.prog 21 #[v] wr fun e w1 => ∃ y, e = .returned (.pointer (some ⟨y, 0, none⟩)) ∧ Blk w1 bx t cs ∧
      Calls Tryz.prog 22 #[.pointer (some ⟨q1, 0, none⟩), .int .i64 n, .pointer (some ⟨y, 0, none⟩), .int .i64 A] w1 fun e w2 => e = .returned (.int .i64 (putE n)) ∧ Blk w2 bx t cs ∧
        Calls Tryz.prog 21 #[v] w2 fun e w3 => ∃ z, e = .returned (.pointer (some ⟨z, 0, none⟩)) ∧ Blk w3 bx t cs ∧
          Calls Tryz.prog 22 #[.pointer (some ⟨q2, 0, none⟩), .int .i64 n, .pointer (some ⟨z, 0, none⟩), .int .i64 A] w3 fun e w4 => e = .returned (.int .i64 (putE n)) ∧ Blk w4 bx t cs ∧ AlikeK w w4 p1 g1 q1 p2 g2 q2 (k + 1) := by
  obtain ⟨I, J, c, d, ha, hbx, ⟨-, h0, h1, h2, h3⟩ | e⟩ := h
  · exact ha.puts hk hbx n hn64 v l hv A ⟨h0, h1⟩ h2 h3
  · omega

theorem Apps.mem {bx : Nat} {t : TypeId} {cs : Array Value} {A r : Int} (h : Apps w W p1 g1 q1 p2 g2 q2 k bx t cs A r) (hb : Below W.heap.size W W') : Apps w W' p1 g1 q1 p2 g2 q2 k bx t cs A r := by
  obtain ⟨I, J, c, d, ha, hbx, hor⟩ := h
  exact ⟨I, J, c, d, ha.mem hb, hbx.below hb, hor⟩

theorem Apps.next {bx : Nat} {t : TypeId} {cs : Array Value} {A r : Int} (h : Apps w W p1 g1 q1 p2 g2 q2 k bx t cs A r) : AlikeK w W p1 g1 q1 p2 g2 q2 (k + 1) ∧ (r = 0 ∨ r = 90) := by
  obtain ⟨I, J, c, d, ha, hbx, hor⟩ := h
  refine ⟨⟨I, J, c, d, ha.more (by omega)⟩, ?_⟩
  rcases hor with ⟨h, -⟩ | h
  · exact .inl h
  · exact .inr h

theorem Apps.blk {bx : Nat} {t : TypeId} {cs : Array Value} {A r : Int} (h : Apps w W p1 g1 q1 p2 g2 q2 k bx t cs A r) : Blk W bx t cs := by
  obtain ⟨I, J, c, d, ha, hbx, hor⟩ := h
  exact hbx.blk

/-- Both are asked for a page; what they hand out tells the same bytes. -/
theorem Alike.gets {bx : Nat} {t : TypeId} {cs : Array Value} (h : Alike w wr p1 g1 q1 p2 g2 q2 k I J c d) (hk : k ≤ 100) (hbx : Box wr I J bx t cs) (n : Int) (hn64 : I64 n) :
    Calls Tryz.prog 32 #[.pointer (some ⟨q1, 0, none⟩), .int .i64 n] wr fun e w1 => Blk w1 bx t cs ∧
      ((∃ y, e = .returned (.tuple #[.pointer (some ⟨y, 0, none⟩), .int .i64 0]) ∧
        Calls Tryz.prog 32 #[.pointer (some ⟨q2, 0, none⟩), .int .i64 n] w1 fun e w2 => ∃ z, e = .returned (.tuple #[.pointer (some ⟨z, 0, none⟩), .int .i64 0]) ∧
          Calls Tryz.prog 24 #[.pointer (some ⟨y, 0, none⟩)] w2 fun e w3 => ∃ b1, e = .returned (.slice (some ⟨b1, 0, none⟩) 512 512) ∧
            Calls Tryz.prog 24 #[.pointer (some ⟨z, 0, none⟩)] w3 fun e w4 => ∃ b2, e = .returned (.slice (some ⟨b2, 0, none⟩) 512 512) ∧
              Calls Tryz.prog 29 #[.slice (some ⟨b1, 0, none⟩) 512 512, .slice (some ⟨b2, 0, none⟩) 512 512] w4 fun e w5 => e = .returned (.bool true) ∧ AlikeK w w5 p1 g1 q1 p2 g2 q2 (k + 1)) ∨
       (e = .returned (.tuple #[.pointer none, .int .i64 1]) ∧
        Calls Tryz.prog 32 #[.pointer (some ⟨q2, 0, none⟩), .int .i64 n] w1 fun e w2 => e = .returned (.tuple #[.pointer none, .int .i64 1]) ∧ AlikeK w w2 p1 g1 q1 p2 g2 q2 (k + 1))) := by
  refine (h.get hk n hn64).mono ?_
  rintro e w1 ⟨c', hh, hm, ⟨N, pg, y, hn, hN, rfl, hy, hpo⟩ | ⟨hn, rfl⟩⟩
  · refine ⟨(hbx.turnA hm).blk, .inl ⟨y.p, rfl, ?_⟩⟩
    refine (hh.get hk n hn64 hn hN hy hpo).mono ?_
    rintro e w2 ⟨z, rfl, ⟨d', hal⟩, hy2, v, xs, hz2⟩
    refine ⟨z, rfl, ?_⟩
    refine (pageBytes_any w2 y.p 0 y.v y.xs pg hy2.at_ hy2.fit).mono ?_
    rintro e w3 ⟨b1, rfl, -, hbb1, hb3⟩
    refine ⟨b1, rfl, ?_⟩
    refine (pageBytes_any w3 z 0 v xs pg (hz2.at_.below hb3) hz2.fit).mono ?_
    rintro e w4 ⟨b2, rfl, -, hbb2, hb4⟩
    refine ⟨b2, rfl, ?_⟩
    have r1 : RB w4 w4.heap.size (.slice (some ⟨b1, 0, none⟩) 512 512) (pageL pg) := ((hbb1.row512 (pageL_len hy2.fit)).below hb4).more hb4.size
    have r2 : RB w4 w4.heap.size (.slice (some ⟨b2, 0, none⟩) 512 512) (pageL pg) := hbb2.row512 (pageL_len hy2.fit)
    refine (same_any _ _ (pageL pg) (pageL pg) w4 w4.heap.size r1 r2).mono ?_
    rw [show sameB (pageL pg) (pageL pg) = true by simp [sameB]]
    rintro e w5 ⟨rfl, q, rfl⟩
    exact ⟨rfl, _, _, _, _, hal.mem (below_drewN (hb3.trans (hb4.mono hb3.size)) q)⟩
  · refine ⟨(hbx.turnA hm).blk, .inr ⟨rfl, ?_⟩⟩
    refine (hh.get_no hk n hn64 hn).mono ?_
    rintro e w2 ⟨rfl, d', hal⟩
    exact ⟨rfl, _, _, _, _, hal⟩

/-- Both write what is dirty. -/
theorem Alike.flushs (h : Alike w wr p1 g1 q1 p2 g2 q2 k I J c d) (hk : k ≤ 100) :
    Calls Tryz.prog 25 #[.pointer (some ⟨q1, 0, none⟩)] wr fun e w1 => e = .returned (.int .i64 0) ∧
      Calls Tryz.prog 25 #[.pointer (some ⟨q2, 0, none⟩)] w1 fun e w2 => e = .returned (.int .i64 0) ∧ ∃ I J c d, Alike w w2 p1 g1 q1 p2 g2 q2 (k + 1) I J c d ∧ ∀ m, m < 8 → c.s.has (4 + m) = d.s.has (4 + m) := by
  refine (h.flush hk).mono ?_
  rintro e w1 ⟨rfl, c', hh, hA⟩
  refine ⟨rfl, ?_⟩
  refine (hh.flush hk).mono ?_
  rintro e w2 ⟨rfl, d', hal, hB⟩
  exact ⟨rfl, _, _, _, _, hal, fun m hm => (hA m hm).trans (hB m hm).symm⟩
end

/-- The bytes of the pages, of two disks that have the same. -/
theorem all_drop {s s' : DS} (h1 : s.safe.length = 12) (h2 : s'.safe.length = 12) (hn : ∀ i, i < 12 → (s.has i).length = 512) (hn' : ∀ i, i < 12 → (s'.has i).length = 512) (h : ∀ m, m < 8 → s.has (4 + m) = s'.has (4 + m)) : s.all.length = 6144 ∧ s'.all.length = 6144 ∧ s.all.drop 2048 = s'.all.drop 2048 := by
  have key : ∀ {t : DS}, t.safe.length = 12 → (∀ i, i < 12 → (t.has i).length = 512) → t.all.length = 6144 ∧ t.all.drop 2048 = (List.range 8).flatMap fun m => t.has (4 + m) := by
    intro t ht hh
    have e : t.all = (List.range 4).flatMap (fun i => t.has i) ++ (List.range 8).flatMap fun m => t.has (4 + m) := by
      unfold DS.all
      rw [ht]
      show (List.range 12).flatMap _ = _
      rw [show (12 : Nat) = 4 + 8 from rfl, List.range_add, List.flatMap_append, List.flatMap_map]
    have l1 : ((List.range 4).flatMap (fun i => t.has i)).length = 2048 := by
      rw [flatMap_len 4 (fun i hi => hh i (by omega))]
    have l2 : ((List.range 8).flatMap fun m => t.has (4 + m)).length = 4096 := by
      rw [flatMap_len 8 (fun i hi => hh (4 + i) (by omega))]
    refine ⟨by rw [e, List.length_append, l1, l2], ?_⟩
    rw [e, List.drop_append_of_le_length (by omega), List.drop_eq_nil_of_le (by omega), List.nil_append]
  obtain ⟨a1, a2⟩ := key h1 hn
  obtain ⟨b1, b2⟩ := key h2 hn'
  refine ⟨a1, b1, ?_⟩
  rw [a2, b2]
  rw [List.flatMap_def, List.flatMap_def, List.map_congr_left fun m hm => h m (List.mem_range.1 hm)]

/-- What both disks have behind it. -/
theorem Alike.alls {w W : World} {p1 g1 q1 p2 g2 q2 k : Nat} {I J : PI} {c d : CP} (h : Alike w W p1 g1 q1 p2 g2 q2 k I J c d) (hs : ∀ m, m < 8 → c.s.has (4 + m) = d.s.has (4 + m)) :
    Calls Tryz.prog 11 #[.pointer (some ⟨p1, 0, none⟩)] W fun e w1 => ∃ b n, e = .returned (.slice (some ⟨b, 0, none⟩) 6144 n) ∧ 6144 ≤ n ∧
      Calls Tryz.prog 11 #[.pointer (some ⟨p2, 0, none⟩)] w1 fun e w2 => ∃ b' n', e = .returned (.slice (some ⟨b', 0, none⟩) 6144 n') ∧ 6144 ≤ n' ∧
        Calls Tryz.prog 29 #[.slice (some ⟨b, 2048, none⟩) 4096 (n - 2048), .slice (some ⟨b', 2048, none⟩) 4096 (n' - 2048)] w2 fun e w3 => e = .returned (.bool true) ∧ Below w.heap.size w w3 := by
  obtain ⟨rfl, e1, e2⟩ := h.ia
  obtain ⟨rfl, e3, e4⟩ := h.ib
  have la := h.two.ga.len
  have lb := h.two.gb.len
  have oka := h.two.a.wal.dk.ok
  have okb := h.two.b.wal.dk.ok
  obtain ⟨h1, h2, h3⟩ := all_drop la lb (fun i hi => (oka.has (by omega)).1) (fun i hi => (okb.has (by omega)).1) hs
  refine (All_any W I.p I.sb I.mb I.pl c.s h.two.a.wal.dk).mono ?_
  rintro e w1 ⟨v1, rfl, ho1, hb1⟩
  obtain ⟨b, n, rfl, -, -, hn, -, -, -⟩ := ho1.form (by omega)
  rw [h1] at hn
  refine ⟨b, n, by rw [h1], hn, ?_⟩
  refine (All_any w1 J.p J.sb J.mb J.pl d.s (h.two.b.wal.dk.below hb1)).mono ?_
  rintro e w2 ⟨v2, rfl, ho2, hb2⟩
  obtain ⟨b', n', rfl, -, -, hn', -, -, -⟩ := ho2.form (by omega)
  rw [h2] at hn'
  refine ⟨b', n', by rw [h2], hn', ?_⟩
  have r1 := (((ho1.rbn).below hb2).more hb2.size).drop (k := 2048) (by omega)
  have r2 := (ho2.rbn).drop (k := 2048) (by omega)
  rw [← h3] at r2
  rw [h1] at r1
  rw [h2] at r2
  refine (same_any _ _ _ _ w2 w2.heap.size r1 r2).mono ?_
  rw [show sameB (c.s.all.drop 2048) (c.s.all.drop 2048) = true by simp [sameB]]
  rintro e w3 ⟨rfl, q, rfl⟩
  exact ⟨rfl, h.bel.trans ((hb1.trans ((hb2.trans ((below_drewN (Below.refl _ _) q).mono hb2.size)).mono hb1.size)).mono h.bel.size)⟩
end Go.Proofs.YtbagmmncjmbboaaGreat

/-
  The walk of CacheAlike.
-/
namespace Go.Proofs.YtbagmmncjmbboaaGreat
open Go.RowKit Go.Maps
set_option linter.unusedVariables false

set_option maxRecDepth 100000 in
set_option maxHeartbeats 16000000 in
theorem cacheAlike_walk (w : World) (fa fb : Int) (sv : Value) (os : List OpK) (hs : OpsK w sv os) :
    Calls Tryz.prog 7 #[.int .i64 fa, .int .i64 fb, sv] w fun e w' => e = .returned (.bool true) ∧ Below w.heap.size w w' := by
  obtain ⟨SA, sc, rfl, hs1, hs2, -, HC⟩ := hs.rk.open_
  obtain ⟨n, hn⟩ : ∃ n, n = os.length := ⟨_, rfl⟩
  rw [← hn] at hs1 ⊢
  have HROW := HC
  have HS := Lib.hid hs
  have HN := Lib.hid hn
  clear hs hn HC
  go_enter Tryz.func7, Tryz.ntmps7
  go_wp2_with fail
  refine (alive10_any w).mono ?_
  rintro e W0 ⟨rfl, hb0⟩
  have HB0 := Lib.hid hb0
  clear hb0
  go_wp2_with fail
  refine (made10_any W0 (.slice none 0 0) [] (RB.nil _ _) 8 (by simp) (by omega) fa (fun _ => False) (fun _ h => h.elim)).mono ?_
  rintro e W1 ⟨I, rfl, hp1, hI, -, hb1⟩
  have HP1 := Lib.hid hp1
  have HI := Lib.hid hI
  have HB1 := Lib.hid hb1
  clear hp1 hI hb1
  go_wp2_with fail
  refine (made10_any W1 (.slice none 0 0) [] (RB.nil _ _) 8 (by simp) (by omega) fb I.Core (fun k hk => HP1.out.lt k hk)).mono ?_
  rintro e W2 ⟨J, rfl, hp2, hJ, -, hb2⟩
  have HST : Hid (AlikeK w W2 I.p I.g I.q J.p J.g J.q 0) := Lib.hid ⟨_, _, _, _, alike_start w W1 W2 fa fb I J HP1.out (HB0.out.trans (HB1.out.mono HB0.out.size)) (fun k hk => Nat.le_trans HB0.out.size (HI.out k hk)) hp2 hb2 hJ⟩
  obtain ⟨p1, hp1⟩ : ∃ p1, p1 = I.p := ⟨_, rfl⟩
  obtain ⟨g1, hg1⟩ : ∃ g1, g1 = I.g := ⟨_, rfl⟩
  obtain ⟨q1, hq1⟩ : ∃ q1, q1 = I.q := ⟨_, rfl⟩
  obtain ⟨p2, hp2'⟩ : ∃ p2, p2 = J.p := ⟨_, rfl⟩
  obtain ⟨g2, hg2⟩ : ∃ g2, g2 = J.g := ⟨_, rfl⟩
  obtain ⟨q2, hq2⟩ : ∃ q2, q2 = J.q := ⟨_, rfl⟩
  rw [← hp1, ← hg1, ← hq1, ← hp2', ← hg2, ← hq2] at HST
  rw [← hp1, ← hg1, ← hq1, ← hp2', ← hg2, ← hq2]
  clear hp1 hg1 hq1 hp2' hg2 hq2 hp2 hJ hb2 HP1 HI HB1 HB0
  clear I J W0 W1
  go_wp2_with fail
  go_loopw [61] (fun i wr => ∃ k : Nat, k ≤ n ∧ k ≤ 61 ∧ i = .int .i64 (k : Int) ∧ Hid (AlikeK w wr p1 g1 q1 p2 g2 q2 k)) (fun i wr => n - (intOf i).toNat)
  case atStart => exact ⟨0, Nat.zero_le _, by omega, rfl, HST⟩
  case round =>
    clear HST
    obtain ⟨k, hk, hk61, rfl, HA⟩ := hrel
    by_cases hlt : k < n
    · have hkos : k < os.length := by rw [← HN.out]; exact hlt
      obtain ⟨x, hx⟩ : ∃ x, os[k]? = some x := ⟨_, List.getElem?_eq_getElem hkos⟩
      obtain ⟨I, J, c, d, hal⟩ := HA.out
      obtain ⟨rb, ro, rfl, hrb, hcells⟩ := HROW.out k hkos
      have hxx : os[k] = x := (List.getElem?_eq_some_iff.1 hx).2
      rw [hxx] at hcells
      have HX := Lib.hid (HS.out.at_ x (List.mem_of_getElem? hx))
      obtain ⟨r0, r1, r2, r3⟩ := cellK hcells
      have hrbw : rb < w.heap.size := hrb
      have hbe := hal.bel
      have d0 : wr.cell? ⟨rb, ro + k * 4, none⟩ = some (.int .i64 x.kind) := by rw [hbe.cell (p := ⟨rb, ro + k * 4, none⟩) hrbw]; exact r0
      have d1 : wr.cell? ⟨rb, ro + k * 4 + 1, none⟩ = some (.int .i64 x.n) := by rw [hbe.cell (p := ⟨rb, ro + k * 4 + 1, none⟩) hrbw]; exact r1
      have d2 : wr.cell? ⟨rb, ro + k * 4 + 2, none⟩ = some (.slice x.dA x.dn x.dc) := by rw [hbe.cell (p := ⟨rb, ro + k * 4 + 2, none⟩) hrbw]; exact r2
      have d3 : wr.cell? ⟨rb, ro + k * 4 + 3, none⟩ = some (.slice x.fA x.fn x.fc) := by rw [hbe.cell (p := ⟨rb, ro + k * 4 + 3, none⟩) hrbw]; exact r3
      have HAL := Lib.hid hal
      clear hx hxx hcells r0 r1 r2 r3 hrb hrbw hbe hal HA
      have HB0 : Hid (Below wr.heap.size wr (wr.alloc (.cells #[.int .i64 x.kind, .int .i64 x.n, .slice x.dA x.dn x.dc, .slice x.fA x.fn x.fc] 43))) := Lib.hid ((Below.refl _ _).alloc (Nat.le_refl _) _)
      have HAL0 := Lib.hid (HAL.out.mem HB0.out)
      by_cases hbrk : 60 < k
      · have e60 : decide (60 < (k : Int)) = true := decide_eq_true (by omega)
        have e60n : decide (60 < k) = true := decide_eq_true hbrk
        have HTL : Hid (AlikeK w (wr.alloc (.cells #[.int .i64 x.kind, .int .i64 x.n, .slice x.dA x.dn x.dc, .slice x.fA x.fn x.fc] 43)) p1 g1 q1 p2 g2 q2 k) := Lib.hid ⟨I, J, c, d, HAL0.out⟩
        clear HAL HAL0 HX
        go_wp2_with fail
        obtain ⟨It, Jt, ct, dt, halt⟩ := HTL.out
        have HAT := Lib.hid halt
        clear halt HTL
        refine (HAT.out.flushs (by omega)).mono ?_
        rintro e wf1 ⟨rfl, hc⟩
        have HC := Lib.hid hc
        clear hc
        go_wp2_with fail
        refine HC.out.mono ?_
        rintro e wf2 ⟨rfl, If, Jf, cf, df, hal2, hhas⟩
        have HC := Lib.hid ((hal2.mem (Below.refl _ wf2).drew).alls hhas)
        clear hal2 hhas
        go_wp2_with fail
        go_region_held3 (fun _ => True) (trivial) (first | (go_at_call 29; go_must (refine HC.out.mono ?_); rintro e wz ⟨rfl, hbz⟩; have HZ := Lib.hid hbz; clear hbz HC) | (go_at_call 11; go_must (refine HC.out.mono ?_); rintro e wz ⟨bz, nz, rfl, hnz, hc⟩; have hnz1 : ¬ nz = 2048 := (by omega); have HC := Lib.hid hc; clear hc))
        all_goals go_wp2_with fail
        all_goals go_ret
        all_goals exact ⟨rfl, HZ.out⟩
      · have e60 : decide (60 < (k : Int)) = false := decide_eq_false (by omega)
        have e60n : decide (60 < k) = false := decide_eq_false hbrk
        obtain ⟨kd, hkd⟩ : ∃ kd, kd = x.kind := ⟨_, rfl⟩
        have HBK : Hid (Blk (wr.alloc (.cells #[.int .i64 x.kind, .int .i64 x.n, .slice x.dA x.dn x.dc, .slice x.fA x.fn x.fc] 43)) wr.heap.size 43 #[.int .i64 x.kind, .int .i64 x.n, .slice x.dA x.dn x.dc, .slice x.fA x.fn x.fc]) := Lib.hid (Blk.new _ _ _)
        have HBX : Hid (Box (wr.alloc (.cells #[.int .i64 x.kind, .int .i64 x.n, .slice x.dA x.dn x.dc, .slice x.fA x.fn x.fc] 43)) I J wr.heap.size 43 #[.int .i64 x.kind, .int .i64 x.n, .slice x.dA x.dn x.dc, .slice x.fA x.fn x.fc]) := Lib.hid ⟨HBK.out, fun e => by have := HAL.out.two.a.lt _ e; omega, fun e => by have := HAL.out.two.b.lt _ e; omega⟩
        clear HBK
        rw [← hkd] at d0 HB0 HAL0 HBX
        clear hkd
        by_cases hk1 : kd = 1
        · subst hk1
          go_wp2_with fail
          refine (HAL0.out.gets (by omega) HBX.out x.n HX.out.n64).mono ?_
          rintro e W1 ⟨hbk, ⟨y, rfl, hc⟩ | ⟨rfl, hc⟩⟩
          · have o1 : W1.cell? ⟨wr.heap.size, 1, none⟩ = some (.int .i64 x.n) := hbk.cell 1
            have HC := Lib.hid hc
            clear hbk hc
            go_wp2_with fail
            refine HC.out.mono ?_
            rintro e W2 ⟨z, rfl, hc⟩
            have HC := Lib.hid hc
            clear hc
            go_wp2_with fail
            refine HC.out.mono ?_
            rintro e W3 ⟨b1, rfl, hc⟩
            have HC := Lib.hid hc
            clear hc
            go_wp2_with fail
            refine HC.out.mono ?_
            rintro e W4 ⟨b2, rfl, hc⟩
            have HC := Lib.hid hc
            clear hc
            go_wp2_with fail
            refine HC.out.mono ?_
            rintro e W5 ⟨rfl, hfin⟩
            have HFIN := Lib.hid hfin
            clear hfin HC
            go_wp2_with fail
            go_roundw
            case rel => exact ⟨k + 1, by omega, by omega, by go_num, HFIN⟩
            case measure => simp [intOf]; omega
          · have o1 : W1.cell? ⟨wr.heap.size, 1, none⟩ = some (.int .i64 x.n) := hbk.cell 1
            have HC := Lib.hid hc
            clear hbk hc
            go_wp2_with fail
            refine HC.out.mono ?_
            rintro e W2 ⟨rfl, hfin⟩
            have HFIN := Lib.hid hfin
            clear hfin HC
            go_wp2_with fail
            go_roundw
            case rel => exact ⟨k + 1, by omega, by omega, by go_num, HFIN⟩
            case measure => simp [intOf]; omega
        · by_cases hk2 : kd = 2
          · subst hk2
            go_wp2_with fail
            refine (HAL0.out.app HBX.out).mono ?_
            rintro e W1 ⟨A, r, rfl, hc⟩
            have HC := Lib.hid hc
            clear hc
            go_wp2_with fail
            refine HC.out.mono ?_
            rintro e W2 ⟨rfl, hap⟩
            have HAP := Lib.hid hap
            have hbk := hap.blk
            have o1 : W2.cell? ⟨wr.heap.size, 1, none⟩ = some (.int .i64 x.n) := hbk.cell 1
            have o2 : W2.cell? ⟨wr.heap.size, 2, none⟩ = some (.slice x.dA x.dn x.dc) := hbk.cell 2
            have HBK2 := Lib.hid hbk
            clear hbk HC
            rcases hap.next.2 with hr | hr
            · have HC := Lib.hid ((hap.mem (Below.refl _ W2).drew).puts hr (by omega) x.n HX.out.n64 _ x.item HX.out.item)
              have hr1 : (r == 0) = true := by rw [hr]; rfl
              have hr2 : (r != r) = false := by simp
              have ha2 : (A != A) = false := by simp
              have hbk2 := HBK2.out.below (Below.refl _ W2).drew HBK2.out.lt
              have HCL : Hid (W2.drew.cell? ⟨wr.heap.size, 1, none⟩ = some (.int .i64 x.n) ∧ W2.drew.cell? ⟨wr.heap.size, 2, none⟩ = some (.slice x.dA x.dn x.dc)) := Lib.hid ⟨hbk2.cell 1, hbk2.cell 2⟩
              have HE := Lib.hid hr
              clear hap hr hbk2
              obtain ⟨pe, hpe⟩ : ∃ pe, pe = putE x.n := ⟨_, rfl⟩
              rw [← hpe] at HC
              clear hpe
              have hp2 : (pe != pe) = false := by simp
              go_wp2_with fail
              go_region_held3 (fun wx => wx.cell? ⟨wr.heap.size, 1, none⟩ = some (.int .i64 x.n) ∧ wx.cell? ⟨wr.heap.size, 2, none⟩ = some (.slice x.dA x.dn x.dc)) (with_reducible exact HCL.out)
                (first | (go_at_call 21; go_must (refine HC.out.mono ?_); rintro e wz ⟨yz, rfl, hbz, hc⟩; have HCL : Hid (wz.cell? ⟨wr.heap.size, 1, none⟩ = some (.int .i64 x.n) ∧ wz.cell? ⟨wr.heap.size, 2, none⟩ = some (.slice x.dA x.dn x.dc)) := Lib.hid ⟨hbz.cell 1, hbz.cell 2⟩; have HC := Lib.hid hc; clear hbz hc) | (go_at_call 22; go_must (refine HC.out.mono ?_); rintro e wz ⟨rfl, hbz, hc⟩; have HCL : Hid (wz.cell? ⟨wr.heap.size, 1, none⟩ = some (.int .i64 x.n) ∧ wz.cell? ⟨wr.heap.size, 2, none⟩ = some (.slice x.dA x.dn x.dc)) := Lib.hid ⟨hbz.cell 1, hbz.cell 2⟩; have HC := Lib.hid hc; clear hbz hc))
              all_goals go_wp2_with fail
              all_goals have HFIN : Hid (AlikeK w _ p1 g1 q1 p2 g2 q2 (k + 1)) := HC
              all_goals go_roundw
              all_goals first | exact ⟨k + 1, by omega, by omega, by go_num, HFIN⟩ | (simp [intOf]; omega)
            · have HFQ : Hid (∀ q, AlikeK w (W2.drewN q) p1 g1 q1 p2 g2 q2 (k + 1)) := Lib.hid (fun q => (hap.mem (below_drewN (Below.refl _ W2) q)).next.1)
              have hr1 : (r == 0) = false := by rw [hr]; rfl
              have hr2 : (r != r) = false := by simp
              have ha2 : (A != A) = false := by simp
              clear hap hr
              go_wp2_with fail
              go_quiet (fail)
              go_wp2_with fail
              go_roundw
              case rel => exact ⟨k + 1, by omega, by omega, by go_num, Lib.hid (HFQ.out _)⟩
              case measure => simp [intOf]; omega
          · by_cases hk5 : kd = 5
            · subst hk5
              go_wp2_with fail
              refine (HAL0.out.flushs (by omega)).mono ?_
              rintro e W1 ⟨rfl, hc⟩
              have HC := Lib.hid hc
              clear hc
              go_wp2_with fail
              refine HC.out.mono ?_
              rintro e W2 ⟨rfl, I2, J2, c2, d2, hal2, -⟩
              have HFIN : Hid (AlikeK w W2 p1 g1 q1 p2 g2 q2 (k + 1)) := Lib.hid ⟨I2, J2, c2, d2, hal2⟩
              clear hal2 HC
              go_wp2_with fail
              go_roundw
              case rel => exact ⟨k + 1, by omega, by omega, by go_num, HFIN⟩
              case measure => simp [intOf]; omega
            ·
              have h1 : (kd == 1) = false := by simpa using hk1
              have h2 : (kd == 2) = false := by simpa using hk2
              have h5 : (kd == 5) = false := by simpa using hk5
              have HFIN : Hid (AlikeK w (wr.alloc (.cells #[.int .i64 kd, .int .i64 x.n, .slice x.dA x.dn x.dc, .slice x.fA x.fn x.fc] 43)) p1 g1 q1 p2 g2 q2 (k + 1)) := Lib.hid ⟨I, J, c, d, HAL0.out.more (by omega)⟩
              clear hk1 hk2 hk5
              go_wp2_with fail
              go_roundw
              case rel => exact ⟨k + 1, by omega, by omega, by go_num, HFIN⟩
              case measure => simp [intOf]; omega
    · obtain rfl : k = n := by omega
      have HTL : Hid (AlikeK w wr p1 g1 q1 p2 g2 q2 k) := HA
      clear HA
      go_wp2_with fail
      obtain ⟨It, Jt, ct, dt, halt⟩ := HTL.out
      have HAT := Lib.hid halt
      clear halt HTL
      refine (HAT.out.flushs (by omega)).mono ?_
      rintro e wf1 ⟨rfl, hc⟩
      have HC := Lib.hid hc
      clear hc
      go_wp2_with fail
      refine HC.out.mono ?_
      rintro e wf2 ⟨rfl, If, Jf, cf, df, hal2, hhas⟩
      have HC := Lib.hid ((hal2.mem (Below.refl _ wf2).drew).alls hhas)
      clear hal2 hhas
      go_wp2_with fail
      go_region_held3 (fun _ => True) (trivial) (first | (go_at_call 29; go_must (refine HC.out.mono ?_); rintro e wz ⟨rfl, hbz⟩; have HZ := Lib.hid hbz; clear hbz HC) | (go_at_call 11; go_must (refine HC.out.mono ?_); rintro e wz ⟨bz, nz, rfl, hnz, hc⟩; have hnz1 : ¬ nz = 2048 := (by omega); have HC := Lib.hid hc; clear hc))
      all_goals go_wp2_with fail
      all_goals go_ret
      all_goals exact ⟨rfl, HZ.out⟩
end Go.Proofs.YtbagmmncjmbboaaGreat
