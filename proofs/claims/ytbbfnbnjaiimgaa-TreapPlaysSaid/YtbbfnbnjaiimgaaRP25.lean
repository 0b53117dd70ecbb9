/-
  One rope, or two, in a law: a rope's blocks are new, all other rows stay.
-/
import Derived.Test.YtbbfnbnjaiimgaaRP24
namespace Go.Proofs.Ytbbfnbnjaiimgaa
open Go.RowKit
set_option linter.unusedVariables false

section

variable {B : Nat} {Q : Nat → Prop} {w w' : World} {g : Nat} {S S' : Nat → Prop} {M M' : RM SV}

/-- A rope's own blocks are its struct and its nodes. -/
theorem Rp.types (h : Rp w g S M) {k : Nat} (hk : S k) : ∃ cs t fr, w.heap[k]? = some (Obj.cells cs t fr) ∧ (t = 94 ∨ t = 108) := by
  obtain ⟨B, sv, nb, cap, N, ss, h1, h2⟩ := h
  rcases (h2 k).2 hk with rfl | rfl
  · exact ⟨_, _, _, h1.mem.blk, .inl rfl⟩
  · rcases h1.mem.nodes.2.2 with ⟨e, _⟩ | ⟨q, c, cur, e, _, hh, _⟩
    · cases e
    · injection e with e
      injection e with e
      injection e with e
      subst e
      exact ⟨_, _, _, hh, .inr rfl⟩

/-- What lies below B stays, and the blocks of Q, and so do all rows and structs but ropes and nodes. -/
structure TameR (B : Nat) (Q : Nat → Prop) (w w' : World) : Prop where
  below : Below B w w'
  size : w.heap.size ≤ w'.heap.size
  rows : ∀ (k : Nat) (cs : Array Value) (t : TypeId) (fr : Nat × Nat), w.heap[k]? = some (Obj.cells cs t fr) → t ≠ 94 → t ≠ 108 → w'.heap[k]? = some (Obj.cells cs t fr)
  kept : ∀ k, Q k → k < w.heap.size → w'.heap[k]? = w.heap[k]?

theorem TameR.refl (B : Nat) (Q : Nat → Prop) (w : World) : TameR B Q w w := ⟨Below.refl _ _, Nat.le_refl _, fun _ _ _ _ h _ _ => h, fun _ _ _ => rfl⟩

theorem TameR.trans {w1 : World} (h : TameR B Q w w1) (h' : TameR B Q w1 w') : TameR B Q w w' :=
  ⟨h.below.trans h'.below, Nat.le_trans h.size h'.size, fun k cs t fr hb h1 h2 => h'.rows k cs t fr (h.rows k cs t fr hb h1 h2) h1 h2, fun k hq hk => (h'.kept k hq (Nat.lt_of_lt_of_le hk h.size)).trans (h.kept k hq hk)⟩

theorem TameR.of_below (h : Below w.heap.size w w') (hB : B ≤ w.heap.size) : TameR B Q w w' :=
  ⟨h.mono hB, h.size, fun k cs t fr hb _ _ => (h.block k (Array.getElem?_eq_some_iff.1 hb).1).trans hb, fun k _ hk => h.block k hk⟩

theorem TameR.of_mod (h : Rp w g S M) (hS : ∀ k, S k → B ≤ k) (hQ : ∀ k, S k → ¬ Q k) (hB : B ≤ w.heap.size) (hm : Mod S w w') : TameR B Q w w' :=
  ⟨hm.below hB hS, hm.size, fun k cs t fr hb h1 h2 => (hm.block k (Array.getElem?_eq_some_iff.1 hb).1 (fun hk => by
    obtain ⟨cs', t', fr', e, ht⟩ := h.types hk
    rw [hb] at e
    injection e with e
    injection e with e3 e4 e5
    subst e4
    rcases ht with rfl | rfl
    · exact h1 rfl
    · exact h2 rfl)).trans hb, fun k hq hk => hm.block k hk (fun hs => hQ k hs hq)⟩

theorem TameR.row {α : Type} {enc : α → List Value} {k E : Nat} {B' : Nat} {v : Value} {xs : List α} (h : TameR B Q w w') (h1 : E ≠ 94) (h2 : E ≠ 108) (ho : OK enc k E w B' v xs) : OK enc k E w' B' v xs := by
  refine ⟨ho.1, ho.2.1, ?_⟩
  rcases ho.2.2 with h4 | ⟨q, cap, cur, hv, hg, hb, r⟩
  · exact .inl h4
  · exact .inr ⟨q, cap, cur, hv, hg, h.rows _ _ _ _ hb h1 h2, r⟩

theorem TameR.blk {q : Nat} {t : TypeId} {cs : Array Value} (h : TameR B Q w w') (h1 : t ≠ 94) (h2 : t ≠ 108) (hb : Blk w q t cs) : Blk w' q t cs := h.rows _ _ _ _ hb h1 h2

/-- A rope beside another one that turns. -/
theorem Rp.mod {g2 : Nat} {M2 : RM SV} (h : Rp w g S M) (h' : Rp w g2 S' M2) (hm : Mod S' w w') (hd : ∀ k, S k → ¬ S' k) : Rp w' g S M := by
  obtain ⟨B, sv, nb, cap, N, ss, h1, h2⟩ := h
  have hg : ¬ S' g := hd g ((h2 g).1 (.inl rfl))
  have hn : ¬ S' nb := hd nb ((h2 nb).1 (.inr rfl))
  have hblk : Blk w' g _ _ := (hm.block g h1.mem.blk.lt hg).trans h1.mem.blk
  refine ⟨B, sv, nb, cap, N, ss, ⟨⟨hblk, h1.mem.nodes.1, h1.mem.nodes.2.1, ?_⟩, h1.ok, h1.few, ?_, h1.small⟩, h2⟩
  · rcases h1.mem.nodes.2.2 with ⟨e, _⟩ | ⟨q, c, cur, e, hq, hh, r⟩
    · cases e
    · refine .inr ⟨q, c, cur, e, hq, ?_, r⟩
      injection e with e
      injection e with e
      injection e with e
      subst e
      exact (hm.block nb h1.mem.lt.2 hn).trans hh
  · rcases h1.seeds with h | h
    · exact .inl h
    · refine .inr ⟨h.1, h.2.1, ?_⟩
      rcases h.2.2 with h3 | ⟨q, c, cur, e, hq, hh, r⟩
      · exact .inl h3
      · refine .inr ⟨q, c, cur, e, hq, ?_, r⟩
        refine (hm.block q (Array.getElem?_eq_some_iff.1 hh).1 fun hk => ?_).trans hh
        obtain ⟨cs', t', fr', e2, ht⟩ := h'.types hk
        rw [hh] at e2
        injection e2 with e2
        injection e2 with e3 e4 e5
        rcases ht with ht | ht <;> rw [ht] at e4 <;> revert e4 <;> decide

/-- A rope whose blocks are all from B on. -/
def RpB (B : Nat) (Q : Nat → Prop) (w : World) (g : Nat) (M : RM SV) : Prop := ∃ S, Rp w g S M ∧ (∀ k, S k → B ≤ k ∧ ¬ Q k) ∧ ∀ k, Q k → k < w.heap.size

theorem RpB.ok (h : RpB B Q w g M) : M.Ok := by obtain ⟨S, h1, _⟩ := h; exact h1.ok

theorem RpB.few (h : RpB B Q w g M) : M.own.length ≤ 65536 := by obtain ⟨S, h1, _⟩ := h; exact h1.few

theorem RpB.below (h : RpB B Q w g M) (hb : Below w.heap.size w w') : RpB B Q w' g M := by
  obtain ⟨S, h1, h2, h3⟩ := h
  exact ⟨S, h1.below hb, h2, fun k hk => Nat.lt_of_lt_of_le (h3 k hk) hb.size⟩

theorem turn_b (h : Rp w g S M) (hS : (∀ k, S k → B ≤ k ∧ ¬ Q k) ∧ ∀ k, Q k → k < w.heap.size) (hB : B ≤ w.heap.size) (ht : Turn w g S M' w') : RpB B Q w' g M' ∧ TameR B Q w w' := by
  obtain ⟨S', h1, h2, h3⟩ := ht
  refine ⟨⟨S', h1, fun k hk => ?_, fun k hk => Nat.lt_of_lt_of_le (hS.2 k hk) h2.size⟩, TameR.of_mod h (fun k hk => (hS.1 k hk).1) (fun k hk => (hS.1 k hk).2) hB h2⟩
  rcases h3 k hk with h4 | h4
  · exact hS.1 k h4
  · exact ⟨by omega, fun hq => by have := hS.2 k hq; omega⟩

/-- A rope whose blocks are kept. -/
theorem Rp.kept (h : Rp w g S M) (ht : TameR B Q w w') (hq : ∀ k, S k → Q k) : Rp w' g S M := by
  obtain ⟨B', sv, nb, cap, N, ss, h1, h2⟩ := h
  have hblk : Blk w' g _ _ := (ht.kept g (hq g ((h2 g).1 (.inl rfl))) h1.mem.blk.lt).trans h1.mem.blk
  refine ⟨B', sv, nb, cap, N, ss, ⟨⟨hblk, h1.mem.nodes.1, h1.mem.nodes.2.1, ?_⟩, h1.ok, h1.few, ?_, h1.small⟩, h2⟩
  · rcases h1.mem.nodes.2.2 with ⟨e, _⟩ | ⟨q, c, cur, e, hq', hh, r⟩
    · cases e
    · refine .inr ⟨q, c, cur, e, hq', ?_, r⟩
      injection e with e
      injection e with e
      injection e with e
      subst e
      exact (ht.kept nb (hq nb ((h2 nb).1 (.inr rfl))) h1.mem.lt.2).trans hh
  · rcases h1.seeds with h | h
    · exact .inl h
    · exact .inr (ht.row (by decide) (by decide) h)

end

theorem bNew (w : World) (v : Value) (ss : List Int) (hv : RI w w.heap.size v ss) (Q : Nat → Prop) (hq : ∀ k, Q k → k < w.heap.size) :
    Calls Try.prog 13 #[v] w fun e w' => ∃ g, e = .returned (.pointer (some ⟨g, 0, none⟩)) ∧ RpB w.heap.size Q w' g RM.new ∧ Below w.heap.size w w' := by
  refine (rNew w v ss hv).mono ?_
  rintro e w' ⟨g, S, rfl, h1, h2, h3⟩
  exact ⟨g, rfl, ⟨S, h1, fun k hk => ⟨h2 k hk, fun hq' => by have := hq k hq'; have := h2 k hk; omega⟩, fun k hk => Nat.lt_of_lt_of_le (hq k hk) h3.size⟩, h3⟩

theorem bMake (B : Nat) (Q : Nat → Prop) (w : World) (g : Nat) (M : RM SV) (h : RpB B Q w g M) (hB : B ≤ w.heap.size) (v : SV) :
    Calls Try.prog 59 #[.pointer (some ⟨g, 0, none⟩), v.v] w fun e w' => e = .returned (.tuple #[.int .i64 M.makeN, .int .i64 M.makeE]) ∧ RpB B Q w' g (M.makeA v) ∧ TameR B Q w w' := by
  obtain ⟨S, h1, h2⟩ := h
  refine (rMake w g S M h1 v).mono ?_
  rintro e w' ⟨rfl, ht⟩
  exact ⟨rfl, turn_b h1 h2 hB ht⟩

theorem bSet (B : Nat) (Q : Nat → Prop) (w : World) (g : Nat) (M : RM SV) (h : RpB B Q w g M) (hB : B ≤ w.heap.size) (a : Int) (v : SV) :
    Calls Try.prog 30 #[.pointer (some ⟨g, 0, none⟩), .int .i64 a, v.v] w fun e w' => e = .returned (.int .i64 (M.errA a)) ∧ RpB B Q w' g (M.setA a v) ∧ TameR B Q w w' := by
  obtain ⟨S, h1, h2⟩ := h
  refine (rSet w g S M h1 a v).mono ?_
  rintro e w' ⟨rfl, ht⟩
  exact ⟨rfl, turn_b h1 h2 hB ht⟩

theorem bJoin (B : Nat) (Q : Nat → Prop) (w : World) (g : Nat) (M : RM SV) (h : RpB B Q w g M) (hB : B ≤ w.heap.size) (a b : Int) :
    Calls Try.prog 25 #[.pointer (some ⟨g, 0, none⟩), .int .i64 a, .int .i64 b] w fun e w' => e = .returned (.int .i64 (M.joinE a b)) ∧ RpB B Q w' g (M.joinA a b) ∧ TameR B Q w w' := by
  obtain ⟨S, h1, h2⟩ := h
  refine (rJoin w g S M h1 a b).mono ?_
  rintro e w' ⟨rfl, ht⟩
  exact ⟨rfl, turn_b h1 h2 hB ht⟩

theorem bCut (B : Nat) (Q : Nat → Prop) (w : World) (g : Nat) (M : RM SV) (h : RpB B Q w g M) (hB : B ≤ w.heap.size) (a : Int) :
    Calls Try.prog 22 #[.pointer (some ⟨g, 0, none⟩), .int .i64 a] w fun e w' => e = .returned (.int .i64 (M.errA a)) ∧ RpB B Q w' g (M.cutA a) ∧ TameR B Q w w' := by
  obtain ⟨S, h1, h2⟩ := h
  refine (rCut w g S M h1 a).mono ?_
  rintro e w' ⟨rfl, ht⟩
  exact ⟨rfl, turn_b h1 h2 hB ht⟩

theorem bSame (B : Nat) (Q : Nat → Prop) (w : World) (g : Nat) (M : RM SV) (h : RpB B Q w g M) (a b : Int) :
    Calls Try.prog 26 #[.pointer (some ⟨g, 0, none⟩), .int .i64 a, .int .i64 b] w fun e w' => e = .returned (.tuple #[.bool (M.sameA a b), .int .i64 (M.errAB a b)]) ∧ w' = w := by
  obtain ⟨S, h1, h2⟩ := h
  exact rSame w g S M h1 a b

theorem bIndex (B : Nat) (Q : Nat → Prop) (w : World) (g : Nat) (M : RM SV) (h : RpB B Q w g M) (a : Int) :
    Calls Try.prog 23 #[.pointer (some ⟨g, 0, none⟩), .int .i64 a] w fun e w' => e = .returned (.tuple #[.int .i64 (M.indexA a), .int .i64 (M.errA a)]) ∧ Below w.heap.size w w' := by
  obtain ⟨S, h1, h2⟩ := h
  exact rIndex w g S M h1 a

theorem bList (B : Nat) (Q : Nat → Prop) (w : World) (g : Nat) (M : RM SV) (h : RpB B Q w g M) (a : Int) :
    Calls Try.prog 17 #[.pointer (some ⟨g, 0, none⟩), .int .i64 a] w fun e w' => ∃ v, e = .returned (.tuple #[v, .int .i64 (M.errA a)]) ∧ OK encI 1 3 w' w.heap.size v ((M.rowA a).map natI) ∧ Below w.heap.size w w' := by
  obtain ⟨S, h1, h2⟩ := h
  exact rList w g S M h1 a

theorem bAll (B : Nat) (Q : Nat → Prop) (w : World) (g : Nat) (M : RM SV) (h : RpB B Q w g M) (a : Int) :
    Calls Try.prog 18 #[.pointer (some ⟨g, 0, none⟩), .int .i64 a] w fun e w' => e = .returned (.tuple #[(M.allA a).v, .int .i64 (M.errA a)]) ∧ Below w.heap.size w w' := by
  obtain ⟨S, h1, h2⟩ := h
  exact rAll w g S M h1 a

theorem bSize (B : Nat) (Q : Nat → Prop) (w : World) (g : Nat) (M : RM SV) (h : RpB B Q w g M) (a : Int) :
    Calls Try.prog 27 #[.pointer (some ⟨g, 0, none⟩), .int .i64 a] w fun e w' => e = .returned (.tuple #[.int .i64 ((M.rowA a).length : Nat), .int .i64 (M.errA a)]) ∧ Below w.heap.size w w' := by
  obtain ⟨S, h1, h2⟩ := h
  exact rSize w g S M h1 a

theorem bValue (B : Nat) (Q : Nat → Prop) (w : World) (g : Nat) (M : RM SV) (h : RpB B Q w g M) (a : Int) :
    Calls Try.prog 28 #[.pointer (some ⟨g, 0, none⟩), .int .i64 a] w fun e w' => e = .returned (.tuple #[(M.valA a).v, .int .i64 (M.errA a)]) ∧ Below w.heap.size w w' := by
  obtain ⟨S, h1, h2⟩ := h
  exact rValue w g S M h1 a

theorem bSeek (B : Nat) (Q : Nat → Prop) (w : World) (g : Nat) (M : RM SV) (h : RpB B Q w g M) (hf : M.Fit) (a : Int) :
    Calls Try.prog 19 #[.pointer (some ⟨g, 0, none⟩), .int .i64 a, markedV] w fun e w' => e = .returned (.tuple #[.int .i64 (M.seekA a), .int .i64 (M.errA a)]) ∧ Below w.heap.size w w' := by
  obtain ⟨S, h1, h2⟩ := h
  exact rSeek w g S M h1 hf a

end Go.Proofs.Ytbbfnbnjaiimgaa
