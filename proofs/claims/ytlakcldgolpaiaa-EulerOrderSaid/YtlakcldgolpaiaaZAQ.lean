/-
  skeinref01's SameInts at equal rows (the law of MV16, for any seat).
-/
import Derived.Deep.QuietTactic
import Derived.BigQuiet
import Derived.IntWalk
import Derived.Deep.RegionLaw
import Derived.Test.YtlakcldgolpaiaaAP
import Derived.Test.YtlakcldgolpaiaaZEC16
import Derived.Test.YtlakcldgolpaiaaZEC10
namespace Go.Proofs.Ytlakcldgolpaiaa
open Go.RowKit
set_option linter.unusedVariables false

set_option maxRecDepth 100000 in
set_option maxHeartbeats 2000000 in
theorem SameInts_yes (v v2 : Value) (V : List Int) (w : World) (B B2 : Nat) (hv : RI w B v V) (hv2 : RI w B2 v2 V) :
    Calls Try.prog 19 #[v, v2] w fun e w' => e = .returned (.bool true) ∧ ∃ q, w' = w.drewN q := by
  obtain ⟨A, c, rfl, hc1, hc2, hc3, HC⟩ := hv.open_
  obtain ⟨A2, c2, rfl, hd1, hd2, hd3, HD⟩ := hv2.open_
  clear hv hv2
  obtain ⟨n, hn⟩ : ∃ n, n = V.length := ⟨_, rfl⟩
  rw [← hn] at hc1 hc3 hd1 hd3 ⊢
  have HN := Lib.hid hn
  clear hn
  go_enter Try.func19, Try.ntmps19
  go_wp2
  go_loopw [5] (fun i wr => ∃ (k q : Nat), k ≤ n ∧ i = .int .i64 k ∧ wr = w.drewN q) (fun i wr => n - (intOf i).toNat)
  case atStart => exact ⟨0, 0, Nat.zero_le _, rfl, rfl⟩
  case round =>
    obtain ⟨k, q, hk, rfl, rfl⟩ := hrel
    by_cases hlt : k < n
    · obtain ⟨b, o, rfl, hb, hx⟩ := HC.out k (by have := HN.out; omega)
      obtain ⟨b2, o2, rfl, hb2, hx2⟩ := HD.out k (by have := HN.out; omega)
      obtain ⟨y, hy⟩ : ∃ y, y = V[k]'(by have := HN.out; omega) := ⟨_, rfl⟩
      rw [← hy] at hx hx2
      have hx := cellI hx
      have hx2 := cellI hx2
      have hx : (w.drewN q).cell? ⟨b, o + k, none⟩ = some (.int .i64 y) := hx
      have hx2 : (w.drewN q).cell? ⟨b2, o2 + k, none⟩ = some (.int .i64 y) := hx2
      clear hy
      obtain ⟨wr, hwr⟩ : ∃ wr, wr = w.drewN q := ⟨_, rfl⟩
      rw [← hwr] at hx hx2 ⊢
      have HWr := Lib.hid hwr
      clear hwr
      go_wp2_with fail
      go_quiet (fail)
      go_wp2_with fail
      go_roundw
      case rel => exact ⟨k + 1, _, by omega, by go_num, by rw [HWr.out, World.drewN_drewN]⟩
      case measure => simp [intOf]; omega
    · obtain rfl : k = n := by omega
      go_wp2
      go_ret
      exact ⟨rfl, q, rfl⟩

end Go.Proofs.Ytlakcldgolpaiaa

/-
  One forest, or two, in a law: a forest's blocks are new, all other blocks stay; one contract for each call.
-/
namespace Go.Proofs.Ytlakcldgolpaiaa
open Go.RowKit Go.Maps
set_option linter.unusedVariables false

/-- A type that none of a forest's blocks has. -/
def NotF (t : TypeId) : Prop := t ≠ 73 ∧ t ≠ 115 ∧ t ≠ 112 ∧ t ≠ 85 ∧ t ≠ 3 ∧ t ≠ 95

section

variable {B : Nat} {Q : Nat → Prop} {w w' : World} {f : Nat} {S S' : Nat → Prop} {F F' : FS}

theorem FM.types {M : RM SV} {pv : Int → Option Nat} {pe : Int → Option (Nat × Nat)} {who : List Tok} {free : List Nat} (h : FM w f S M pv pe who free) {k : Nat} (hk : S k) {cs : Array Value} {t : TypeId} {fr : Nat × Nat} (hb : w.heap[k]? = some (Obj.cells cs t fr)) : ¬ NotF t := by
  obtain ⟨g, bv, be, whoV, S0, hX, hS⟩ := h
  rintro ⟨n1, n2, n3, n4, n5, n6⟩
  rcases (hS k).2 hk with rfl | hk | rfl | rfl | hk
  · have := hX.at_.blk
    unfold Blk at this
    rw [this] at hb
    injection hb with hb
    injection hb with _ hb _
    exact n1 hb.symm
  · obtain ⟨cs', t', fr', e, ht⟩ := hX.at_.rope.types4 hk
    rw [e] at hb
    injection hb with hb
    injection hb with _ hb _
    rcases ht with ht | ht | ht | ht
    · exact n6 (hb.symm.trans ht)
    · exact n2 (hb.symm.trans ht)
    · exact n3 (hb.symm.trans ht)
    · exact n5 (hb.symm.trans ht)
  · obtain ⟨D, ⟨es, clock, h1, _⟩, _⟩ := hX.at_.verts
    rw [h1] at hb; cases hb
  · obtain ⟨D, ⟨es, clock, h1, _⟩, _⟩ := hX.at_.edges
    rw [h1] at hb; cases hb
  · obtain ⟨cs', e⟩ := hX.at_.who.blk hk
    unfold Blk at e
    rw [e] at hb
    injection hb with hb
    injection hb with _ hb _
    exact n4 hb.symm

/-- What lies below B stays, and the blocks of Q, and so do all blocks of a type that forests don't have. -/
structure TameF (B : Nat) (Q : Nat → Prop) (w w' : World) : Prop where
  below : Below B w w'
  size : w.heap.size ≤ w'.heap.size
  rows : ∀ (k : Nat) (cs : Array Value) (t : TypeId) (fr : Nat × Nat), w.heap[k]? = some (Obj.cells cs t fr) → NotF t → w'.heap[k]? = some (Obj.cells cs t fr)
  kept : ∀ k, Q k → k < w.heap.size → w'.heap[k]? = w.heap[k]?

theorem TameF.refl (B : Nat) (Q : Nat → Prop) (w : World) : TameF B Q w w := ⟨Below.refl _ _, Nat.le_refl _, fun _ _ _ _ h _ => h, fun _ _ _ => rfl⟩

theorem TameF.trans {w1 : World} (h : TameF B Q w w1) (h' : TameF B Q w1 w') : TameF B Q w w' :=
  ⟨h.below.trans h'.below, Nat.le_trans h.size h'.size, fun k cs t fr hb h1 => h'.rows k cs t fr (h.rows k cs t fr hb h1) h1, fun k hq hk => (h'.kept k hq (Nat.lt_of_lt_of_le hk h.size)).trans (h.kept k hq hk)⟩

theorem TameF.of_below (h : Below w.heap.size w w') (hB : B ≤ w.heap.size) : TameF B Q w w' :=
  ⟨h.mono hB, h.size, fun k cs t fr hb _ => (h.block k (Array.getElem?_eq_some_iff.1 hb).1).trans hb, fun k _ hk => h.block k hk⟩

theorem TameF.weak {Q' : Nat → Prop} (h : TameF B Q w w') (hq : ∀ k, Q' k → Q k) : TameF B Q' w w' := ⟨h.below, h.size, h.rows, fun k hk => h.kept k (hq k hk)⟩

theorem TameF.blk {q : Nat} {t : TypeId} {cs : Array Value} (h : TameF B Q w w') (hb : Blk w q t cs) (hn : NotF t) : Blk w' q t cs := h.rows _ _ _ _ hb hn

theorem TameF.row {α : Type} {enc : α → List Value} {k E B' : Nat} {v : Value} {xs : List α} (h : TameF B Q w w') (ho : OK enc k E w B' v xs) (hq : ∀ b, v.ownBlock = some b → Q b) : OK enc k E w' B' v xs :=
  ho.same fun b hb => h.kept b (hq b hb) (ho.lt b hb).2

theorem TameF.rowN {α : Type} {enc : α → List Value} {k E B' : Nat} {v : Value} {xs : List α} (h : TameF B Q w w') (ho : OK enc k E w B' v xs) (hn : NotF E) : OK enc k E w' B' v xs := by
  refine ⟨ho.1, ho.2.1, ?_⟩
  rcases ho.2.2 with h4 | ⟨q, cap, cur, hv, hg, hb, r⟩
  · exact .inl h4
  · exact .inr ⟨q, cap, cur, hv, hg, h.rows _ _ _ _ hb hn, r⟩

/-- A forest whose blocks are all from B on, and none of Q. -/
def FB (B : Nat) (Q : Nat → Prop) (w : World) (f : Nat) (F : FS) : Prop := ∃ S, FR w f S F ∧ (∀ k, S k → B ≤ k ∧ ¬ Q k) ∧ ∀ k, Q k → k < w.heap.size

theorem FB.good (h : FB B Q w f F) : F.Good := by obtain ⟨S, h1, _⟩ := h; exact h1.2

theorem FB.below (h : FB B Q w f F) (hb : Below w.heap.size w w') : FB B Q w' f F := by
  obtain ⟨S, h1, h2, h3⟩ := h
  exact ⟨S, h1.below hb, h2, fun k hk => Nat.lt_of_lt_of_le (h3 k hk) hb.size⟩

theorem FB.weak {Q' : Nat → Prop} (h : FB B Q w f F) (hq : ∀ k, Q' k → Q k) : FB B Q' w f F := by
  obtain ⟨S, h1, h2, h3⟩ := h
  exact ⟨S, h1, fun k hk => ⟨(h2 k hk).1, fun e => (h2 k hk).2 (hq k e)⟩, fun k hk => h3 k (hq k hk)⟩

/-- What was made since is kept too. -/
theorem FB.more {Q' : Nat → Prop} (h : FB B Q w f F) (hb : Below w.heap.size w w') (hq : ∀ k, Q' k → Q k ∨ w.heap.size ≤ k ∧ k < w'.heap.size) : FB B Q' w' f F := by
  obtain ⟨S, h1, h2, h3⟩ := h
  refine ⟨S, h1.below hb, fun k hk => ⟨(h2 k hk).1, fun e => ?_⟩, fun k hk => ?_⟩
  · rcases hq k e with e | e
    · exact (h2 k hk).2 e
    · have := h1.1.lt hk; omega
  · rcases hq k hk with e | e
    · exact Nat.lt_of_lt_of_le (h3 k e) hb.size
    · exact e.2

/-- Q, and the block of a row that was just made. -/
def andRow (Q : Nat → Prop) (v : Value) : Nat → Prop := fun k => Q k ∨ v.ownBlock = some k

theorem FB.andRow {α : Type} {enc : α → List Value} {k E : Nat} {v : Value} {xs : List α} (h : FB B Q w f F) (hb : Below w.heap.size w w') (ho : OK enc k E w' w.heap.size v xs) : FB B (andRow Q v) w' f F :=
  h.more hb fun k hk => hk.imp id fun e => ho.lt k e

theorem fr_b (h : FR w f S F) (hS : (∀ k, S k → B ≤ k ∧ ¬ Q k) ∧ ∀ k, Q k → k < w.heap.size) (hB : B ≤ w.heap.size) (ht : FRT w f S F' w') : FB B Q w' f F' ∧ TameF B Q w w' := by
  obtain ⟨S', h1, h2, h3⟩ := ht
  refine ⟨⟨S', h1, fun k hk => ?_, fun k hk => Nat.lt_of_lt_of_le (hS.2 k hk) h2.size⟩, h2.below hB (fun k hk => (hS.1 k hk).1), h2.size, fun k cs t fr hb hn => ?_, fun k hq hk => h2.block k hk fun e => (hS.1 k e).2 hq⟩
  · rcases h3 k hk with e | e
    · exact hS.1 k e
    · exact ⟨by omega, fun hq => by have := hS.2 k hq; omega⟩
  · exact (h2.block k (Array.getElem?_eq_some_iff.1 hb).1 fun e => h.1.types e hb hn).trans hb

end

section

variable (B : Nat) (Q : Nat → Prop) (w : World) (f : Nat) (F : FS) (h : FB B Q w f F) (hB : B ≤ w.heap.size)

include h hB

theorem bAddV (v : Int) (hv : I64 v) : Calls Try.prog 32 #[.pointer (some ⟨f, 0, none⟩), .int .i64 v] w fun e w' => e = .returned (.int .i64 (F.addE v)) ∧ FB B Q w' f (F.addA v) ∧ TameF B Q w w' := by
  obtain ⟨S, h1, h2⟩ := h
  refine (fAddV w f S F h1 v hv).mono ?_
  rintro e w' ⟨rfl, ht⟩
  exact ⟨rfl, fr_b h1 h2 hB ht⟩

theorem bDelV (v : Int) (hv : I64 v) : Calls Try.prog 37 #[.pointer (some ⟨f, 0, none⟩), .int .i64 v] w fun e w' => e = .returned (.int .i64 (F.delE v)) ∧ FB B Q w' f (F.delA v) ∧ TameF B Q w w' := by
  obtain ⟨S, h1, h2⟩ := h
  refine (fDelV w f S F h1 v hv).mono ?_
  rintro e w' ⟨rfl, ht⟩
  exact ⟨rfl, fr_b h1 h2 hB ht⟩

theorem bLink (id u v : Int) (hi : I64 id) (hu : I64 u) (hv : I64 v) : Calls Try.prog 18 #[.pointer (some ⟨f, 0, none⟩), .int .i64 id, .int .i64 u, .int .i64 v] w fun e w' => e = .returned (.int .i64 (F.linkE id u v)) ∧ FB B Q w' f (F.linkA id u v) ∧ TameF B Q w w' := by
  obtain ⟨S, h1, h2⟩ := h
  refine (fLink w f S F h1 id u v hi hu hv).mono ?_
  rintro e w' ⟨rfl, ht⟩
  exact ⟨rfl, fr_b h1 h2 hB ht⟩

theorem bCut (id : Int) (hi : I64 id) : Calls Try.prog 23 #[.pointer (some ⟨f, 0, none⟩), .int .i64 id] w fun e w' => e = .returned (.int .i64 (F.cutE id)) ∧ FB B Q w' f (F.cutA id) ∧ TameF B Q w w' := by
  obtain ⟨S, h1, h2⟩ := h
  refine (fCut w f S F h1 id hi).mono ?_
  rintro e w' ⟨rfl, ht⟩
  exact ⟨rfl, fr_b h1 h2 hB ht⟩

theorem bMarkV (v : Int) (hv : I64 v) (on : Bool) : Calls Try.prog 34 #[.pointer (some ⟨f, 0, none⟩), .int .i64 v, .bool on] w fun e w' => e = .returned (.int .i64 (F.errV v)) ∧ FB B Q w' f (F.markVA v on) ∧ TameF B Q w w' := by
  obtain ⟨S, h1, h2⟩ := h
  refine (fMarkV w f S F h1 v hv on).mono ?_
  rintro e w' ⟨rfl, ht⟩
  exact ⟨rfl, fr_b h1 h2 hB ht⟩

theorem bMarkE (v : Int) (hv : I64 v) (on : Bool) : Calls Try.prog 26 #[.pointer (some ⟨f, 0, none⟩), .int .i64 v, .bool on] w fun e w' => e = .returned (.int .i64 (F.errE v)) ∧ FB B Q w' f (F.markEA v on) ∧ TameF B Q w w' := by
  obtain ⟨S, h1, h2⟩ := h
  refine (fMarkE w f S F h1 v hv on).mono ?_
  rintro e w' ⟨rfl, ht⟩
  exact ⟨rfl, fr_b h1 h2 hB ht⟩

end

section

variable (B : Nat) (Q : Nat → Prop) (w : World) (f : Nat) (F : FS) (h : FB B Q w f F)

include h

theorem bVerts (u : Int) (hu : I64 u) : Calls Try.prog 16 #[.pointer (some ⟨f, 0, none⟩), .int .i64 u] w fun e w' => ∃ v, e = .returned (.tuple #[v, .int .i64 (F.errV u)]) ∧ OK encI 1 3 w' w.heap.size v (F.treeV u) ∧ Below w.heap.size w w' := by
  obtain ⟨S, h1, h2⟩ := h
  exact fVerts w f S F h1 u hu

theorem bEdges (u : Int) (hu : I64 u) : Calls Try.prog 17 #[.pointer (some ⟨f, 0, none⟩), .int .i64 u] w fun e w' => ∃ v, e = .returned (.tuple #[v, .int .i64 (F.errV u)]) ∧ OK encI 1 3 w' w.heap.size v (F.treeE u) ∧ Below w.heap.size w w' := by
  obtain ⟨S, h1, h2⟩ := h
  exact fEdges w f S F h1 u hu

theorem bSize (u : Int) (hu : I64 u) : Calls Try.prog 24 #[.pointer (some ⟨f, 0, none⟩), .int .i64 u] w fun e w' => e = .returned (.tuple #[.int .i64 ((F.treeV u).length : Nat), .int .i64 (F.errV u)]) ∧ Below w.heap.size w w' := by
  obtain ⟨S, h1, h2⟩ := h
  exact fSize w f S F h1 u hu

theorem bJoined (u v : Int) (hu : I64 u) (hv : I64 v) : Calls Try.prog 25 #[.pointer (some ⟨f, 0, none⟩), .int .i64 u, .int .i64 v] w fun e w' => e = .returned (.tuple #[.bool (F.joinB u v), .int .i64 (F.joinX u v)]) ∧ w' = w := by
  obtain ⟨S, h1, h2⟩ := h
  exact fJoinedR w f S F h1 u v hu hv

theorem bHas (id : Int) (hi : I64 id) : Calls Try.prog 13 #[.pointer (some ⟨f, 0, none⟩), .int .i64 id] w fun e w' => e = .returned (.bool (decide (id ∈ ids F.edges))) ∧ Below w.heap.size w w' := by
  obtain ⟨S, h1, h2⟩ := h
  exact fHasR w f S F h1 id hi

theorem bLen : Calls Try.prog 12 #[.pointer (some ⟨f, 0, none⟩)] w fun e w' => e = .returned (.int .i64 (F.vs.length : Nat)) ∧ w' = w := by
  obtain ⟨S, h1, h2⟩ := h
  exact fLenR w f S F h1

theorem bSomeV (u : Int) (hu : I64 u) : Calls Try.prog 33 #[.pointer (some ⟨f, 0, none⟩), .int .i64 u] w fun e w' => (∃ x, e = .returned (.tuple #[.int .i64 x, .int .i64 (F.errV u)]) ∧ (u ∈ F.vs → SomeOk (fun i => F.inV u i ∧ F.mv i = true) x) ∧ (u ∉ F.vs → x = 0)) ∧ Below w.heap.size w w' := by
  obtain ⟨S, h1, h2⟩ := h
  exact fSomeV w f S F h1 u hu

theorem bSomeE (u : Int) (hu : I64 u) : Calls Try.prog 27 #[.pointer (some ⟨f, 0, none⟩), .int .i64 u] w fun e w' => (∃ x, e = .returned (.tuple #[.int .i64 x, .int .i64 (F.errV u)]) ∧ (u ∈ F.vs → SomeOk (fun i => F.inE u i ∧ F.me i = true) x) ∧ (u ∉ F.vs → x = 0)) ∧ Below w.heap.size w w' := by
  obtain ⟨S, h1, h2⟩ := h
  exact fSomeE w f S F h1 u hu

end

theorem bNew (w : World) (v : Value) (ss : List Int) (hv : RI w w.heap.size v ss) (Q : Nat → Prop) (hq : ∀ k, Q k → k < w.heap.size) :
    Calls Try.prog 8 #[v] w fun e w' => ∃ f, e = .returned (.pointer (some ⟨f, 0, none⟩)) ∧ FB w.heap.size Q w' f FS.new ∧ Below w.heap.size w w' := by
  refine (fNew w v ss hv).mono ?_
  rintro e w' ⟨f, S, rfl, h1, h2, h3⟩
  exact ⟨f, rfl, ⟨S, h1, fun k hk => ⟨h2 k hk, fun hq' => by have := hq k hq'; have := h2 k hk; omega⟩, fun k hk => Nat.lt_of_lt_of_le (hq k hk) h3.size⟩, h3⟩

end Go.Proofs.Ytlakcldgolpaiaa

/-
  A forest's vertices and edges behind each call; the document's example in plain words. No walk.
-/
namespace Go.Proofs.Ytlakcldgolpaiaa
set_option linter.unusedVariables false

/-- A forest's vertices and edges. -/
structure FS.Is (F : FS) (L : List Int) (E : List Edg) : Prop where
  vs : F.vs = L
  es : F.edges = E

section

variable {F : FS} {L : List Int} {E : List Edg}

theorem add_ok (h : F.Is L E) {v : Int} (h1 : okId v) (h2 : v ∉ L) (h3 : L.length < 2048) : F.addE v = 0 ∧ (F.addA v).Is (v :: L) E ∧ (F.addA v).mv = F.mv ∧ (F.addA v).me = F.me := by
  have he : F.addE v = 0 := by unfold FS.addE; rw [if_pos (show 1 ≤ v ∧ v ≤ 2147483647 from h1), h.vs, if_neg h2, if_neg (by omega)]
  have ha : F.addA v = F.addv v := by unfold FS.addA; rw [if_pos he]
  refine ⟨he, ?_, by rw [ha]; rfl, by rw [ha]; rfl⟩
  rw [ha]
  exact ⟨by show v :: F.vs = _; rw [h.vs], h.es⟩

theorem link_ok (h : F.Is L E) {id u v : Int} (h1 : okId id) (h2 : okId u) (h3 : okId v) (h4 : id ∉ ids E) (h5 : u ∈ L) (h6 : v ∈ L) (h7 : ¬ Conn E u v) : F.linkE id u v = 0 ∧ (F.linkA id u v).Is L ((id, u, v) :: E) ∧ (F.linkA id u v).mv = F.mv ∧ (F.linkA id u v).me = F.me := by
  have he : F.linkE id u v = 0 := by unfold FS.linkE; rw [if_pos ⟨h1, h2, h3⟩, h.es, if_neg h4, h.vs, if_pos ⟨h5, h6⟩, if_neg h7]
  have ha : F.linkA id u v = F.link id u v ((F.pv u).getD 0) ((F.pv v).getD 0) := by unfold FS.linkA; rw [if_pos he]
  refine ⟨he, ?_, by rw [ha]; rfl, by rw [ha]; rfl⟩
  rw [ha]
  exact ⟨h.vs, by show (id, u, v) :: F.edges = _; rw [h.es]⟩

theorem link_bad (h : F.Is L E) {id u v : Int} (h1 : okId id) (h2 : okId u) (h3 : okId v) (h4 : id ∉ ids E) (h5 : u ∈ L) (h6 : v ∈ L) (h7 : Conn E u v) : F.linkE id u v = 151 ∧ F.linkA id u v = F := by
  have he : F.linkE id u v = 151 := by unfold FS.linkE; rw [if_pos ⟨h1, h2, h3⟩, h.es, if_neg h4, h.vs, if_pos ⟨h5, h6⟩, if_pos h7]
  exact ⟨he, F.linkA_no he (by decide)⟩

theorem cut_ok (h : F.Is L E) {id : Int} (h1 : okId id) (h4 : id ∈ ids E) : F.cutE id = 0 ∧ (F.cutA id).Is L (E.filter fun e => !decide (e.1 = id)) ∧ (F.cutA id).mv = F.mv ∧ (F.cutA id).me = setB F.me id false := by
  have he : F.cutE id = 0 := by unfold FS.cutE; rw [if_pos h1, h.es, if_pos h4]
  have ha : F.cutA id = F.cut id ((F.pe id).getD (0, 0)).1 ((F.pe id).getD (0, 0)).2 := by unfold FS.cutA; rw [if_pos he]
  refine ⟨he, ?_, by rw [ha]; rfl, by rw [ha]; rfl⟩
  rw [ha]
  exact ⟨h.vs, by show F.edges.filter _ = _; rw [h.es]⟩

theorem markV_is (hG : F.Good) (h : F.Is L E) (v : Int) (on : Bool) (hv : v ∈ L) : F.errV v = 0 ∧ (F.markVA v on).Is L E ∧ (F.markVA v on).mv = setB F.mv v on ∧ (F.markVA v on).me = F.me := by
  have hv' : v ∈ F.vs := by rw [h.vs]; exact hv
  obtain ⟨a, e⟩ := Option.ne_none_iff_exists'.1 ((hG.vs v).1 hv')
  have hm : F.markVA v on = F.markV v a on := by unfold FS.markVA; rw [e]
  rw [hm]
  exact ⟨F.errV_in hv', ⟨h.vs, h.es⟩, rfl, rfl⟩

theorem markE_is (hG : F.Good) (h : F.Is L E) (v : Int) (on : Bool) (hv : v ∈ ids E) : F.errE v = 0 ∧ (F.markEA v on).Is L E ∧ (F.markEA v on).mv = F.mv ∧ (F.markEA v on).me = setB F.me v on := by
  have hv' : v ∈ ids F.edges := by rw [h.es]; exact hv
  obtain ⟨W, hW⟩ := hG.ok
  obtain ⟨⟨a, b⟩, e⟩ := Option.ne_none_iff_exists'.1 ((hW.has v).1 hv')
  have hm : F.markEA v on = F.markE v a on := by unfold FS.markEA; rw [e]
  rw [hm]
  exact ⟨F.errE_in hv', ⟨h.vs, h.es⟩, rfl, rfl⟩

end

/-! ### The example -/

def upTo : Nat → List Int
  | 0 => []
  | n + 1 => ((n : Int) + 1) :: upTo n

theorem mem_upTo : ∀ {n : Nat} {i : Int}, i ∈ upTo n ↔ 1 ≤ i ∧ i ≤ n
  | 0, i => by simp [upTo]; omega
  | n + 1, i => by
    rw [upTo, List.mem_cons, mem_upTo]
    omega

theorem len_upTo : ∀ n : Nat, (upTo n).length = n
  | 0 => rfl
  | n + 1 => by rw [upTo, List.length_cons, len_upTo]

noncomputable def addsN : Nat → FS
  | 0 => FS.new
  | n + 1 => (addsN n).addA ((n : Int) + 1)

theorem addsN_is : ∀ (n : Nat), n ≤ 2000 → (addsN n).Is (upTo n) [] ∧ (addsN n).mv = fun _ => false
  | 0, _ => ⟨⟨rfl, rfl⟩, rfl⟩
  | n + 1, hn => by
    obtain ⟨h1, h2⟩ := addsN_is n (by omega)
    obtain ⟨-, h3, h4, -⟩ := add_ok h1 (v := (n : Int) + 1) ⟨by omega, by omega⟩ (fun h => by have := mem_upTo.1 h; omega) (by rw [len_upTo]; omega)
    exact ⟨h3, h4.trans h2⟩

theorem addsN_ok (n : Nat) (hn : n < 2000) : (addsN n).addE ((n : Int) + 1) = 0 := by
  obtain ⟨h1, h2⟩ := addsN_is n (by omega)
  exact (add_ok h1 (v := (n : Int) + 1) ⟨by omega, by omega⟩ (fun h => by have := mem_upTo.1 h; omega) (by rw [len_upTo]; omega)).1

theorem okId_small {v : Int} (h1 : 1 ≤ v) (h2 : v ≤ 1000) : okId v := ⟨h1, by omega⟩

theorem no_conn {es : List Edg} {u v : Int} (S : Int → Prop) (hs : ∀ id p q, (id, p, q) ∈ es → (S p ↔ S q)) (hu : S u) (hv : ¬ S v) : ¬ Conn es u v := fun h => hv (conn_stays hs h hu)

theorem conn_to {es : List Edg} {u v x id : Int} (h : Conn es u v) (he : (id, v, x) ∈ es) : Conn es u x := .step h he (.inl ⟨rfl, rfl⟩)

theorem conn_fro {es : List Edg} {u v x id : Int} (h : Conn es u v) (he : (id, x, v) ∈ es) : Conn es u x := .step h he (.inr ⟨rfl, rfl⟩)

/-- What the example's forests tell. -/
structure ExOut (G0 G1 G2 G3 G4 : FS) : Prop where
  l1 : G0.linkE 7 1 2 = 0
  l2 : G1.linkE 8 2 3 = 0
  l3 : G2.linkE 9 1 3 = 151
  v2 : (G2.treeV 3).length = 3
  ev2 : G2.errV 3 = 0
  e2 : (G2.treeE 1).length = 2
  ee2 : G2.errV 1 = 0
  m : G2.errV 2 = 0
  s : ∀ x, ((1 : Int) ∈ G3.vs → SomeOk (fun i => G3.inV 1 i ∧ G3.mv i = true) x) → x = 2
  es : G3.errV 1 = 0
  c : G3.cutE 7 = 0
  v4 : (G4.treeV 3).length = 2
  ev4 : G4.errV 3 = 0
  z4 : (G4.treeV 4).length = 1
  ez4 : G4.errV 4 = 0
  j4 : G4.joinB 2 3 = true
  ej4 : G4.joinX 2 3 = 0
  h8 : (8 : Int) ∈ ids G4.edges
  n : G4.vs.length = 4
  same : G2.linkA 9 1 3 = G2

theorem rise_len {F : FS} {u : Int} (h : u ∈ F.vs) {xs : List Int} (hx : Rise xs (F.inV u)) : (F.treeV u).length = xs.length := by rw [rise_unique (F.riseV h) hx]

theorem rise_lenE {F : FS} {u : Int} (h : u ∈ F.vs) {xs : List Int} (hx : Rise xs (F.inE u)) : (F.treeE u).length = xs.length := by rw [rise_unique (F.riseE h) hx]

theorem exOut (hG2 : (((addsN 4).linkA 7 1 2).linkA 8 2 3).Good) : ExOut (addsN 4) ((addsN 4).linkA 7 1 2) (((addsN 4).linkA 7 1 2).linkA 8 2 3) ((((addsN 4).linkA 7 1 2).linkA 8 2 3).markVA 2 true) (((((addsN 4).linkA 7 1 2).linkA 8 2 3).markVA 2 true).cutA 7) := by
  obtain ⟨i0, m0⟩ := addsN_is 4 (by omega)
  have u4 : ∀ i : Int, i ∈ upTo 4 ↔ 1 ≤ i ∧ i ≤ 4 := fun i => mem_upTo
  generalize addsN 4 = G0 at *
  obtain ⟨a1, i1, m1, -⟩ := link_ok i0 (id := 7) (u := 1) (v := 2) (okId_small (by decide) (by decide)) (okId_small (by decide) (by decide)) (okId_small (by decide) (by decide)) (by simp [ids]) ((u4 _).2 (by decide)) ((u4 _).2 (by decide))
    (no_conn (fun i => i = 1) (fun _ _ _ h => by cases h) rfl (by decide))
  generalize G0.linkA 7 1 2 = G1 at *
  obtain ⟨a2, i2, m2, -⟩ := link_ok i1 (id := 8) (u := 2) (v := 3) (okId_small (by decide) (by decide)) (okId_small (by decide) (by decide)) (okId_small (by decide) (by decide)) (by simp [ids]) ((u4 _).2 (by decide)) ((u4 _).2 (by decide))
    (no_conn (fun i => i = 1 ∨ i = 2) (fun id p q h => by simp at h; obtain ⟨-, rfl, rfl⟩ := h; simp) (.inr rfl) (by decide))
  generalize G1.linkA 8 2 3 = G2 at *
  have c12 : Conn [((8 : Int), (2 : Int), (3 : Int)), (7, 1, 2)] 1 2 := conn_to (.refl _) (id := 7) (by simp)
  have c13 : Conn [((8 : Int), (2 : Int), (3 : Int)), (7, 1, 2)] 1 3 := conn_to c12 (id := 8) (by simp)
  obtain ⟨a3, s3⟩ := link_bad i2 (id := 9) (u := 1) (v := 3) (okId_small (by decide) (by decide)) (okId_small (by decide) (by decide)) (okId_small (by decide) (by decide)) (by simp [ids]) ((u4 _).2 (by decide)) ((u4 _).2 (by decide)) c13
  have stay : ∀ id p q, (id, p, q) ∈ [((8 : Int), (2 : Int), (3 : Int)), (7, 1, 2)] → ((p = 1 ∨ p = 2 ∨ p = 3) ↔ (q = 1 ∨ q = 2 ∨ q = 3)) := fun id p q h => by
    simp at h
    rcases h with ⟨-, rfl, rfl⟩ | ⟨-, rfl, rfl⟩ <;> simp
  have in2 : ∀ i : Int, i ∈ G2.vs ↔ 1 ≤ i ∧ i ≤ 4 := fun i => by rw [i2.vs]; exact u4 i
  have r3 : Rise [1, 2, 3] (G2.inV 3) := ⟨by decide, fun i => by
    unfold FS.inV
    rw [in2, i2.es]
    constructor
    · intro h
      simp at h
      rcases h with rfl | rfl | rfl
      · exact ⟨by decide, c13.symm⟩
      · exact ⟨by decide, c13.symm.trans c12⟩
      · exact ⟨by decide, .refl _⟩
    · rintro ⟨-, h⟩
      have := conn_stays (S := fun i => i = 1 ∨ i = 2 ∨ i = 3) stay h (.inr (.inr rfl))
      simpa using this⟩
  have r1 : Rise [7, 8] (G2.inE 1) := ⟨by decide, fun i => by
    unfold FS.inE
    rw [i2.es]
    constructor
    · intro h
      simp at h
      rcases h with rfl | rfl
      · exact ⟨1, 2, by simp, .refl _⟩
      · exact ⟨2, 3, by simp, c12⟩
    · rintro ⟨p, q, h, -⟩
      simp at h
      rcases h with ⟨rfl, -, -⟩ | ⟨rfl, -, -⟩ <;> simp⟩
  obtain ⟨-, i3, m3, -⟩ := markV_is hG2 i2 2 true ((u4 _).2 (by decide))
  generalize G2.markVA 2 true = G3 at *
  have hmv : ∀ i, G3.mv i = true ↔ i = 2 := fun i => by
    rw [m3, m2, m1, m0]
    unfold setB
    by_cases e : i = 2
    · simp [e]
    · simp [e]
  obtain ⟨a4, i4, -, -⟩ := cut_ok i3 (id := 7) (okId_small (by decide) (by decide)) (by simp [ids])
  have hE4 : ([((8 : Int), (2 : Int), (3 : Int)), (7, 1, 2)].filter fun e => !decide (e.1 = 7)) = [(8, 2, 3)] := by decide
  rw [hE4] at i4
  generalize G3.cutA 7 = G4 at *
  have in4 : ∀ i : Int, i ∈ G4.vs ↔ 1 ≤ i ∧ i ≤ 4 := fun i => by rw [i4.vs]; exact u4 i
  have c23 : Conn [((8 : Int), (2 : Int), (3 : Int))] 2 3 := conn_to (.refl _) (id := 8) (by simp)
  have r43 : Rise [2, 3] (G4.inV 3) := ⟨by decide, fun i => by
    unfold FS.inV
    rw [in4, i4.es]
    constructor
    · intro h
      simp at h
      rcases h with rfl | rfl
      · exact ⟨by decide, c23.symm⟩
      · exact ⟨by decide, .refl _⟩
    · rintro ⟨-, h⟩
      have := conn_stays (S := fun i => i = 2 ∨ i = 3) (fun id p q h => by simp at h; obtain ⟨-, rfl, rfl⟩ := h; simp) h (.inr rfl)
      simpa using this⟩
  have r44 : Rise [4] (G4.inV 4) := ⟨by decide, fun i => by
    unfold FS.inV
    rw [in4, i4.es]
    constructor
    · intro h
      simp at h
      subst h
      exact ⟨by decide, .refl _⟩
    · rintro ⟨-, h⟩
      have := conn_stays (S := fun i => i = 4) (fun id p q h => by simp at h; obtain ⟨-, rfl, rfl⟩ := h; simp) h rfl
      simpa using this⟩
  refine ⟨a1, a2, a3, rise_len ((in2 _).2 (by decide)) r3, G2.errV_in ((in2 _).2 (by decide)), rise_lenE ((in2 _).2 (by decide)) r1, G2.errV_in ((in2 _).2 (by decide)), G2.errV_in ((in2 _).2 (by decide)), ?_, G3.errV_in (by rw [i3.vs]; exact (u4 _).2 (by decide)), a4, rise_len ((in4 _).2 (by decide)) r43, G4.errV_in ((in4 _).2 (by decide)), rise_len ((in4 _).2 (by decide)) r44, G4.errV_in ((in4 _).2 (by decide)), ?_, ?_, ?_, ?_, s3⟩
  · intro x hx
    rcases hx (by rw [i3.vs]; exact (u4 _).2 (by decide)) with h | ⟨h, -⟩
    · exact (hmv x).1 h.2
    · exact absurd ⟨⟨by rw [i3.vs]; exact (u4 _).2 (by decide), by rw [i3.es]; exact c12⟩, (hmv 2).2 rfl⟩ (h 2)
  · exact G4.joinB_yes ⟨(in4 _).2 (by decide), (in4 _).2 (by decide), by rw [i4.es]; exact c23⟩
  · unfold FS.joinX; rw [if_pos ⟨(in4 _).2 (by decide), (in4 _).2 (by decide)⟩]
  · rw [i4.es]; simp [ids]
  · rw [i4.vs, len_upTo]

end Go.Proofs.Ytlakcldgolpaiaa

/-
  The walk of the law's alive: the document's example.
-/
namespace Go.Proofs.Ytlakcldgolpaiaa
open Go.RowKit Go.Maps
set_option linter.unusedVariables false

/-- No block besides is kept. -/
def noQ : Nat → Prop := fun _ => False

theorem noQ_lt {w : World} : ∀ k, noQ k → k < w.heap.size := fun _ h => h.elim

theorem small64 {v : Int} (h1 : 0 ≤ v) (h2 : v ≤ 1000000000) : I64 v := by unfold I64; omega

theorem FS.Good.linkA {F : FS} (h : F.Good) (id u v : Int) : (F.linkA id u v).Good := by
  by_cases hz : F.linkE id u v = 0
  · obtain ⟨h1, h2, h3, h4, h5, h6, h7⟩ := linkE_ok hz
    obtain ⟨a, ea⟩ := Option.ne_none_iff_exists'.1 ((h.vs u).1 h5)
    obtain ⟨b, eb⟩ := Option.ne_none_iff_exists'.1 ((h.vs v).1 h6)
    have hA : F.linkA id u v = F.link id u v a b := by unfold FS.linkA; rw [hz, if_pos rfl, ea, eb]; rfl
    rw [hA]
    exact (h.linkOut h1 h4 ea eb h7).1
  · rw [F.linkA_no rfl hz]; exact h

set_option maxRecDepth 100000 in
set_option maxHeartbeats 4000000 in
theorem alive_any (w : World) : Calls Try.prog 9 #[] w fun e w' => e = .returned (.bool true) ∧ Below w.heap.size w w' := by
  obtain ⟨W, hW⟩ : ∃ W, W = w.alloc (.cells #[.int .i64 5] 3) := ⟨_, rfl⟩
  have hbW : Below w.heap.size w W := by rw [hW]; exact (Below.refl _ _).alloc (Nat.le_refl _) _
  obtain ⟨p, hp⟩ : ∃ p, p = w.heap.size := ⟨_, rfl⟩
  have hpW : p < W.heap.size := by rw [hW, hp]; simp
  have hri : RI W W.heap.size (.slice (some ⟨p, 0, none⟩) 1 1) [5] := by
    refine ⟨by simp, some ⟨p, 0, none⟩, 1, rfl, by simp, by simp, .inr ⟨p, 0, rfl, hpW, ?_⟩⟩
    intro i x hi j u hu
    cases i with
    | zero =>
      simp at hi
      subst hi
      have := oneI w 5 3 j u hu
      rw [hW, hp]
      simpa using this
    | succ i => simp at hi
  have HW := Lib.hid hW
  have HP := Lib.hid hp
  have HBW := Lib.hid hbW
  have HRI := Lib.hid hri
  clear hW hp hbW hpW hri
  go_enter Try.func9, Try.ntmps9
  go_wp2_with fail
  rw [← HW.out, ← HP.out]
  refine (bNew W _ [5] HRI.out noQ noQ_lt).mono ?_
  rintro e w1 ⟨f, rfl, h1, b1⟩
  have H1 : Hid (FB w.heap.size noQ w1 f (addsN 0)) := Lib.hid (by
    obtain ⟨S, k1, k2, k3⟩ := h1
    exact ⟨S, k1, fun k hk => ⟨Nat.le_trans HBW.out.size (k2 k hk).1, (k2 k hk).2⟩, k3⟩)
  have T1 : Hid (Below w.heap.size w w1) := Lib.hid (HBW.out.trans (b1.mono HBW.out.size))
  clear h1 b1
  go_wp2_with fail
  go_loopw [2] (fun i wr => ∃ k : Nat, k ≤ 4 ∧ i = .int .i64 ((k : Int) + 1) ∧ Hid (FB w.heap.size noQ wr f (addsN k)) ∧ Hid (Below w.heap.size w wr)) (fun i _ => 5 - (intOf i).toNat)
  case atStart => exact ⟨0, by omega, rfl, H1, T1⟩
  case round =>
    obtain ⟨k, hk, rfl, HF, HT⟩ := hrel
    by_cases hk4 : k < 4
    · have d0 : decide ((k : Int) + 1 ≤ 4) = true := by simp; omega
      have hz := addsN_ok k (by omega)
      have HZ := Lib.hid hz
      clear hz
      go_wp2_with fail
      refine (bAddV _ noQ wr f (addsN k) HF.out HT.out.size ((k : Int) + 1) (small64 (by omega) (by omega))).mono ?_
      rw [HZ.out]
      rintro e w2 ⟨rfl, h2, t2⟩
      have H2 : Hid (FB w.heap.size noQ w2 f (addsN (k + 1))) := Lib.hid h2
      have T2 := Lib.hid (HT.out.trans t2.below)
      clear h2 t2
      go_wp2_with fail
      go_roundw
      case rel => exact ⟨k + 1, by omega, by go_num, H2, T2⟩
      case measure => simp [intOf]; omega
    · obtain rfl : k = 4 := by omega
      have hex := exOut ((HF.out.good.linkA 7 1 2).linkA 8 2 3)
      generalize addsN 4 = G0 at *
      obtain ⟨G1, hG1⟩ : ∃ G, G = G0.linkA 7 1 2 := ⟨_, rfl⟩
      rw [← hG1] at hex
      obtain ⟨G2, hG2⟩ : ∃ G, G = G1.linkA 8 2 3 := ⟨_, rfl⟩
      rw [← hG2] at hex
      obtain ⟨G3, hG3⟩ : ∃ G, G = G2.markVA 2 true := ⟨_, rfl⟩
      rw [← hG3] at hex
      obtain ⟨G4, hG4⟩ : ∃ G, G = G3.cutA 7 := ⟨_, rfl⟩
      rw [← hG4] at hex
      have HEX := Lib.hid hex
      have E1 := Lib.hid hG1
      have E2 := Lib.hid hG2
      have E3 := Lib.hid hG3
      have E4 := Lib.hid hG4
      clear hex hG1 hG2 hG3 hG4
      rw [show (((4 : Nat) : Int) + 1) = 5 from rfl]
      have HB := Lib.hid HT.out.size
      go_wp2_with fail
      refine (bLink _ noQ wr f G0 HF.out HT.out.size 7 1 2 (small64 (by decide) (by decide)) (small64 (by decide) (by decide)) (small64 (by decide) (by decide))).mono ?_
      rw [HEX.out.l1, ← E1.out]
      rintro e w2 ⟨rfl, h2, t2⟩
      have H2 := Lib.hid h2
      have T2 := Lib.hid (HT.out.trans t2.below)
      clear h2 t2
      go_wp2_with fail
      refine (bLink _ noQ w2 f G1 H2.out T2.out.size 8 2 3 (small64 (by decide) (by decide)) (small64 (by decide) (by decide)) (small64 (by decide) (by decide))).mono ?_
      rw [HEX.out.l2, ← E2.out]
      rintro e w3 ⟨rfl, h3, t3⟩
      have H3 := Lib.hid h3
      have T3 := Lib.hid (T2.out.trans t3.below)
      clear h3 t3
      go_wp2_with fail
      refine (bLink _ noQ w3 f G2 H3.out T3.out.size 9 1 3 (small64 (by decide) (by decide)) (small64 (by decide) (by decide)) (small64 (by decide) (by decide))).mono ?_
      rw [HEX.out.l3, HEX.out.same]
      rintro e w4 ⟨rfl, h4, t4⟩
      have H4 := Lib.hid h4
      have T4 := Lib.hid (T3.out.trans t4.below)
      clear h4 t4
      go_wp2_with fail
      refine (bVerts _ noQ w4 f G2 H4.out 3 (small64 (by decide) (by decide))).mono ?_
      rw [HEX.out.ev2]
      rintro e w5 ⟨v5, rfl, o5, b5⟩
      obtain ⟨A5, c5, hv5, -, -, -, -⟩ := (o5.rk encI_len (Nat.le_refl _)).open_
      rw [HEX.out.v2] at hv5
      subst hv5
      have H5 := Lib.hid (H4.out.below b5)
      have T5 := Lib.hid (T4.out.trans (b5.mono T4.out.size))
      clear o5 b5
      go_wp2_with fail
      refine (bEdges _ noQ w5 f G2 H5.out 1 (small64 (by decide) (by decide))).mono ?_
      rw [HEX.out.ee2]
      rintro e w6 ⟨v6, rfl, o6, b6⟩
      obtain ⟨A6, c6, hv6, -, -, -, -⟩ := (o6.rk encI_len (Nat.le_refl _)).open_
      rw [HEX.out.e2] at hv6
      subst hv6
      have H6 := Lib.hid (H5.out.below b6)
      have T6 := Lib.hid (T5.out.trans (b6.mono T5.out.size))
      clear o6 b6
      go_wp2_with fail
      refine (bMarkV _ noQ w6 f G2 H6.out T6.out.size 2 (small64 (by decide) (by decide)) true).mono ?_
      rw [HEX.out.m, ← E3.out]
      rintro e w7 ⟨rfl, h7, t7⟩
      have H7 := Lib.hid h7
      have T7 := Lib.hid (T6.out.trans t7.below)
      clear h7 t7
      go_wp2_with fail
      refine (bSomeV _ noQ w7 f G3 H7.out 1 (small64 (by decide) (by decide))).mono ?_
      rw [HEX.out.es]
      rintro e w8 ⟨⟨x, rfl, hx, -⟩, b8⟩
      obtain rfl := HEX.out.s x hx
      have H8 := Lib.hid (H7.out.below b8)
      have T8 := Lib.hid (T7.out.trans (b8.mono T7.out.size))
      clear hx b8
      go_wp2_with fail
      refine (bCut _ noQ w8 f G3 H8.out T8.out.size 7 (small64 (by decide) (by decide))).mono ?_
      rw [HEX.out.c, ← E4.out]
      rintro e w9 ⟨rfl, h9, t9⟩
      have H9 := Lib.hid h9
      have T9 := Lib.hid (T8.out.trans t9.below)
      clear h9 t9
      go_wp2_with fail
      refine (bVerts _ noQ w9 f G4 H9.out 3 (small64 (by decide) (by decide))).mono ?_
      rw [HEX.out.ev4]
      rintro e w10 ⟨v10, rfl, o10, b10⟩
      obtain ⟨A10, c10, hv10, -, -, -, -⟩ := (o10.rk encI_len (Nat.le_refl _)).open_
      rw [HEX.out.v4] at hv10
      subst hv10
      have H10 := Lib.hid (H9.out.below b10)
      have T10 := Lib.hid (T9.out.trans (b10.mono T9.out.size))
      clear o10 b10
      go_wp2_with fail
      refine (bSize _ noQ w10 f G4 H10.out 4 (small64 (by decide) (by decide))).mono ?_
      rw [HEX.out.ez4, HEX.out.z4]
      rintro e w11 ⟨rfl, b11⟩
      have H11 := Lib.hid (H10.out.below b11)
      have T11 := Lib.hid (T10.out.trans (b11.mono T10.out.size))
      clear b11
      go_wp2_with fail
      refine (bJoined _ noQ w11 f G4 H11.out 2 3 (small64 (by decide) (by decide)) (small64 (by decide) (by decide))).mono ?_
      rw [HEX.out.ej4, HEX.out.j4]
      rintro e wj ⟨rfl, hwj⟩
      subst wj
      go_wp2_with fail
      refine (bHas _ noQ w11 f G4 H11.out 8 (small64 (by decide) (by decide))).mono ?_
      rw [decide_eq_true HEX.out.h8]
      rintro e w12 ⟨rfl, b12⟩
      have H12 := Lib.hid (H11.out.below b12)
      have T12 := Lib.hid (T11.out.trans (b12.mono T11.out.size))
      clear b12
      go_wp2_with fail
      refine (bLen _ noQ w12 f G4 H12.out).mono ?_
      rw [HEX.out.n]
      rintro e wl ⟨rfl, hwl⟩
      subst wl
      go_wp2_with fail
      go_ret
      exact ⟨rfl, T12.out⟩

end Go.Proofs.Ytlakcldgolpaiaa

/-
  The document's functions at a forest that has nothing; numbers that are no ids; rows of numbers.
-/
namespace Go.Proofs.Ytlakcldgolpaiaa
open Go.RowKit Go.Maps
set_option linter.unusedVariables false

theorem badId_any (i : Int) (w : World) : Calls Try.prog 55 #[.int .i64 i] w fun e w' => e = .returned (.bool (!isIdI i)) ∧ w' = w := by
  by_cases h1 : 1 ≤ i
  · by_cases h2 : i ≤ 2147483647
    · rw [isIdI_yes ⟨h1, h2⟩]
      go_enter Try.func55, Try.ntmps55
      go_wp2
      go_ret
      refine ⟨?_, rfl⟩
      show Ending.returned (.bool (decide (i < 1) || decide (2147483647 < i))) = _
      rw [decide_eq_false (by omega), decide_eq_false (by omega)]; rfl
    · rw [isIdI_no (fun h => h2 h.2)]
      go_enter Try.func55, Try.ntmps55
      go_wp2
      go_ret
      exact ⟨rfl, rfl⟩
  · rw [isIdI_no (fun h => h1 h.1)]
    have h3 : i < 1 := by omega
    go_enter Try.func55, Try.ntmps55
    go_wp2
    go_ret
    exact ⟨rfl, rfl⟩

set_option maxRecDepth 100000 in
set_option maxHeartbeats 2000000 in
theorem has_any (v : Value) (V : List Int) (w : World) (B : Nat) (hv : RI w B v V) (n : Int) :
    Calls Try.prog 21 #[v, .int .i64 n] w fun e w' => e = .returned (.bool (decide (n ∈ V))) ∧ w' = w := by
  obtain ⟨A, c, rfl, hc1, hc2, hc3, HC⟩ := hv.open_
  clear hv
  obtain ⟨l, hl⟩ : ∃ l, l = V.length := ⟨_, rfl⟩
  obtain ⟨b, hb⟩ : ∃ b, b = decide (n ∈ V) := ⟨_, rfl⟩
  rw [← hl] at hc1 hc3 ⊢
  rw [← hb]
  have HL := Lib.hid hl
  have HB := Lib.hid hb
  clear hl hb
  go_enter Try.func21, Try.ntmps21
  go_wp2_with fail
  go_loopw [5] (fun i wr => ∃ k : Nat, k ≤ l ∧ i = .int .i64 k ∧ Hid (n ∉ V.take k) ∧ wr = w) (fun i _ => l - (intOf i).toNat)
  case atStart => exact ⟨0, Nat.zero_le _, rfl, Lib.hid (by simp), rfl⟩
  case round =>
    obtain ⟨k, hk, rfl, HN, hwr⟩ := hrel
    rw [hwr]
    clear hwr
    by_cases hkl : k < l
    · have hkv : k < V.length := by have := HL.out; omega
      obtain ⟨b1, o1, rfl, hb1, hx⟩ := HC.out k hkv
      obtain ⟨y, hy⟩ : ∃ y, y = V[k] := ⟨_, rfl⟩
      have HT := Lib.hid (List.take_succ_eq_append_getElem hkv)
      have HM := Lib.hid (List.getElem_mem hkv)
      rw [← hy] at hx HT HM
      have hx := cellI hx
      clear hy
      by_cases hyn : y = n
      · have HRES : Hid (b = true) := Lib.hid (by rw [HB.out]; exact decide_eq_true (hyn ▸ HM.out))
        subst hyn
        go_wp2_with fail
        go_ret
        exact ⟨by rw [HRES.out]; rfl, rfl⟩
      · have d1 : (y == n) = false := by simpa using hyn
        have HN2 : Hid (n ∉ V.take (k + 1)) := Lib.hid (by rw [HT.out, List.mem_append]; rintro (h | h); exact HN.out h; exact hyn (List.mem_singleton.1 h).symm)
        go_wp2_with fail
        go_roundw
        case rel => exact ⟨k + 1, by omega, by go_num, HN2, by first | rfl | trivial⟩
        case measure => simp [intOf]; omega
    · obtain rfl : k = l := by omega
      have HRES : Hid (b = false) := Lib.hid (by
        rw [HB.out]
        have := HN.out
        rw [List.take_of_length_le (by have := HL.out; omega)] at this
        exact decide_eq_false this)
      go_wp2_with fail
      go_ret
      exact ⟨by rw [HRES.out]; rfl, rfl⟩

theorem ret_cell_tmp2 {fn : Func} {p u : Tmp} {ty : TypeId} {a : Act} {w : World} {post : Ending → World → Prop} {A : Addr} {v x : Value} (hr : fn.results = #[.cell p ty, .tmp u]) (hp : a.tmps.getD p undef = .pointer (some A)) (hu : a.tmps.getD u undef = x)
    (hl : (loadVar ty A).run Try.prog w = .ok v w) (hd : a.defers = []) (h : post (.returned (.tuple #[v, x])) w) : bodyPost Try.prog fn post .ret a w := by
  refine bodyPost_ret (v := .tuple #[v, x]) ?_ hd h
  have hp' : a.tmps[p]?.getD undef = .pointer (some A) := by simpa using hp
  have hu' : a.tmps[u]?.getD undef = x := by simpa using hu
  simp only [results, hr]
  simp [hp', hu', asAddr, hl]

def nilV : Value := .slice none 0 0

def emptyD : Value := .agg #[.slice none 0 0, .slice none 0 0, .slice none 0 0, .slice none 0 0]

/-- A struct of four slices. -/
def Four (x : Value) : Prop := ∃ A a a' C c c' D d d' E e e', x = .agg #[.slice A a a', .slice C c c', .slice D d d', .slice E e e']

theorem four_empty : Four emptyD := ⟨_, _, _, _, _, _, _, _, _, _, _, _, rfl⟩

set_option maxRecDepth 100000 in
set_option maxHeartbeats 2000000 in
theorem edge05_nil (w : World) (x : Int) : Calls Try.prog 39 #[.agg #[.slice none 0 0, .slice none 0 0, .slice none 0 0], .int .i64 x] w fun e w' => e = .returned (.tuple #[.agg #[.int .i64 0, .int .i64 0, .int .i64 0, .int .i64 0], .bool false]) ∧ Below w.heap.size w w' := by
  go_enter Try.func39, Try.ntmps39
  go_wp2
  have hbw : Below w.heap.size w ((w.alloc (.cells #[.slice none 0 0, .slice none 0 0, .slice none 0 0] 78)).alloc (.cells #[.int .i64 0, .int .i64 0, .int .i64 0, .int .i64 0] 37)) := ((Below.refl _ _).alloc (Nat.le_refl _) _).alloc (by simp) _
  have HBW := Lib.hid hbw
  clear hbw
  go_loop [6] (fun i => i = .int .i64 0) (fun i => 0)
  case atStart => rfl
  case round =>
    subst hrel
    go_wp2
    refine ret_cell_tmp2 (p := 4) (u := 5) (v := .agg #[.int .i64 0, .int .i64 0, .int .i64 0, .int .i64 0]) rfl rfl rfl (by go_simp) rfl ⟨rfl, HBW.out⟩

set_option maxRecDepth 100000 in
set_option maxHeartbeats 2000000 in
theorem refEdge_nil (w : World) (x : Int) : Calls Try.prog 11 #[emptyD, .int .i64 x] w fun e w' => e = .returned (.tuple #[.agg #[.int .i64 0, .int .i64 0, .int .i64 0, .int .i64 0], .bool false]) ∧ Below w.heap.size w w' := by
  obtain ⟨W, hW⟩ : ∃ W, W = (w.alloc (.cells #[.slice none 0 0, .slice none 0 0, .slice none 0 0, .slice none 0 0] 31)).alloc (.cells #[.int .i64 0, .int .i64 0, .int .i64 0, .int .i64 0] 37) := ⟨_, rfl⟩
  obtain ⟨p, hp⟩ : ∃ p, p = w.heap.size := ⟨_, rfl⟩
  have hbW : Below w.heap.size w W := by rw [hW]; exact ((Below.refl _ _).alloc (Nat.le_refl _) _).alloc (by simp) _
  have kq : Blk W (p + 1) 37 #[.int .i64 0, .int .i64 0, .int .i64 0, .int .i64 0] := by
    rw [hW, hp]
    have := Blk.new (w.alloc (.cells #[.slice none 0 0, .slice none 0 0, .slice none 0 0, .slice none 0 0] 31)) 37 #[.int .i64 0, .int .i64 0, .int .i64 0, .int .i64 0]
    simpa using this
  have kp : Blk W p 31 #[.slice none 0 0, .slice none 0 0, .slice none 0 0, .slice none 0 0] := by rw [hW, hp]; exact (Blk.new _ _ _).alloc _
  have HW := Lib.hid hW
  have HP := Lib.hid hp
  have HB := Lib.hid hbW
  have KQ := Lib.hid kq
  have c1 : W.cell? ⟨p, 1, none⟩ = some (.slice none 0 0) := kp.cell 1
  clear hW hp hbW kq kp
  change Calls Try.prog _ #[.agg #[.slice none 0 0, .slice none 0 0, .slice none 0 0, .slice none 0 0], .int .i64 x] w _
  go_enter Try.func11, Try.ntmps11
  go_upto_region 1 with fail
  rw [← HW.out]
  try simp only [← HP.out]
  go_wp2_with fail
  refine (edge05_nil W x).mono ?_
  rintro e w1 ⟨rfl, b1⟩
  have k1 := KQ.out.below b1 KQ.out.lt
  have d0 := k1.cell 0
  have d1 := k1.cell 1
  have d2 := k1.cell 2
  have d3 := k1.cell 3
  have f0 := k1.frozen 0
  have f1 := k1.frozen 1
  have f2 := k1.frozen 2
  have f3 := k1.frozen 3
  have HPL : Hid (w.heap.size ≤ p + 1) := Lib.hid (by have := HP.out; omega)
  have B1 := Lib.hid (HB.out.trans (b1.mono HB.out.size))
  clear k1 b1 c1
  go_wp2_with fail
  refine ret_cell_tmp2 (p := 4) (u := 5) (v := .agg #[.int .i64 0, .int .i64 0, .int .i64 0, .int .i64 0]) rfl rfl rfl (by go_simp) rfl ⟨rfl, ?_⟩
  first
    | exact B1.out
    | exact (((B1.out.setCell (p := ⟨p + 1, 0, none⟩) HPL.out _).setCell (p := ⟨p + 1, 1, none⟩) HPL.out _).setCell (p := ⟨p + 1, 2, none⟩) HPL.out _).setCell (p := ⟨p + 1, 3, none⟩) HPL.out _

end Go.Proofs.Ytlakcldgolpaiaa

/-
  The document's AddV, DelV, Link, Cut at a forest that has nothing.
-/
namespace Go.Proofs.Ytlakcldgolpaiaa
open Go.RowKit Go.Maps
set_option linter.unusedVariables false

set_option maxRecDepth 100000 in
set_option maxHeartbeats 2000000 in
theorem with_nil (w : World) (x : Int) : Calls Try.prog 22 #[.slice none 0 0, .int .i64 x] w fun e w' => (∃ A n c, e = .returned (.slice A n c)) ∧ Below w.heap.size w w' := by
  go_enter Try.func22, Try.ntmps22
  go_wp2_with fail
  have hO : OK encI 1 3 (w.alloc (.cells #[] 3)) w.heap.size (.slice (some ⟨w.heap.size, 0, none⟩) 0 0) [] := ⟨by simp, by simp, .inr ⟨w.heap.size, 0, #[], rfl, Nat.le_refl _, heap_alloc_new w _, by simp, by simp [maxLen], by simp, by simp⟩⟩
  have HO := Lib.hid hO
  have HB := Lib.hid ((Below.refl w.heap.size w).alloc (Nat.le_refl _) (Obj.cells #[] 3))
  obtain ⟨p, hp⟩ : ∃ p, p = w.heap.size := ⟨_, rfl⟩
  obtain ⟨W, hW⟩ : ∃ W, W = w.alloc (.cells #[] 3) := ⟨_, rfl⟩
  rw [← hW] at HO HB
  have HP := Lib.hid hp
  have HW := Lib.hid hW
  clear hp hW hO
  try rw [← HW.out]
  try simp only [← HP.out]
  go_loopw [5, 6, 7] (fun t d i wr => t = .slice (some ⟨p, 0, none⟩) 0 0 ∧ d = .bool false ∧ i = .int .i64 0 ∧ wr = W) (fun _ _ i wr => 0)
  case atStart => exact ⟨rfl, rfl, rfl, rfl⟩
  case round =>
    obtain ⟨rfl, rfl, rfl, hwr⟩ := hrel
    rw [hwr]
    clear hwr
    go_wp2_with (at_builtin; refine wpList_appE etI encI_len encI_one (y := x) rfl (.tmp 38) (.tmp 40) rfl rfl ((show OK encI 1 3 W w.heap.size (.slice (some ⟨p, 0, none⟩) 0 0) [] from HP.out ▸ HO.out).alloc _) W.heap.size rfl (oneI W x _) (by simp) (base1 HB.out.size _) ?_; intro v5 w5 ho5 hg5 hb5; have HB5 := Lib.hid ((HB.out.alloc HB.out.size _).grown hg5 (base1 HB.out.size _) (fun q hq => (HO.out.lt q (by rw [← HP.out]; exact hq)).1)); obtain ⟨A5, c5, hv5, _, _, _, _⟩ := (ho5.rk encI_len (Nat.le_refl _)).open_; subst hv5; clear ho5 hg5 hb5)
    go_ret
    exact ⟨⟨_, _, _, rfl⟩, HB5.out⟩

end Go.Proofs.Ytlakcldgolpaiaa

/-
  The document's AddV, DelV, Link, Cut at a forest that has nothing.
-/
namespace Go.Proofs.Ytlakcldgolpaiaa
open Go.RowKit Go.Maps
set_option linter.unusedVariables false

def z4 : Obj := Obj.cells #[.slice none 0 0, .slice none 0 0, .slice none 0 0, .slice none 0 0] 31

/-- The box of an empty forest at p, the result's cell behind it. -/
structure Box2 (w W : World) (p : Nat) : Prop where
  b0 : Blk W p 31 #[.slice none 0 0, .slice none 0 0, .slice none 0 0, .slice none 0 0]
  b1 : Blk W (p + 1) 31 #[.slice none 0 0, .slice none 0 0, .slice none 0 0, .slice none 0 0]
  below : Below w.heap.size w W
  lo : w.heap.size ≤ p

theorem box2 (w : World) : Box2 w ((w.alloc z4).alloc z4) w.heap.size := by
  refine ⟨(Blk.new _ _ _).alloc _, ?_, ((Below.refl _ _).alloc (Nat.le_refl _) _).alloc (by simp) _, Nat.le_refl _⟩
  have := Blk.new (w.alloc z4) 31 #[.slice none 0 0, .slice none 0 0, .slice none 0 0, .slice none 0 0]
  simpa [z4] using this

theorem Box2.after {w W W' : World} {p : Nat} (h : Box2 w W p) (hb : Below W.heap.size W W') : Box2 w W' p := ⟨h.b0.below hb h.b0.lt, h.b1.below hb h.b1.lt, h.below.trans (hb.mono h.below.size), h.lo⟩

theorem below4 {w W : World} {q : Nat} (h : Below w.heap.size w W) (hq : w.heap.size ≤ q) (a b c d : Value) : Below w.heap.size w ((((W.setCell ⟨q, 0, none⟩ a).setCell ⟨q, 1, none⟩ b).setCell ⟨q, 2, none⟩ c).setCell ⟨q, 3, none⟩ d) :=
  (((h.setCell (p := ⟨q, 0, none⟩) hq _).setCell (p := ⟨q, 1, none⟩) hq _).setCell (p := ⟨q, 2, none⟩) hq _).setCell (p := ⟨q, 3, none⟩) hq _

theorem below2 {w W : World} {q : Nat} (h : Below w.heap.size w W) (hq : w.heap.size ≤ q) (a b : Value) : Below w.heap.size w ((W.setCell ⟨q, 0, none⟩ a).setCell ⟨q, 1, none⟩ b) :=
  (h.setCell (p := ⟨q, 0, none⟩) hq _).setCell (p := ⟨q, 1, none⟩) hq _

set_option maxRecDepth 100000 in
set_option maxHeartbeats 4000000 in
theorem refAddV_nil (w : World) (v : Int) : Calls Try.prog 28 #[emptyD, .int .i64 v] w fun e w' => (∃ x n, e = .returned (.tuple #[x, .int .i64 n]) ∧ Four x) ∧ Below w.heap.size w w' := by
  obtain ⟨W, hW⟩ : ∃ W, W = (w.alloc z4).alloc z4 := ⟨_, rfl⟩
  obtain ⟨q, hq⟩ : ∃ q, q = w.heap.size := ⟨_, rfl⟩
  have hbx := box2 w
  rw [← hW, ← hq] at hbx
  unfold z4 at hW
  have HW := Lib.hid hW
  have HQ := Lib.hid hq
  have BX := Lib.hid (show Box2 w W q from hq ▸ hbx)
  clear hW hq hbx
  change Calls Try.prog _ #[.agg #[.slice none 0 0, .slice none 0 0, .slice none 0 0, .slice none 0 0], .int .i64 v] w _
  go_enter Try.func28, Try.ntmps28
  go_upto_region 1 with fail
  rw [← HW.out]
  try simp only [← HQ.out]
  have c0 := BX.out.b0.cell 0
  have c1 := BX.out.b0.cell 1
  have c2 := BX.out.b0.cell 2
  have c3 := BX.out.b0.cell 3
  have cr0 := BX.out.b1.cell 0
  have cf0 := BX.out.b1.frozen 0
  have cr1 := BX.out.b1.cell 1
  have cf1 := BX.out.b1.frozen 1
  have cr2 := BX.out.b1.cell 2
  have cf2 := BX.out.b1.frozen 2
  have cr3 := BX.out.b1.cell 3
  have cf3 := BX.out.b1.frozen 3
  go_wp2_with fail
  refine (badId_any v W).mono ?_
  rintro e w1 ⟨rfl, hw1⟩
  subst hw1
  by_cases h0 : okId v
  · rw [isIdI_yes h0]
    clear h0
    go_wp2_with fail
    refine (has_any _ [] w1 w1.heap.size (RK.nil _ _) v).mono ?_
    rw [decide_eq_false (by simp)]
    rintro e w2 ⟨rfl, hw2⟩
    subst hw2
    go_wp2_with fail
    go_region_law (first | (go_simp; go_at_call 22; refine (with_nil _ v).mono ?_; rintro e w3 ⟨⟨A3, n3, c3, rfl⟩, b3⟩; have BX3 := Lib.hid (BX.out.after ((Below.refl _ w2).drew.trans b3)); have d0 := BX3.out.b0.cell 0; have d1 := BX3.out.b0.cell 1; have d2 := BX3.out.b0.cell 2; have d3 := BX3.out.b0.cell 3; have dr0 := BX3.out.b1.cell 0; have df0 := BX3.out.b1.frozen 0; have dr1 := BX3.out.b1.cell 1; have df1 := BX3.out.b1.frozen 1; have dr2 := BX3.out.b1.cell 2; have df2 := BX3.out.b1.frozen 2; have dr3 := BX3.out.b1.cell 3; have df3 := BX3.out.b1.frozen 3; have g0 := BX3.out.b0.frozen 0; have g1 := BX3.out.b0.frozen 1; clear b3))
    all_goals (
      go_wp2_with fail
      refine ret_cell_tmp2 (p := 4) (u := 5) (v := .agg #[.slice A3 n3 c3, .slice none 0 0, .slice none 0 0, .slice none 0 0]) rfl rfl rfl (by go_simp) rfl ⟨⟨_, _, rfl, ⟨_, _, _, _, _, _, _, _, _, _, _, _, rfl⟩⟩, ?_⟩
      exact below4 (below2 BX3.out.below BX3.out.lo _ _) (by have := BX3.out.lo; omega) _ _ _ _)
  · rw [isIdI_no h0]
    go_wp2_with fail
    refine ret_cell_tmp2 (p := 4) (u := 5) (v := .agg #[.slice none 0 0, .slice none 0 0, .slice none 0 0, .slice none 0 0]) rfl rfl rfl (by go_simp) rfl ⟨⟨_, _, rfl, four_empty⟩, ?_⟩
    first | exact BX.out.below | exact below4 BX.out.below (by have := BX.out.lo; omega) _ _ _ _

set_option maxRecDepth 100000 in
set_option maxHeartbeats 4000000 in
theorem refDelV_nil (w : World) (v : Int) : Calls Try.prog 29 #[emptyD, .int .i64 v] w fun e w' => (∃ x n, e = .returned (.tuple #[x, .int .i64 n]) ∧ Four x) ∧ Below w.heap.size w w' := by
  obtain ⟨W, hW⟩ : ∃ W, W = (w.alloc z4).alloc z4 := ⟨_, rfl⟩
  obtain ⟨q, hq⟩ : ∃ q, q = w.heap.size := ⟨_, rfl⟩
  have hbx := box2 w
  rw [← hW, ← hq] at hbx
  unfold z4 at hW
  have HW := Lib.hid hW
  have HQ := Lib.hid hq
  have BX := Lib.hid (show Box2 w W q from hq ▸ hbx)
  clear hW hq hbx
  change Calls Try.prog _ #[.agg #[.slice none 0 0, .slice none 0 0, .slice none 0 0, .slice none 0 0], .int .i64 v] w _
  go_enter Try.func29, Try.ntmps29
  go_upto_region 1 with fail
  rw [← HW.out]
  try simp only [← HQ.out]
  have c0 := BX.out.b0.cell 0
  have c1 := BX.out.b0.cell 1
  have c2 := BX.out.b0.cell 2
  have c3 := BX.out.b0.cell 3
  have cr0 := BX.out.b1.cell 0
  have cf0 := BX.out.b1.frozen 0
  have cr1 := BX.out.b1.cell 1
  have cf1 := BX.out.b1.frozen 1
  have cr2 := BX.out.b1.cell 2
  have cf2 := BX.out.b1.frozen 2
  have cr3 := BX.out.b1.cell 3
  have cf3 := BX.out.b1.frozen 3
  go_wp2_with fail
  refine (badId_any v W).mono ?_
  rintro e wx ⟨rfl, hwx⟩
  rw [hwx]
  clear hwx wx
  by_cases h0 : okId v
  · rw [isIdI_yes h0]
    clear h0
    go_wp2_with fail
    refine (has_any _ [] W W.heap.size (RK.nil _ _) v).mono ?_
    rw [decide_eq_false (by simp)]
    rintro e wx ⟨rfl, hwx⟩
    rw [hwx]
    clear hwx wx
    go_wp2_with fail
    refine ret_cell_tmp2 (p := 4) (u := 5) (v := .agg #[.slice none 0 0, .slice none 0 0, .slice none 0 0, .slice none 0 0]) rfl rfl rfl (by go_simp) rfl ⟨⟨_, _, rfl, four_empty⟩, ?_⟩
    first | exact BX.out.below | exact below4 BX.out.below (by have := BX.out.lo; omega) _ _ _ _
  · rw [isIdI_no h0]
    go_wp2_with fail
    refine ret_cell_tmp2 (p := 4) (u := 5) (v := .agg #[.slice none 0 0, .slice none 0 0, .slice none 0 0, .slice none 0 0]) rfl rfl rfl (by go_simp) rfl ⟨⟨_, _, rfl, four_empty⟩, ?_⟩
    first | exact BX.out.below | exact below4 BX.out.below (by have := BX.out.lo; omega) _ _ _ _

theorem box3 (w : World) : Box2 w (((w.alloc z4).alloc z4)) w.heap.size := box2 w

set_option maxRecDepth 100000 in
set_option maxHeartbeats 4000000 in
theorem refCut_nil (w : World) (v : Int) : Calls Try.prog 31 #[emptyD, .int .i64 v] w fun e w' => (∃ x n, e = .returned (.tuple #[x, .int .i64 n]) ∧ Four x) ∧ Below w.heap.size w w' := by
  obtain ⟨W, hW⟩ : ∃ W, W = (w.alloc z4).alloc z4 := ⟨_, rfl⟩
  obtain ⟨q, hq⟩ : ∃ q, q = w.heap.size := ⟨_, rfl⟩
  have hbx := box2 w
  rw [← hW, ← hq] at hbx
  unfold z4 at hW
  have HW := Lib.hid hW
  have HQ := Lib.hid hq
  have BX := Lib.hid (show Box2 w W q from hq ▸ hbx)
  clear hW hq hbx
  change Calls Try.prog _ #[.agg #[.slice none 0 0, .slice none 0 0, .slice none 0 0, .slice none 0 0], .int .i64 v] w _
  go_enter Try.func31, Try.ntmps31
  go_upto_region 1 with fail
  rw [← HW.out]
  try simp only [← HQ.out]
  have c0 := BX.out.b0.cell 0
  have c1 := BX.out.b0.cell 1
  have c2 := BX.out.b0.cell 2
  have c3 := BX.out.b0.cell 3
  have cr0 := BX.out.b1.cell 0
  have cf0 := BX.out.b1.frozen 0
  have cr1 := BX.out.b1.cell 1
  have cf1 := BX.out.b1.frozen 1
  have cr2 := BX.out.b1.cell 2
  have cf2 := BX.out.b1.frozen 2
  have cr3 := BX.out.b1.cell 3
  have cf3 := BX.out.b1.frozen 3
  go_wp2_with fail
  refine (badId_any v W).mono ?_
  rintro e wx ⟨rfl, hwx⟩
  rw [hwx]
  clear hwx wx
  by_cases h0 : okId v
  · rw [isIdI_yes h0]
    clear h0
    go_wp2_with fail
    refine (refEdge_nil W v).mono ?_
    rintro e w3 ⟨rfl, b3⟩
    have BX3 := Lib.hid ((BX.out.after b3).after ((Below.refl w3.heap.size w3).alloc (Nat.le_refl _) (Obj.cells #[.int .i64 0, .int .i64 0, .int .i64 0, .int .i64 0] 37)))
    have d0 := BX3.out.b0.cell 0
    have d1 := BX3.out.b0.cell 1
    have d2 := BX3.out.b0.cell 2
    have d3 := BX3.out.b0.cell 3
    have dr0 := BX3.out.b1.cell 0
    have df0 := BX3.out.b1.frozen 0
    have dr1 := BX3.out.b1.cell 1
    have df1 := BX3.out.b1.frozen 1
    have dr2 := BX3.out.b1.cell 2
    have df2 := BX3.out.b1.frozen 2
    have dr3 := BX3.out.b1.cell 3
    have df3 := BX3.out.b1.frozen 3
    clear c0 cr0 cf0 c1 cr1 cf1 c2 cr2 cf2 c3 cr3 cf3
    clear b3
    go_upto_region 4 with fail
    obtain ⟨W4, hW4⟩ : ∃ W4, W4 = w3.alloc (.cells #[.int .i64 0, .int .i64 0, .int .i64 0, .int .i64 0] 37) := ⟨_, rfl⟩
    rw [← hW4] at BX3 d0 dr0 df0 d1 dr1 df1 d2 dr2 df2 d3 dr3 df3 ⊢
    clear hW4
    go_wp2_with fail
    refine ret_cell_tmp2 (p := 4) (u := 5) (v := .agg #[.slice none 0 0, .slice none 0 0, .slice none 0 0, .slice none 0 0]) rfl rfl rfl (by go_simp) rfl ⟨⟨_, _, rfl, four_empty⟩, ?_⟩
    first | exact BX3.out.below | exact below4 BX3.out.below (by have := BX3.out.lo; omega) _ _ _ _
  · rw [isIdI_no h0]
    go_wp2_with fail
    refine ret_cell_tmp2 (p := 4) (u := 5) (v := .agg #[.slice none 0 0, .slice none 0 0, .slice none 0 0, .slice none 0 0]) rfl rfl rfl (by go_simp) rfl ⟨⟨_, _, rfl, four_empty⟩, ?_⟩
    first | exact BX.out.below | exact below4 BX.out.below (by have := BX.out.lo; omega) _ _ _ _

end Go.Proofs.Ytlakcldgolpaiaa

/-
  The document's Link and Mark at a forest that has nothing.
-/
namespace Go.Proofs.Ytlakcldgolpaiaa
open Go.RowKit Go.Maps
set_option linter.unusedVariables false

/-- The boxes of an empty forest and of an edge, the result's cell behind them. -/
structure Box5 (w W : World) (p : Nat) (i u v x : Int) : Prop where
  b0 : Blk W p 31 #[.slice none 0 0, .slice none 0 0, .slice none 0 0, .slice none 0 0]
  be : Blk W (p + 1) 37 #[.int .i64 i, .int .i64 u, .int .i64 v, .int .i64 x]
  b1 : Blk W (p + 2) 31 #[.slice none 0 0, .slice none 0 0, .slice none 0 0, .slice none 0 0]
  below : Below w.heap.size w W
  lo : w.heap.size ≤ p

theorem box5 (w : World) (i u v x : Int) : Box5 w (((w.alloc z4).alloc (Obj.cells #[.int .i64 i, .int .i64 u, .int .i64 v, .int .i64 x] 37)).alloc z4) w.heap.size i u v x := by
  refine ⟨((Blk.new _ _ _).alloc _).alloc _, ?_, ?_, (((Below.refl _ _).alloc (Nat.le_refl _) _).alloc (by simp) _).alloc (by simp; omega) _, Nat.le_refl _⟩
  · have := (Blk.new (w.alloc z4) 37 #[.int .i64 i, .int .i64 u, .int .i64 v, .int .i64 x]).alloc z4
    simpa [z4] using this
  · have := Blk.new ((w.alloc z4).alloc (Obj.cells #[.int .i64 i, .int .i64 u, .int .i64 v, .int .i64 x] 37)) 31 #[.slice none 0 0, .slice none 0 0, .slice none 0 0, .slice none 0 0]
    simpa [z4] using this

theorem Box5.after {w W W' : World} {p : Nat} {i u v x : Int} (h : Box5 w W p i u v x) (hb : Below W.heap.size W W') : Box5 w W' p i u v x := ⟨h.b0.below hb h.b0.lt, h.be.below hb h.be.lt, h.b1.below hb h.b1.lt, h.below.trans (hb.mono h.below.size), h.lo⟩

set_option maxRecDepth 100000 in
set_option maxHeartbeats 4000000 in
theorem refLink_nil (w : World) (id u v : Int) : Calls Try.prog 30 #[emptyD, .agg #[.int .i64 id, .int .i64 u, .int .i64 v, .int .i64 0]] w fun e w' => (∃ x n, e = .returned (.tuple #[x, .int .i64 n]) ∧ Four x) ∧ Below w.heap.size w w' := by
  obtain ⟨W, hW⟩ : ∃ W, W = ((w.alloc z4).alloc (Obj.cells #[.int .i64 id, .int .i64 u, .int .i64 v, .int .i64 0] 37)).alloc z4 := ⟨_, rfl⟩
  obtain ⟨q, hq⟩ : ∃ q, q = w.heap.size := ⟨_, rfl⟩
  have hbx := box5 w id u v 0
  rw [← hW, ← hq] at hbx
  unfold z4 at hW
  have HW := Lib.hid hW
  have HQ := Lib.hid hq
  have BX := Lib.hid (show Box5 w W q id u v 0 from hq ▸ hbx)
  clear hW hq hbx
  change Calls Try.prog _ #[.agg #[.slice none 0 0, .slice none 0 0, .slice none 0 0, .slice none 0 0], .agg #[.int .i64 id, .int .i64 u, .int .i64 v, .int .i64 0]] w _
  go_enter Try.func30, Try.ntmps30
  go_upto_region 1 with fail
  rw [← HW.out]
  try simp only [← HQ.out]
  have c0 := BX.out.b0.cell 0
  have ce0 := BX.out.be.cell 0
  have cr0 := BX.out.b1.cell 0
  have cf0 := BX.out.b1.frozen 0
  have c1 := BX.out.b0.cell 1
  have ce1 := BX.out.be.cell 1
  have cr1 := BX.out.b1.cell 1
  have cf1 := BX.out.b1.frozen 1
  have c2 := BX.out.b0.cell 2
  have ce2 := BX.out.be.cell 2
  have cr2 := BX.out.b1.cell 2
  have cf2 := BX.out.b1.frozen 2
  have c3 := BX.out.b0.cell 3
  have ce3 := BX.out.be.cell 3
  have cr3 := BX.out.b1.cell 3
  have cf3 := BX.out.b1.frozen 3
  go_wp2_with fail
  refine (badId_any id W).mono ?_
  rintro e wx ⟨rfl, hwx⟩
  rw [hwx]
  clear hwx wx
  by_cases hid : okId id
  case neg =>
    rw [isIdI_no hid]
    go_wp2_with fail
    refine ret_cell_tmp2 (p := 4) (u := 5) (v := .agg #[.slice none 0 0, .slice none 0 0, .slice none 0 0, .slice none 0 0]) rfl rfl rfl (by go_simp) rfl ⟨⟨_, _, rfl, four_empty⟩, ?_⟩
    first | exact BX.out.below | exact below4 BX.out.below (by have := BX.out.lo; omega) _ _ _ _
  rw [isIdI_yes hid]
  clear hid
  go_wp2_with fail
  refine (badId_any u W).mono ?_
  rintro e wx ⟨rfl, hwx⟩
  rw [hwx]
  clear hwx wx
  by_cases hu : okId u
  case neg =>
    rw [isIdI_no hu]
    go_wp2_with fail
    refine ret_cell_tmp2 (p := 4) (u := 5) (v := .agg #[.slice none 0 0, .slice none 0 0, .slice none 0 0, .slice none 0 0]) rfl rfl rfl (by go_simp) rfl ⟨⟨_, _, rfl, four_empty⟩, ?_⟩
    first | exact BX.out.below | exact below4 BX.out.below (by have := BX.out.lo; omega) _ _ _ _
  rw [isIdI_yes hu]
  clear hu
  go_wp2_with fail
  refine (badId_any v W).mono ?_
  rintro e wx ⟨rfl, hwx⟩
  rw [hwx]
  clear hwx wx
  by_cases hv : okId v
  case neg =>
    rw [isIdI_no hv]
    go_wp2_with fail
    refine ret_cell_tmp2 (p := 4) (u := 5) (v := .agg #[.slice none 0 0, .slice none 0 0, .slice none 0 0, .slice none 0 0]) rfl rfl rfl (by go_simp) rfl ⟨⟨_, _, rfl, four_empty⟩, ?_⟩
    first | exact BX.out.below | exact below4 BX.out.below (by have := BX.out.lo; omega) _ _ _ _
  rw [isIdI_yes hv]
  clear hv
  go_wp2_with fail
  refine (refEdge_nil W id).mono ?_
  rintro e w3 ⟨rfl, b3⟩
  have BX3 := Lib.hid ((BX.out.after b3).after ((Below.refl w3.heap.size w3).alloc (Nat.le_refl _) (Obj.cells #[.int .i64 0, .int .i64 0, .int .i64 0, .int .i64 0] 37)))
  have d0 := BX3.out.b0.cell 0
  have de0 := BX3.out.be.cell 0
  have dr0 := BX3.out.b1.cell 0
  have df0 := BX3.out.b1.frozen 0
  have d1 := BX3.out.b0.cell 1
  have de1 := BX3.out.be.cell 1
  have dr1 := BX3.out.b1.cell 1
  have df1 := BX3.out.b1.frozen 1
  have d2 := BX3.out.b0.cell 2
  have de2 := BX3.out.be.cell 2
  have dr2 := BX3.out.b1.cell 2
  have df2 := BX3.out.b1.frozen 2
  have d3 := BX3.out.b0.cell 3
  have de3 := BX3.out.be.cell 3
  have dr3 := BX3.out.b1.cell 3
  have df3 := BX3.out.b1.frozen 3
  clear c0 ce0 cr0 cf0 c1 ce1 cr1 cf1 c2 ce2 cr2 cf2 c3 ce3 cr3 cf3
  clear b3
  go_upto_region 4 with fail
  obtain ⟨W4, hW4⟩ : ∃ W4, W4 = w3.alloc (.cells #[.int .i64 0, .int .i64 0, .int .i64 0, .int .i64 0] 37) := ⟨_, rfl⟩
  rw [← hW4] at BX3 d0 de0 dr0 df0 d1 de1 dr1 df1 d2 de2 dr2 df2 d3 de3 dr3 df3 ⊢
  clear hW4
  go_wp2_with fail
  refine (has_any _ [] W4 W4.heap.size (RK.nil _ _) u).mono ?_
  rw [decide_eq_false (by simp)]
  rintro e wx ⟨rfl, hwx⟩
  rw [hwx]
  clear hwx wx
  go_wp2_with fail
  refine ret_cell_tmp2 (p := 4) (u := 5) (v := .agg #[.slice none 0 0, .slice none 0 0, .slice none 0 0, .slice none 0 0]) rfl rfl rfl (by go_simp) rfl ⟨⟨_, _, rfl, four_empty⟩, ?_⟩
  first | exact BX3.out.below | exact below4 BX3.out.below (by have := BX3.out.lo; omega) _ _ _ _

end Go.Proofs.Ytlakcldgolpaiaa
