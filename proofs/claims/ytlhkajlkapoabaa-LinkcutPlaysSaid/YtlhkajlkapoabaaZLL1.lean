/-
  One forest, or two, in a law: a forest's blocks are new, all other blocks stay; one contract for each call.
-/
import Derived.Test.YtlhkajlkapoabaaZLK36
namespace Go.Proofs.Ytlhkajlkapoabaa
open Go.RowKit Go.Maps
set_option linter.unusedVariables false

/-- A type that none of a forest's blocks has. -/
def NotL (t : TypeId) : Prop := t ≠ 64 ∧ t ≠ 71

/-- What lies below B stays, and the blocks of Q, and so do all blocks of a type that forests don't have. -/
structure TameL (B : Nat) (Q : Nat → Prop) (w w' : World) : Prop where
  below : Below B w w'
  size : w.heap.size ≤ w'.heap.size
  rows : ∀ (k : Nat) (cs : Array Value) (t : TypeId) (fr : Nat × Nat), w.heap[k]? = some (Obj.cells cs t fr) → NotL t → w'.heap[k]? = some (Obj.cells cs t fr)
  kept : ∀ k, Q k → k < w.heap.size → w'.heap[k]? = w.heap[k]?

section

variable {B : Nat} {Q : Nat → Prop} {w w' : World} {f : Nat} {F F' : LF}

theorem TameL.refl (B : Nat) (Q : Nat → Prop) (w : World) : TameL B Q w w := ⟨Below.refl _ _, Nat.le_refl _, fun _ _ _ _ h _ => h, fun _ _ _ => rfl⟩

theorem TameL.trans {w1 : World} (h : TameL B Q w w1) (h' : TameL B Q w1 w') : TameL B Q w w' :=
  ⟨h.below.trans h'.below, Nat.le_trans h.size h'.size, fun k cs t fr hb h1 => h'.rows k cs t fr (h.rows k cs t fr hb h1) h1, fun k hq hk => (h'.kept k hq (Nat.lt_of_lt_of_le hk h.size)).trans (h.kept k hq hk)⟩

theorem TameL.of_below (h : Below w.heap.size w w') (hB : B ≤ w.heap.size) : TameL B Q w w' :=
  ⟨h.mono hB, h.size, fun k cs t fr hb _ => (h.block k (Array.getElem?_eq_some_iff.1 hb).1).trans hb, fun k _ hk => h.block k hk⟩

theorem TameL.blk {q : Nat} {t : TypeId} {cs : Array Value} (h : TameL B Q w w') (hb : Blk w q t cs) (hn : NotL t) : Blk w' q t cs := h.rows _ _ _ _ hb hn

theorem TameL.rowN {α : Type} {enc : α → List Value} {k E B' : Nat} {v : Value} {xs : List α} (h : TameL B Q w w') (ho : OK enc k E w B' v xs) (hn : NotL E) : OK enc k E w' B' v xs := by
  refine ⟨ho.1, ho.2.1, ?_⟩
  rcases ho.2.2 with h4 | ⟨q, cap, cur, hv, hg, hb, r⟩
  · exact .inl h4
  · exact .inr ⟨q, cap, cur, hv, hg, h.rows _ _ _ _ hb hn, r⟩

/-- A forest's blocks. -/
def ownL (f bv be : Nat) (S : Nat → Prop) (k : Nat) : Prop := k = f ∨ k = bv ∨ k = be ∨ S k

/-- A forest whose blocks are all from B on, and none of Q. -/
def LB (B : Nat) (Q : Nat → Prop) (w : World) (f : Nat) (F : LF) : Prop :=
  ∃ bv be S P N K vs es, LFAt w f bv be S P N K vs es F ∧ (∀ k, ownL f bv be S k → B ≤ k ∧ ¬ Q k) ∧ ∀ k, Q k → k < w.heap.size

theorem LFAt.lt {bv be : Nat} {S : Nat → Prop} {P : Nat → Option Nat} {N : Nat → NdL} {K : List (ST × Option Nat)} {vs es : Int → Option Nat} (h : LFAt w f bv be S P N K vs es F) {k : Nat} (hk : ownL f bv be S k) : k < w.heap.size := by
  rcases hk with rfl | rfl | rfl | hk
  · exact h.at_.blk.lt
  · exact h.at_.verts.lt
  · exact h.at_.edges.lt
  · exact (h.at_.at_ k hk).lt

theorem LFAt.types {bv be : Nat} {S : Nat → Prop} {P : Nat → Option Nat} {N : Nat → NdL} {K : List (ST × Option Nat)} {vs es : Int → Option Nat} (h : LFAt w f bv be S P N K vs es F) {k : Nat} (hk : ownL f bv be S k) {cs : Array Value} {t : TypeId} {fr : Nat × Nat} (hb : w.heap[k]? = some (Obj.cells cs t fr)) : ¬ NotL t := by
  rintro ⟨n1, n2⟩
  rcases hk with rfl | rfl | rfl | hk
  · have := h.at_.blk
    unfold Blk at this
    rw [this] at hb
    injection hb with hb
    injection hb with _ hb _
    exact n1 hb.symm
  · obtain ⟨D, ⟨es, clock, h1, _⟩, _⟩ := h.at_.verts
    rw [h1] at hb; cases hb
  · obtain ⟨D, ⟨es, clock, h1, _⟩, _⟩ := h.at_.edges
    rw [h1] at hb; cases hb
  · have := h.at_.at_ k hk
    unfold Blk at this
    rw [this] at hb
    injection hb with hb
    injection hb with _ hb _
    exact n2 hb.symm

theorem LB.below (h : LB B Q w f F) (hb : Below w.heap.size w w') : LB B Q w' f F := by
  obtain ⟨bv, be, S, P, N, K, vs, es, h1, h2, h3⟩ := h
  exact ⟨bv, be, S, P, N, K, vs, es, h1.below hb, h2, fun k hk => Nat.lt_of_lt_of_le (h3 k hk) hb.size⟩

theorem LB.weak {B' : Nat} {Q' : Nat → Prop} (h : LB B Q w f F) (hB : B' ≤ B) (hq : ∀ k, Q' k → Q k) : LB B' Q' w f F := by
  obtain ⟨bv, be, S, P, N, K, vs, es, h1, h2, h3⟩ := h
  exact ⟨bv, be, S, P, N, K, vs, es, h1, fun k hk => ⟨Nat.le_trans hB (h2 k hk).1, fun e => (h2 k hk).2 (hq k e)⟩, fun k hk => h3 k (hq k hk)⟩

/-- The forest behind a call: its blocks are old ones or new. -/
theorem lb_next {bv be : Nat} {S S' : Nat → Prop} {P P' : Nat → Option Nat} {N N' : Nat → NdL} {K K' : List (ST × Option Nat)} {vs es vs' es' : Int → Option Nat} (h : LFAt w f bv be S P N K vs es F) (h2 : (∀ k, ownL f bv be S k → B ≤ k ∧ ¬ Q k) ∧ ∀ k, Q k → k < w.heap.size) (hB : B ≤ w.heap.size)
    (h' : LFAt w' f bv be S' P' N' K' vs' es' F') (hS : ∀ k, S' k → S k ∨ w.heap.size ≤ k) (hm : Mod (ownL f bv be S) w w') : LB B Q w' f F' ∧ TameL B Q w w' := by
  refine ⟨⟨bv, be, S', P', N', K', vs', es', h', fun k hk => ?_, fun k hk => Nat.lt_of_lt_of_le (h2.2 k hk) hm.size⟩, hm.below hB (fun k hk => (h2.1 k hk).1), hm.size, fun k cs t fr hb hn => ?_, fun k hq hk => hm.block k hk fun e => (h2.1 k e).2 hq⟩
  · rcases hk with hk | hk | hk | hk
    · exact h2.1 k (.inl hk)
    · exact h2.1 k (.inr (.inl hk))
    · exact h2.1 k (.inr (.inr (.inl hk)))
    · rcases hS k hk with e | e
      · exact h2.1 k (.inr (.inr (.inr e)))
      · exact ⟨by omega, fun hq => by have := h2.2 k hq; omega⟩
  · exact (hm.block k (Array.getElem?_eq_some_iff.1 hb).1 fun e => h.types e hb hn).trans hb

theorem lturn_b {bv be : Nat} {S : Nat → Prop} {P : Nat → Option Nat} {N : Nat → NdL} {K : List (ST × Option Nat)} {vs es : Int → Option Nat} (h : LFAt w f bv be S P N K vs es F) (h2 : (∀ k, ownL f bv be S k → B ≤ k ∧ ¬ Q k) ∧ ∀ k, Q k → k < w.heap.size) (hB : B ≤ w.heap.size) (ht : LTurn w f bv be S vs es F w') : LB B Q w' f F ∧ TameL B Q w w' := by
  obtain ⟨P', N', K', h', hm⟩ := ht
  exact lb_next h h2 hB h' (fun k hk => .inl hk) (hm.mono fun k _ hk => .inr (.inr (.inr hk)))

end

/-- What is left of a forest when a vertex comes, goes, or an edge does. -/
noncomputable def LF.addA (F : LF) (v : Int) : LF := if F.addE v = 0 then ⟨F.vs ++ [v], F.es⟩ else F

noncomputable def LF.delA (F : LF) (v : Int) : LF := if F.delE v = 0 then ⟨F.vs.filter (fun u => u != v), F.es⟩ else F

noncomputable def LF.linkA (F : LF) (id u v wt : Int) : LF := if F.linkE id u v wt = 0 then ⟨F.vs, F.es ++ [⟨id, u, v, wt.toNat⟩]⟩ else F

noncomputable def LF.cutA (F : LF) (id : Int) : LF := if F.cutE id = 0 then F.less id else F

section

variable (B : Nat) (Q : Nat → Prop) (w : World) (f : Nat) (F : LF) (h : LB B Q w f F) (hB : B ≤ w.heap.size)

include h hB

theorem bAddV (v : Int) (hv : I64 v) : Calls Try.prog 23 #[.pointer (some ⟨f, 0, none⟩), .int .i64 v] w fun e w' => e = .returned (.int .i64 (F.addE v)) ∧ LB B Q w' f (F.addA v) ∧ TameL B Q w w' := by
  obtain ⟨bv, be, S, P, N, K, vs, es, h1, h2⟩ := h
  by_cases hz : F.addE v = 0
  · refine (addV_yes h1 v hv hz).mono ?_
    rintro e w' ⟨rfl, m, h'⟩
    unfold LF.addA
    rw [if_pos hz, hz]
    exact ⟨rfl, lb_next h1 h2 hB h' (fun k hk => hk.imp id fun e => by omega) (m.mono fun k _ hk => .inr (.inl hk))⟩
  · refine (addV_no h1 v hv hz).mono ?_
    rintro e w' ⟨rfl, rfl⟩
    unfold LF.addA
    rw [if_neg hz]
    exact ⟨rfl, ⟨bv, be, S, P, N, K, vs, es, h1, h2⟩, TameL.refl _ _ _⟩

theorem bDelV (v : Int) (hv : I64 v) : Calls Try.prog 25 #[.pointer (some ⟨f, 0, none⟩), .int .i64 v] w fun e w' => e = .returned (.int .i64 (F.delE v)) ∧ LB B Q w' f (F.delA v) ∧ TameL B Q w w' := by
  obtain ⟨bv, be, S, P, N, K, vs, es, h1, h2⟩ := h
  by_cases hz : F.delE v = 0
  · refine (delV_yes h1 v hv hz).mono ?_
    rintro e w' ⟨rfl, m, a, K', ha, h'⟩
    unfold LF.delA
    rw [if_pos hz, hz]
    exact ⟨rfl, lb_next h1 h2 hB h' (fun k hk => .inl hk.1) (m.mono fun k _ hk => .inr (.inl hk))⟩
  · refine (delV_no h1 v hv hz).mono ?_
    rintro e w' ⟨rfl, rfl⟩
    unfold LF.delA
    rw [if_neg hz]
    exact ⟨rfl, ⟨bv, be, S, P, N, K, vs, es, h1, h2⟩, TameL.refl _ _ _⟩

theorem bLink (id u v wt : Int) (hi : I64 id) (hu : I64 u) (hv : I64 v) (hw : I64 wt) : Calls Try.prog 17 #[.pointer (some ⟨f, 0, none⟩), .agg #[.int .i64 id, .int .i64 u, .int .i64 v, .int .i64 wt]] w fun e w' => e = .returned (.int .i64 (F.linkE id u v wt)) ∧ LB B Q w' f (F.linkA id u v wt) ∧ TameL B Q w w' := by
  obtain ⟨bv, be, S, P, N, K, vs, es, h1, h2⟩ := h
  by_cases hz : F.linkE id u v wt = 0
  · obtain ⟨n, hn⟩ : ∃ n : Nat, wt = (n : Int) := ⟨wt.toNat, by have := (linkE_ok hz).2.2.2.1; omega⟩
    subst hn
    refine (link_yes h1 ⟨id, u, v, n⟩ hi hu hv hw hz).mono ?_
    rintro e w' ⟨rfl, k, hk, P', N', K', h', m⟩
    unfold LF.linkA
    rw [if_pos hz, hz]
    exact ⟨rfl, lb_next h1 h2 hB h' (fun x hx => hx.imp (fun h => h) fun e => by omega) (m.mono fun x _ hx => by rcases hx with hx | hx; exact .inr (.inr (.inr hx)); exact .inr (.inr (.inl hx)))⟩
  · refine (link_no h1 id u v wt hi hu hv hw hz).mono ?_
    rintro e w' ⟨rfl, ht⟩
    unfold LF.linkA
    rw [if_neg hz]
    exact ⟨rfl, lturn_b h1 h2 hB ht⟩

theorem bCut (id : Int) (hi : I64 id) : Calls Try.prog 18 #[.pointer (some ⟨f, 0, none⟩), .int .i64 id] w fun e w' => e = .returned (.int .i64 (F.cutE id)) ∧ LB B Q w' f (F.cutA id) ∧ TameL B Q w w' := by
  obtain ⟨bv, be, S, P, N, K, vs, es, h1, h2⟩ := h
  by_cases hz : F.cutE id = 0
  · refine (cut_yes h1 id hi hz).mono ?_
    rintro e w' ⟨rfl, k, hk, P', N', K', h', m⟩
    unfold LF.cutA
    rw [if_pos hz, hz]
    exact ⟨rfl, lb_next h1 h2 hB h' (fun x hx => .inl hx.1) (m.mono fun x _ hx => by rcases hx with hx | hx; exact .inr (.inr (.inr hx)); exact .inr (.inr (.inl hx)))⟩
  · refine (cut_no h1 id hi hz).mono ?_
    rintro e w' ⟨rfl, rfl⟩
    unfold LF.cutA
    rw [if_neg hz]
    exact ⟨rfl, ⟨bv, be, S, P, N, K, vs, es, h1, h2⟩, TameL.refl _ _ _⟩

theorem bJoined (u v : Int) (hu : I64 u) (hv : I64 v) : Calls Try.prog 24 #[.pointer (some ⟨f, 0, none⟩), .int .i64 u, .int .i64 v] w fun e w' => e = .returned (.tuple #[.bool (F.joinB u v), .int .i64 (F.joinX u v)]) ∧ LB B Q w' f F ∧ TameL B Q w w' := by
  obtain ⟨bv, be, S, P, N, K, vs, es, h1, h2⟩ := h
  refine (joined_any h1 u v hu hv).mono ?_
  rintro e w' ⟨rfl, ht⟩
  exact ⟨rfl, lturn_b h1 h2 hB ht⟩

theorem bAlong (u v : Int) (hu : I64 u) (hv : I64 v) : Calls Try.prog 16 #[.pointer (some ⟨f, 0, none⟩), .int .i64 u, .int .i64 v] w fun e w' => e = .returned (.tuple #[F.alongV u v, .int .i64 (F.alongX u v)]) ∧ LB B Q w' f F ∧ TameL B Q w w' := by
  obtain ⟨bv, be, S, P, N, K, vs, es, h1, h2⟩ := h
  refine (along_any h1 u v hu hv).mono ?_
  rintro e w' ⟨rfl, ht⟩
  exact ⟨rfl, lturn_b h1 h2 hB ht⟩

end

/-- The edge of an id. -/
def LF.edge (F : LF) (id : Int) : Option Eg := F.es.find? fun e => e.id == id

section

variable (B : Nat) (Q : Nat → Prop) (w : World) (f : Nat) (F : LF) (h : LB B Q w f F)

include h

theorem bEdge (id : Int) (hi : I64 id) : Calls Try.prog 12 #[.pointer (some ⟨f, 0, none⟩), .int .i64 id] w fun e w' => e = .returned (.tuple #[((F.edge id).getD Eg.zero).val, .bool (F.edge id).isSome]) ∧ Below w.heap.size w w' := by
  obtain ⟨bv, be, S, P, N, K, vs, es, h1, h2⟩ := h
  cases hk : es id with
  | none =>
    have e1 : F.edge id = none := List.find?_eq_none.2 fun e he hh => by
      have hh : e.id = id := by simpa using hh
      obtain ⟨k, hk'⟩ := (h1.gd.ek e.id).2 ⟨e, he, rfl⟩
      rw [hh, hk] at hk'; cases hk'
    rw [e1]
    exact edge_no h1.at_ id hi hk
  | some k =>
    obtain ⟨e, he, rfl⟩ := (h1.gd.ek id).1 ⟨k, hk⟩
    have e1 : F.edge e.id = some e := by
      cases hx : F.edge e.id with
      | none => exact absurd (beq_self_eq_true _) (List.find?_eq_none.1 hx e he)
      | some x =>
        have h3 := List.mem_of_find?_eq_some hx
        have h4 := List.find?_some hx
        have h4 : x.id = e.id := by simpa using h4
        rw [one_of_nodup h1.gd.idnd x h3 e he h4]
    rw [e1]
    have := edge_yes h1.at_ e.id hi k hk
    rw [h1.gd.eN e he k hk] at this
    exact this

theorem bLen : Calls Try.prog 11 #[.pointer (some ⟨f, 0, none⟩)] w fun e w' => e = .returned (.tuple #[.int .i64 (F.vs.length : Int), .int .i64 (F.es.length : Int)]) ∧ Below w.heap.size w w' := by
  obtain ⟨bv, be, S, P, N, K, vs, es, h1, h2⟩ := h
  exact len_any h1

end

theorem bNew (w : World) (Q : Nat → Prop) (hq : ∀ k, Q k → k < w.heap.size) :
    Calls Try.prog 8 #[] w fun e w' => ∃ f, e = .returned (.pointer (some ⟨f, 0, none⟩)) ∧ LB w.heap.size Q w' f ⟨[], []⟩ ∧ Below w.heap.size w w' := by
  refine (new_any w).mono ?_
  rintro e w' ⟨rfl, h1, h2⟩
  refine ⟨_, rfl, ⟨_, _, _, _, _, _, _, _, h1, fun k hk => ?_, fun k hk => Nat.lt_of_lt_of_le (hq k hk) h2.size⟩, h2⟩
  rcases hk with rfl | rfl | rfl | hk
  · exact ⟨by omega, fun hk => by have := hq _ hk; omega⟩
  · exact ⟨by omega, fun hk => by have := hq _ hk; omega⟩
  · exact ⟨by omega, fun hk => by have := hq _ hk; omega⟩
  · exact hk.elim

end Go.Proofs.Ytlhkajlkapoabaa
