/-
  One forest of the program with the document's beside it: one contract per call of either. No walk.
-/
import Derived.Test.YtlhkajlkapoabaaZLP4
namespace Go.Proofs.Ytlhkajlkapoabaa
open Go.RowKit Go.Maps
set_option linter.unusedVariables false

/-- All blocks of a type that forests don't have stay. -/
def Kept (w w' : World) : Prop := w.heap.size ≤ w'.heap.size ∧ ∀ (k : Nat) (cs : Array Value) (t : TypeId) (fr : Nat × Nat), w.heap[k]? = some (Obj.cells cs t fr) → NotL t → w'.heap[k]? = some (Obj.cells cs t fr)

theorem Kept.of_tame {B : Nat} {Q : Nat → Prop} {w w' : World} (h : TameL B Q w w') : Kept w w' := ⟨h.size, fun k cs t fr h1 h2 => h.rows k cs t fr h1 h2⟩

theorem Kept.of_below {w w' : World} (h : Below w.heap.size w w') : Kept w w' := ⟨h.size, fun k cs t fr h1 _ => (h.block k (Array.getElem?_eq_some_iff.1 h1).1).trans h1⟩

theorem Kept.blk {w w' : World} {q : Nat} {t : TypeId} {cs : Array Value} (h : Kept w w') (hb : Blk w q t cs) (hn : NotL t) : Blk w' q t cs := h.2 _ _ _ _ hb hn

theorem Kept.trans {w w1 w' : World} (h : Kept w w1) (h' : Kept w1 w') : Kept w w' := ⟨Nat.le_trans h.1 h'.1, fun k cs t fr h1 h2 => h'.2 k cs t fr (h.2 k cs t fr h1 h2) h2⟩

/-- A block that was made since is written over. -/
theorem Kept.far {w w1 : World} {p i : Nat} (h : Kept w w1) (hp : w.heap.size ≤ p) (u : Value) : Kept w (w1.setCell ⟨p, i, none⟩ u) := by
  refine ⟨by simpa using h.1, fun k cs t fr h1 h2 => (Below.heap_setCell w1 ⟨p, i, none⟩ u k fun e => ?_).trans (h.2 k cs t fr h1 h2)⟩
  have e : k = p := e
  have := (Array.getElem?_eq_some_iff.1 h1).1
  omega

theorem Kept.far4 {w w1 : World} {p : Nat} (h : Kept w w1) (hp : w.heap.size ≤ p) (x y z u : Value) : Kept w ((((w1.setCell ⟨p, 0, none⟩ x).setCell ⟨p, 1, none⟩ y).setCell ⟨p, 2, none⟩ z).setCell ⟨p, 3, none⟩ u) := (((h.far hp x).far hp y).far hp z).far hp u

/-- A forest of the program made since w, and one of the document whose rows none of its calls turns. -/
def LTwo (w wr : World) (f : Nat) (F : LF) (d : DF) (a b c e : Value) : Prop :=
  ∃ Q : Nat → Prop, LB w.heap.size Q wr f F ∧ Below w.heap.size w wr ∧ DocR wr wr.heap.size a b c e d ∧ InQ Q a d.vs ∧ InQ Q b d.es ∧ InQ Q c d.mv ∧ InQ Q e d.me

section

variable {w wr w' : World} {f : Nat} {F : LF} {d : DF} {a b c e : Value}

theorem LTwo.ok (h : LTwo w wr f F d a b c e) : F.Ok := by obtain ⟨Q, h1, -⟩ := h; exact h1.ok

theorem LTwo.low (h : LTwo w wr f F d a b c e) : Below w.heap.size w wr := by obtain ⟨Q, -, h2, -⟩ := h; exact h2

theorem LTwo.doc (h : LTwo w wr f F d a b c e) : DocR wr wr.heap.size a b c e d := by obtain ⟨Q, -, -, h3, -⟩ := h; exact h3

/-- The program's forest turns. -/
theorem two_turn {F' : LF} {Q : Nat → Prop} (h2 : Below w.heap.size w wr) (h3 : DocR wr wr.heap.size a b c e d) (ha : InQ Q a d.vs) (hb : InQ Q b d.es) (hc : InQ Q c d.mv) (he : InQ Q e d.me) (hF : LB w.heap.size Q w' f F') (ht : TameL w.heap.size Q wr w') : LTwo w w' f F' d a b c e :=
  ⟨Q, hF, h2.trans ht.below, ⟨row_stay h3.vs ht ha, row_stay h3.es ht hb, row_stay h3.mv ht hc, row_stay h3.me ht he⟩, ha, hb, hc, he⟩

/-- The document's forest turns. -/
theorem LTwo.docTurn {d' : DF} {a' b' c' e' : Value} (h : LTwo w wr f F d a b c e) (hb : Below wr.heap.size wr w') (hd : DocR w' w'.heap.size a' b' c' e' d') (na : OldNew wr a a') (nb : OldNew wr b b') (nc : OldNew wr c c') (ne : OldNew wr e e') : LTwo w w' f F d' a' b' c' e' := by
  obtain ⟨Q, h1, h2, h3, qa, qb, qc, qe⟩ := h
  exact ⟨fun k => Q k ∨ wr.heap.size ≤ k ∧ k < w'.heap.size, h1.more hb fun k hk => hk, h2.trans (hb.mono h2.size), hd, inQ_step h3.vs hd.vs qa na, inQ_step h3.es hd.es qb nb, inQ_step h3.mv hd.mv qc nc, inQ_step h3.me hd.me qe ne⟩

/-- Something was made beside both. -/
theorem LTwo.below (h : LTwo w wr f F d a b c e) (hb : Below wr.heap.size wr w') : LTwo w w' f F d a b c e :=
  h.docTurn hb (h.doc.stay hb) (.old _ _) (.old _ _) (.old _ _) (.old _ _)

/-- A box beside both is written over. -/
theorem LTwo.far (h : LTwo w wr f F d a b c e) {p i : Nat} {t : TypeId} {cs : Array Value} (hb : Blk wr p t cs) (hn : NotL t) (hp : w.heap.size ≤ p) (oa : InQ (fun k => k ≠ p) a d.vs) (ob : InQ (fun k => k ≠ p) b d.es) (oc : InQ (fun k => k ≠ p) c d.mv) (oe : InQ (fun k => k ≠ p) e d.me) (u : Value) :
    LTwo w (wr.setCell ⟨p, i, none⟩ u) f F d a b c e := by
  obtain ⟨Q, h1, h2, h3, qa, qb, qc, qe⟩ := h
  have hh : ∀ k, k ≠ p → (wr.setCell ⟨p, i, none⟩ u).heap[k]? = wr.heap[k]? := fun k hk => Below.heap_setCell wr ⟨p, i, none⟩ u k hk
  have hsz : wr.heap.size ≤ (wr.setCell ⟨p, i, none⟩ u).heap.size := by simp
  exact ⟨Q, h1.far hb hn u, h2.setCell (p := ⟨p, i, none⟩) hp u, ⟨rk_far h3.vs (fun k hx hk => hh k (oa hx k hk)) hsz, rk_far h3.es (fun k hx hk => hh k (ob hx k hk)) hsz, rk_far h3.mv (fun k hx hk => hh k (oc hx k hk)) hsz, rk_far h3.me (fun k hx hk => hh k (oe hx k hk)) hsz⟩, qa, qb, qc, qe⟩

theorem LTwo.far4 (h : LTwo w wr f F d a b c e) {p : Nat} {t : TypeId} {cs : Array Value} (hb : Blk wr p t cs) (hn : NotL t) (hp : w.heap.size ≤ p) (oa : InQ (fun k => k ≠ p) a d.vs) (ob : InQ (fun k => k ≠ p) b d.es) (oc : InQ (fun k => k ≠ p) c d.mv) (oe : InQ (fun k => k ≠ p) e d.me) (x y z u : Value) :
    LTwo w ((((wr.setCell ⟨p, 0, none⟩ x).setCell ⟨p, 1, none⟩ y).setCell ⟨p, 2, none⟩ z).setCell ⟨p, 3, none⟩ u) f F d a b c e :=
  (((h.far hb hn hp oa ob oc oe x).far (hb.set_ 0 x) hn hp oa ob oc oe y).far ((hb.set_ 0 x).set_ 1 y) hn hp oa ob oc oe z).far (((hb.set_ 0 x).set_ 1 y).set_ 2 z) hn hp oa ob oc oe u

theorem tAddV (h : LTwo w wr f F d a b c e) (v : Int) (hv : I64 v) : Calls Try.prog 23 #[.pointer (some ⟨f, 0, none⟩), .int .i64 v] wr fun r w' => r = .returned (.int .i64 (F.addE v)) ∧ LTwo w w' f (F.addA v) d a b c e ∧ Kept wr w' := by
  obtain ⟨Q, h1, h2, h3, qa, qb, qc, qe⟩ := h
  refine (bAddV w.heap.size Q wr f F h1 h2.size v hv).mono ?_
  rintro r w' ⟨rfl, hF, ht⟩
  exact ⟨rfl, two_turn h2 h3 qa qb qc qe hF ht, Kept.of_tame ht⟩

theorem tDelV (h : LTwo w wr f F d a b c e) (v : Int) (hv : I64 v) : Calls Try.prog 25 #[.pointer (some ⟨f, 0, none⟩), .int .i64 v] wr fun r w' => r = .returned (.int .i64 (F.delE v)) ∧ LTwo w w' f (F.delA v) d a b c e ∧ Kept wr w' := by
  obtain ⟨Q, h1, h2, h3, qa, qb, qc, qe⟩ := h
  refine (bDelV w.heap.size Q wr f F h1 h2.size v hv).mono ?_
  rintro r w' ⟨rfl, hF, ht⟩
  exact ⟨rfl, two_turn h2 h3 qa qb qc qe hF ht, Kept.of_tame ht⟩

theorem tCut (h : LTwo w wr f F d a b c e) (id : Int) (hi : I64 id) : Calls Try.prog 18 #[.pointer (some ⟨f, 0, none⟩), .int .i64 id] wr fun r w' => r = .returned (.int .i64 (F.cutE id)) ∧ LTwo w w' f (F.cutA id) d a b c e ∧ Kept wr w' := by
  obtain ⟨Q, h1, h2, h3, qa, qb, qc, qe⟩ := h
  refine (bCut w.heap.size Q wr f F h1 h2.size id hi).mono ?_
  rintro r w' ⟨rfl, hF, ht⟩
  exact ⟨rfl, two_turn h2 h3 qa qb qc qe hF ht, Kept.of_tame ht⟩

theorem dAddV (h : LTwo w wr f F d a b c e) (hd : d.Fit ∧ d.mv.length ≤ 4096 ∧ d.me.length ≤ 4096) (v : Int) : Calls Try.prog 19 #[.agg #[a, b, c, e], .int .i64 v] wr fun r w' => ∃ a' b' c' e', r = .returned (.tuple #[.agg #[a', b', c', e'], .int .i64 (d.addE v)]) ∧ LTwo w w' f F (d.addA v) a' b' c' e' ∧ Below wr.heap.size wr w' ∧ OldNew wr a a' ∧ OldNew wr b b' ∧ OldNew wr c c' ∧ OldNew wr e e' := by
  refine (refAddV_any wr a b c e d v h.doc hd.1).mono ?_
  rintro r w' ⟨a', b', c', e', rfl, h1, h2, h3, h4, h5, h6⟩
  exact ⟨a', b', c', e', rfl, h.docTurn h2 h1 h3 h4 h5 h6, h2, h3, h4, h5, h6⟩

theorem dDelV (h : LTwo w wr f F d a b c e) (hd : d.Fit ∧ d.mv.length ≤ 4096 ∧ d.me.length ≤ 4096) (v : Int) : Calls Try.prog 20 #[.agg #[a, b, c, e], .int .i64 v] wr fun r w' => ∃ a' b' c' e', r = .returned (.tuple #[.agg #[a', b', c', e'], .int .i64 (d.delE v)]) ∧ LTwo w w' f F (d.delA v) a' b' c' e' ∧ Below wr.heap.size wr w' ∧ OldNew wr a a' ∧ OldNew wr b b' ∧ OldNew wr c c' ∧ OldNew wr e e' := by
  refine (refDelV_any wr a b c e d v h.doc hd.1 hd.2.1).mono ?_
  rintro r w' ⟨a', b', c', e', rfl, h1, h2, h3, h4, h5, h6⟩
  exact ⟨a', b', c', e', rfl, h.docTurn h2 h1 h3 h4 h5 h6, h2, h3, h4, h5, h6⟩

theorem dCut (h : LTwo w wr f F d a b c e) (hd : d.Fit ∧ d.mv.length ≤ 4096 ∧ d.me.length ≤ 4096) (v : Int) : Calls Try.prog 22 #[.agg #[a, b, c, e], .int .i64 v] wr fun r w' => ∃ a' b' c' e', r = .returned (.tuple #[.agg #[a', b', c', e'], .int .i64 (d.cutE v)]) ∧ LTwo w w' f F (d.cutA v) a' b' c' e' ∧ Below wr.heap.size wr w' ∧ OldNew wr a a' ∧ OldNew wr b b' ∧ OldNew wr c c' ∧ OldNew wr e e' := by
  refine (refCut_any wr a b c e d v h.doc hd.1 hd.2.2).mono ?_
  rintro r w' ⟨a', b', c', e', rfl, h1, h2, h3, h4, h5, h6⟩
  exact ⟨a', b', c', e', rfl, h.docTurn h2 h1 h3 h4 h5 h6, h2, h3, h4, h5, h6⟩

theorem tLink (h : LTwo w wr f F d a b c e) (id u v wt : Int) (hi : I64 id) (hu : I64 u) (hv : I64 v) (hw : I64 wt) : Calls Try.prog 17 #[.pointer (some ⟨f, 0, none⟩), .agg #[.int .i64 id, .int .i64 u, .int .i64 v, .int .i64 wt]] wr fun r w' => r = .returned (.int .i64 (F.linkE id u v wt)) ∧ LTwo w w' f (F.linkA id u v wt) d a b c e ∧ Kept wr w' := by
  obtain ⟨Q, h1, h2, h3, qa, qb, qc, qe⟩ := h
  refine (bLink w.heap.size Q wr f F h1 h2.size id u v wt hi hu hv hw).mono ?_
  rintro r w' ⟨rfl, hF, ht⟩
  exact ⟨rfl, two_turn h2 h3 qa qb qc qe hF ht, Kept.of_tame ht⟩

theorem tJoined (h : LTwo w wr f F d a b c e) (u v : Int) (hu : I64 u) (hv : I64 v) : Calls Try.prog 24 #[.pointer (some ⟨f, 0, none⟩), .int .i64 u, .int .i64 v] wr fun r w' => r = .returned (.tuple #[.bool (F.joinB u v), .int .i64 (F.joinX u v)]) ∧ LTwo w w' f F d a b c e ∧ Kept wr w' := by
  obtain ⟨Q, h1, h2, h3, qa, qb, qc, qe⟩ := h
  refine (bJoined w.heap.size Q wr f F h1 h2.size u v hu hv).mono ?_
  rintro r w' ⟨rfl, hF, ht⟩
  exact ⟨rfl, two_turn h2 h3 qa qb qc qe hF ht, Kept.of_tame ht⟩

theorem tAlong (h : LTwo w wr f F d a b c e) (u v : Int) (hu : I64 u) (hv : I64 v) : Calls Try.prog 16 #[.pointer (some ⟨f, 0, none⟩), .int .i64 u, .int .i64 v] wr fun r w' => r = .returned (.tuple #[F.alongV u v, .int .i64 (F.alongX u v)]) ∧ LTwo w w' f F d a b c e ∧ Kept wr w' := by
  obtain ⟨Q, h1, h2, h3, qa, qb, qc, qe⟩ := h
  refine (bAlong w.heap.size Q wr f F h1 h2.size u v hu hv).mono ?_
  rintro r w' ⟨rfl, hF, ht⟩
  exact ⟨rfl, two_turn h2 h3 qa qb qc qe hF ht, Kept.of_tame ht⟩

theorem tEdge (h : LTwo w wr f F d a b c e) (id : Int) (hi : I64 id) : Calls Try.prog 12 #[.pointer (some ⟨f, 0, none⟩), .int .i64 id] wr fun r w' => r = .returned (.tuple #[((F.edge id).getD Eg.zero).val, .bool (F.edge id).isSome]) ∧ Below wr.heap.size wr w' := by
  obtain ⟨Q, h1, h2, h3, qa, qb, qc, qe⟩ := h
  exact bEdge w.heap.size Q wr f F h1 id hi

theorem dLink (h : LTwo w wr f F d a b c e) (hd : d.Fit ∧ d.mv.length ≤ 4096 ∧ d.me.length ≤ 4096) (id u v wt : Int) : Calls Try.prog 21 #[.agg #[a, b, c, e], .agg #[.int .i64 id, .int .i64 u, .int .i64 v, .int .i64 wt]] wr fun r w' => ∃ a' b' c' e', r = .returned (.tuple #[.agg #[a', b', c', e'], .int .i64 (d.linkWE id u v wt)]) ∧ LTwo w w' f F (d.linkWA id u v wt) a' b' c' e' ∧ Below wr.heap.size wr w' ∧ OldNew wr a a' ∧ OldNew wr b b' ∧ OldNew wr c c' ∧ OldNew wr e e' := by
  refine (refLinkW_any wr a b c e d id u v wt h.doc hd.1).mono ?_
  rintro r w' ⟨a', b', c', e', rfl, h1, h2, h3, h4, h5, h6⟩
  exact ⟨a', b', c', e', rfl, h.docTurn h2 h1 h3 h4 h5 h6, h2, h3, h4, h5, h6⟩

end

end Go.Proofs.Ytlhkajlkapoabaa

/-
  The law's tells at both forests: they tell alike.
-/
namespace Go.Proofs.Ytlhkajlkapoabaa
open Go.RowKit Go.Maps
set_option linter.unusedVariables false

attribute [local go_sem] run_storeCx

open Classical in
theorem LF.joinB_yes' (F : LF) {u v : Int} (h : u ∈ F.vs ∧ v ∈ F.vs ∧ F.Join u v) : F.joinB u v = true := decide_eq_true h

/-- Both forests beside the box of the document's. -/
structure TlL (w wr wx : World) (f : Nat) (F : LF) (d : DF) (p : Nat) (a b c e : Value) : Prop where
  two : LTwo w wx f F d a b c e
  box : Blk wx p 31 #[a, b, c, e]
  kp : Kept wr wx

section

variable {w wr wx w' : World} {f : Nat} {F : LF} {d : DF} {p : Nat} {a b c e : Value}

theorem TlL.below (h : TlL w wr wx f F d p a b c e) (hb : Below wx.heap.size wx w') : TlL w wr w' f F d p a b c e := ⟨h.two.below hb, h.box.below hb h.box.lt, h.kp.trans (Kept.of_below hb)⟩

theorem TlL.turn (h : TlL w wr wx f F d p a b c e) (t : LTwo w w' f F d a b c e) (k : Kept wx w') : TlL w wr w' f F d p a b c e := ⟨t, k.blk h.box notL_D, h.kp.trans k⟩

theorem TlL.four (h : TlL w wr wx f F d p a b c e) : wx.cell? ⟨p, 0, none⟩ = some a ∧ wx.cell? ⟨p, 1, none⟩ = some b ∧ wx.cell? ⟨p, 2, none⟩ = some c ∧ wx.cell? ⟨p, 3, none⟩ = some e := ⟨h.box.cell 0, h.box.cell 1, h.box.cell 2, h.box.cell 3⟩

end

set_option maxRecDepth 100000 in
set_option maxHeartbeats 8000000 in
theorem tellsL_any (w wr : World) (f : Nat) (F : LF) (d : DF) (a b c e : Value) (h : LTwo w wr f F d a b c e) (hs : BesL F d) (u v : Int) (hu : I64 u) (hv : I64 v) :
    Calls Try.prog 14 #[.pointer (some ⟨f, 0, none⟩), .agg #[a, b, c, e], .int .i64 u, .int .i64 v] wr fun r w' => r = .returned (.bool true) ∧ LTwo w w' f F d a b c e ∧ Kept wr w' := by
  have hok := h.ok
  obtain ⟨X0, n0, m0, X1, n1, m1, X2, n2, m2, X3, n3, m3, rfl, rfl, rfl, rfl⟩ := h.doc.sl4
  obtain ⟨W, hW⟩ : ∃ W, W = wr.alloc (.cells #[.slice X0 n0 m0, .slice X1 n1 m1, .slice X2 n2 m2, .slice X3 n3 m3] 31) := ⟨_, rfl⟩
  obtain ⟨p, hp⟩ : ∃ p, p = wr.heap.size := ⟨_, rfl⟩
  have hb : Below wr.heap.size wr W := by rw [hW]; exact (Below.refl _ _).alloc (Nat.le_refl _) _
  have T0 : Hid (TlL w wr W f F d p (.slice X0 n0 m0) (.slice X1 n1 m1) (.slice X2 n2 m2) (.slice X3 n3 m3)) := Lib.hid ⟨h.below hb, by rw [hW, hp]; exact Blk.new _ _ _, Kept.of_below hb⟩
  have HS := Lib.hid hs
  have HG := Lib.hid hok
  have HW := Lib.hid hW
  have HP := Lib.hid hp
  have HU := Lib.hid hu
  have HV := Lib.hid hv
  obtain ⟨ma, sa, ka, -, esa, eka, lsa, lka, eva⟩ := hok.along_open u v
  have EA := Lib.hid eva
  obtain ⟨gx, hgx⟩ : ∃ g, g = F.alongX u v := ⟨_, rfl⟩
  obtain ⟨jb, hjb⟩ : ∃ g, g = F.joinB u v := ⟨_, rfl⟩
  obtain ⟨jx, hjx⟩ : ∃ g, g = F.joinX u v := ⟨_, rfl⟩
  have JJ : Hid ((¬ (u ∈ d.vs ∧ v ∈ d.vs) ∧ gx = 51 ∧ jb = false ∧ jx = 51) ∨ (u ∈ d.vs ∧ v ∈ d.vs ∧ jx = 0 ∧ ((gx = 0 ∧ jb = true) ∨ (gx = 61 ∧ jb = false)))) := Lib.hid (by
    rw [hgx, hjb, hjx]
    by_cases hin : u ∈ F.vs ∧ v ∈ F.vs
    · refine .inr ⟨(hs.vm u).2 hin.1, (hs.vm v).2 hin.2, by unfold LF.joinX; rw [if_pos hin], ?_⟩
      by_cases hj : F.Join u v
      · exact .inl ⟨by unfold LF.alongX; rw [if_pos hin, if_pos hj], F.joinB_yes' ⟨hin.1, hin.2, hj⟩⟩
      · exact .inr ⟨by unfold LF.alongX; rw [if_pos hin, if_neg hj], F.joinB_no fun hh => hj hh.2.2⟩
    · exact .inl ⟨fun hh => hin ⟨(hs.vm u).1 hh.1, (hs.vm v).1 hh.2⟩, by unfold LF.alongX; rw [if_neg hin], F.joinB_no fun hh => hin ⟨hh.1, hh.2.1⟩, by unfold LF.joinX; rw [if_neg hin]⟩)
  have GX := Lib.hid hgx
  have JB := Lib.hid hjb
  have JX := Lib.hid hjx
  have heq := run_eqAg ma.id ma.u ma.v (ma.w : Int) (a := sa) (b := ka) (by omega) (by omega)
  clear hW hp hb h hs hu hv hok eva hgx hjb hjx esa eka
  go_enter Try.func14, Try.ntmps14
  go_upto_region 1 with fail
  rw [← HW.out]
  try simp only [← HP.out]
  go_wp2_with fail
  refine (tAlong T0.out.two u v HU.out HV.out).mono ?_
  rw [EA.out, ← GX.out]
  rintro r w1 ⟨rfl, t1, k1⟩
  have T1 := Lib.hid (T0.out.turn t1 k1)
  clear t1 k1
  obtain ⟨pA, hp⟩ : ∃ p, p = w1.heap.size := ⟨_, rfl⟩
  obtain ⟨w2, hw⟩ : ∃ W, W = w1.alloc (.cells #[.int .i64 ma.id, .int .i64 ma.u, .int .i64 ma.v, .int .i64 (ma.w : Int), .complex .f64 (fl sa) (fl ka)] 48) := ⟨_, rfl⟩
  have hb : Below w1.heap.size w1 w2 := by rw [hw]; exact (Below.refl _ _).alloc (Nat.le_refl _) _
  have KA2 : Hid (Blk w2 pA 48 #[.int .i64 ma.id, .int .i64 ma.u, .int .i64 ma.v, .int .i64 (ma.w : Int), .complex .f64 (fl sa) (fl ka)]) := Lib.hid (by rw [hw, hp]; exact Blk.new _ _ _)
  have T2 := Lib.hid (T1.out.below hb)
  have HPA := Lib.hid hp
  have HWA := Lib.hid hw
  clear hp hw hb T0 T1
  go_upto_region 2 with fail
  rw [← HWA.out]
  try simp only [← HPA.out]
  obtain ⟨c0, c1, c2, c3⟩ := T2.out.four
  go_wp2_with fail
  refine (refAlong_any w2 _ _ _ _ d F u v T2.out.two.doc HG.out HS.out).mono ?_
  rw [EA.out, ← GX.out]
  rintro r w3 ⟨rfl, b3⟩
  have T3 := Lib.hid (T2.out.below b3)
  have KA3 := Lib.hid (KA2.out.below b3 KA2.out.lt)
  clear b3 c0 c1 c2 c3 T2 KA2 HPA HWA
  obtain ⟨pB, hp⟩ : ∃ p, p = w3.heap.size := ⟨_, rfl⟩
  obtain ⟨w4, hw⟩ : ∃ W, W = w3.alloc (.cells #[.int .i64 ma.id, .int .i64 ma.u, .int .i64 ma.v, .int .i64 (ma.w : Int), .complex .f64 (fl sa) (fl ka)] 48) := ⟨_, rfl⟩
  have hb : Below w3.heap.size w3 w4 := by rw [hw]; exact (Below.refl _ _).alloc (Nat.le_refl _) _
  have KB4 : Hid (Blk w4 pB 48 #[.int .i64 ma.id, .int .i64 ma.u, .int .i64 ma.v, .int .i64 (ma.w : Int), .complex .f64 (fl sa) (fl ka)]) := Lib.hid (by rw [hw, hp]; exact Blk.new _ _ _)
  have T4 := Lib.hid (T3.out.below hb)
  have KA4 := Lib.hid (KA3.out.below hb KA3.out.lt)
  have HPB := Lib.hid hp
  have HWB := Lib.hid hw
  clear hp hw hb T3 KA3
  go_upto_region 3 with fail
  rw [← HWB.out]
  try simp only [← HPB.out]
  go_wp2_with fail
  refine (tJoined T4.out.two u v HU.out HV.out).mono ?_
  rw [← JB.out, ← JX.out]
  rintro r w5 ⟨rfl, t5, k5⟩
  have T5 := Lib.hid (T4.out.turn t5 k5)
  have KA5 := Lib.hid (k5.blk KA4.out notL_A)
  have KB5 := Lib.hid (k5.blk KB4.out notL_A)
  clear t5 k5 T4 KA4 KB4 HPB HWB
  obtain ⟨c0, c1, c2, c3⟩ := T5.out.four
  go_wp2_with fail
  refine (has_any _ d.vs _ _ T5.out.two.doc.vs u).mono ?_
  have a0 := KA5.out.cell 0
  have a1 := KA5.out.cell 1
  have a2 := KA5.out.cell 2
  have a3 := KA5.out.cell 3
  have a4 := KA5.out.cell 4
  have b0 := KB5.out.cell 0
  have b1 := KB5.out.cell 1
  have b2 := KB5.out.cell 2
  have b3 := KB5.out.cell 3
  have b4 := KB5.out.cell 4
  by_cases hu : u ∈ d.vs
  case neg =>
    rw [decide_eq_false hu]
    rintro r wx ⟨rfl, hwx⟩
    rw [hwx]
    clear hwx wx
    rcases JJ.out with ⟨-, rfl, rfl, rfl⟩ | ⟨h1, -⟩
    · go_wp2_with fail
      go_ret
      exact ⟨rfl, T5.out.two, T5.out.kp⟩
    · exact absurd h1 hu
  rw [decide_eq_true hu]
  rintro r wx ⟨rfl, hwx⟩
  rw [hwx]
  clear hwx wx
  go_wp2_with fail
  refine (has_any _ d.vs _ _ T5.out.two.doc.vs v).mono ?_
  by_cases hv : v ∈ d.vs
  case neg =>
    rw [decide_eq_false hv]
    rintro r wx ⟨rfl, hwx⟩
    rw [hwx]
    clear hwx wx
    rcases JJ.out with ⟨-, rfl, rfl, rfl⟩ | ⟨-, h1, -⟩
    · go_wp2_with fail
      go_ret
      exact ⟨rfl, T5.out.two, T5.out.kp⟩
    · exact absurd h1 hv
  rw [decide_eq_true hv]
  rintro r wx ⟨rfl, hwx⟩
  rw [hwx]
  clear hwx wx
  rcases JJ.out with ⟨h1, -⟩ | ⟨-, -, rfl, ⟨rfl, rfl⟩ | ⟨rfl, rfl⟩⟩
  · exact absurd ⟨hu, hv⟩ h1
  · go_wp2_with fail
    go_ret
    exact ⟨rfl, T5.out.two, T5.out.kp⟩
  · go_wp2_with fail
    go_ret
    exact ⟨rfl, T5.out.two, T5.out.kp⟩

end Go.Proofs.Ytlhkajlkapoabaa

/-
  The law's does at both forests: they answer alike, and stay side by side.
-/
namespace Go.Proofs.Ytlhkajlkapoabaa
open Go.RowKit Go.Maps
set_option linter.unusedVariables false

/-- The boxes of does: the document's forest, the call, the result's cell. -/
structure Box7 (w W : World) (p : Nat) (a b c e : Value) (o : OpL) : Prop where
  b0 : Blk W p 31 #[a, b, c, e]
  bo : Blk W (p + 1) 35 #[.int .i64 o.kd, .int .i64 o.id, .int .i64 o.u, .int .i64 o.v, .int .i64 o.wt]
  b1 : Blk W (p + 2) 31 #[.slice none 0 0, .slice none 0 0, .slice none 0 0, .slice none 0 0]
  lo : w.heap.size ≤ p

theorem box7 (w : World) (a b c e : Value) (o : OpL) : Box7 w (((w.alloc (.cells #[a, b, c, e] 31)).alloc (Obj.cells #[.int .i64 o.kd, .int .i64 o.id, .int .i64 o.u, .int .i64 o.v, .int .i64 o.wt] 35)).alloc z4) w.heap.size a b c e o ∧ Below w.heap.size w (((w.alloc (.cells #[a, b, c, e] 31)).alloc (Obj.cells #[.int .i64 o.kd, .int .i64 o.id, .int .i64 o.u, .int .i64 o.v, .int .i64 o.wt] 35)).alloc z4) := by
  refine ⟨⟨((Blk.new _ _ _).alloc _).alloc _, ?_, ?_, Nat.le_refl _⟩, (((Below.refl _ _).alloc (Nat.le_refl _) _).alloc (by simp) _).alloc (by simp; omega) _⟩
  · have := (Blk.new (w.alloc (.cells #[a, b, c, e] 31)) 35 #[.int .i64 o.kd, .int .i64 o.id, .int .i64 o.u, .int .i64 o.v, .int .i64 o.wt]).alloc z4
    simpa using this
  · have := Blk.new ((w.alloc (.cells #[a, b, c, e] 31)).alloc (Obj.cells #[.int .i64 o.kd, .int .i64 o.id, .int .i64 o.u, .int .i64 o.v, .int .i64 o.wt] 35)) 31 #[.slice none 0 0, .slice none 0 0, .slice none 0 0, .slice none 0 0]
    simpa [z4] using this

theorem Box7.keep {w W W' : World} {p : Nat} {a b c e : Value} {o : OpL} (h : Box7 w W p a b c e o) (hk : Kept W W') : Box7 w W' p a b c e o := ⟨hk.blk h.b0 notL_D, hk.blk h.bo notL_O, hk.blk h.b1 notL_D, h.lo⟩

/-- What does answers at both forests. -/
def ChOut (w wr : World) (f : Nat) (F' : LF) (a b c e : Value) (r : Ending) (w' : World) : Prop := ∃ a' b' c' e' d', r = .returned (.tuple #[.agg #[a', b', c', e'], .bool true]) ∧ LTwo w w' f F' d' a' b' c' e' ∧ BesL F' d' ∧ Kept wr w' ∧ OldNew wr a a' ∧ OldNew wr b b' ∧ OldNew wr c c' ∧ OldNew wr e e'

set_option maxRecDepth 100000 in
set_option maxHeartbeats 8000000 in
theorem does_1 (w wr : World) (f : Nat) (F : LF) (d : DF) (a b c e : Value) (h : LTwo w wr f F d a b c e) (hs : BesL F d) (id u v : Int) (wt : Int) (ho : OpL.At ⟨1, id, u, v, wt⟩) :
    Calls Try.prog 10 #[.pointer (some ⟨f, 0, none⟩), .agg #[a, b, c, e], .agg #[.int .i64 1, .int .i64 id, .int .i64 u, .int .i64 v, .int .i64 wt]] wr fun r w' => ChOut w wr f (F.addA u) a b c e r w' := by
  have hfit := hs.fit h.ok
  obtain ⟨X0, n0, m0, X1, n1, m1, X2, n2, m2, X3, n3, m3, rfl, rfl, rfl, rfl⟩ := h.doc.sl4
  obtain ⟨W, hW⟩ : ∃ W, W = ((wr.alloc (.cells #[.slice X0 n0 m0, .slice X1 n1 m1, .slice X2 n2 m2, .slice X3 n3 m3] 31)).alloc (Obj.cells #[.int .i64 1, .int .i64 id, .int .i64 u, .int .i64 v, .int .i64 wt] 35)).alloc z4 := ⟨_, rfl⟩
  obtain ⟨q, hq⟩ : ∃ q, q = wr.heap.size := ⟨_, rfl⟩
  have hbx := box7 wr (.slice X0 n0 m0) (.slice X1 n1 m1) (.slice X2 n2 m2) (.slice X3 n3 m3) ⟨1, id, u, v, wt⟩
  dsimp only at hbx
  rw [← hW] at hbx
  have T1 := Lib.hid (h.below hbx.2)
  have HL : Hid (w.heap.size ≤ q ∧ w.heap.size ≤ q + 2 ∧ wr.heap.size ≤ q ∧ wr.heap.size ≤ q + 2) := Lib.hid (by have := h.low.size; omega)
  have K0 := Lib.hid (Kept.of_below hbx.2)
  rw [← hq] at hbx
  have DD := Lib.hid h.doc
  have HS := Lib.hid hs
  have HG := Lib.hid h.ok
  have HF := Lib.hid hfit
  have HU := ho.u
  have HI := ho.id
  have HV := ho.v
  have HX := ho.wt
  dsimp only at HU HI HV HX
  unfold z4 at hW
  have HW := Lib.hid hW
  have HQ := Lib.hid hq
  have BX := Lib.hid hbx.1
  have EE : Hid (d.addE u = F.addE u) := Lib.hid (hs.addE h.ok u)
  have BS : Hid (BesL (F.addA u) (d.addA u)) := Lib.hid (hs.addA h.ok u)
  clear hW hq hbx h ho hs hfit
  go_enter Try.func10, Try.ntmps10
  go_upto_region 1 with fail
  rw [← HW.out]
  try simp only [← HQ.out]
  have c0 := BX.out.b0.cell 0
  have cr0 := BX.out.b1.cell 0
  have cf0 := BX.out.b1.frozen 0
  have c1 := BX.out.b0.cell 1
  have cr1 := BX.out.b1.cell 1
  have cf1 := BX.out.b1.frozen 1
  have c2 := BX.out.b0.cell 2
  have cr2 := BX.out.b1.cell 2
  have cf2 := BX.out.b1.frozen 2
  have c3 := BX.out.b0.cell 3
  have cr3 := BX.out.b1.cell 3
  have cf3 := BX.out.b1.frozen 3
  have co0 := BX.out.bo.cell 0
  have co1 := BX.out.bo.cell 1
  have co2 := BX.out.bo.cell 2
  have co3 := BX.out.bo.cell 3
  have co4 := BX.out.bo.cell 4
  try dsimp only at co0 co1 co2 co3 co4
  go_wp2_with fail
  refine (tAddV T1.out u HU).mono ?_
  generalize F.addE u = n at EE ⊢
  rintro r w2 ⟨rfl, t2, k2⟩
  have BX2 := Lib.hid (BX.out.keep k2)
  have T2 := Lib.hid t2
  have K2 := Lib.hid (K0.out.trans k2)
  clear t2 k2 c0 cr0 cf0 c1 cr1 cf1 c2 cr2 cf2 c3 cr3 cf3 co0 co1 co2 co3 co4
  have d0 := BX2.out.b0.cell 0
  have dr0 := BX2.out.b1.cell 0
  have df0 := BX2.out.b1.frozen 0
  have d1 := BX2.out.b0.cell 1
  have dr1 := BX2.out.b1.cell 1
  have df1 := BX2.out.b1.frozen 1
  have d2 := BX2.out.b0.cell 2
  have dr2 := BX2.out.b1.cell 2
  have df2 := BX2.out.b1.frozen 2
  have d3 := BX2.out.b0.cell 3
  have dr3 := BX2.out.b1.cell 3
  have df3 := BX2.out.b1.frozen 3
  have do0 := BX2.out.bo.cell 0
  have do1 := BX2.out.bo.cell 1
  have do2 := BX2.out.bo.cell 2
  have do3 := BX2.out.bo.cell 3
  have do4 := BX2.out.bo.cell 4
  try dsimp only at do0 do1 do2 do3 do4
  go_wp2_with fail
  refine (dAddV T2.out HF.out u).mono ?_
  rw [EE.out]
  rintro r w3 ⟨a', b', c', e', rfl, t3, b3, o1, o2, o3, o4⟩
  obtain ⟨Y0, i0, j0, Y1, i1, j1, Y2, i2, j2, Y3, i3, j3, rfl, rfl, rfl, rfl⟩ := t3.doc.sl4
  have hb4 : Below w2.heap.size w2 (w3.alloc (Obj.cells #[.slice Y0 i0 j0, .slice Y1 i1 j1, .slice Y2 i2 j2, .slice Y3 i3 j3] 31)) := b3.alloc b3.size _
  have BX4 := Lib.hid (BX2.out.keep (Kept.of_below hb4))
  have t4 := t3.below ((Below.refl _ _).alloc (Nat.le_refl _) (Obj.cells #[.slice Y0 i0 j0, .slice Y1 i1 j1, .slice Y2 i2 j2, .slice Y3 i3 j3] 31))
  obtain ⟨W4, hW4⟩ : ∃ W4, W4 = w3.alloc (Obj.cells #[.slice Y0 i0 j0, .slice Y1 i1 j1, .slice Y2 i2 j2, .slice Y3 i3 j3] 31) := ⟨_, rfl⟩
  have kn : Blk W4 w3.heap.size 31 #[.slice Y0 i0 j0, .slice Y1 i1 j1, .slice Y2 i2 j2, .slice Y3 i3 j3] := by rw [hW4]; exact Blk.new _ _ _
  rw [← hW4] at BX4 t4 hb4
  have KF := Lib.hid ((K2.out.trans (Kept.of_below hb4)).far4 HL.out.2.2.2 (.slice Y0 i0 j0) (.slice Y1 i1 j1) (.slice Y2 i2 j2) (.slice Y3 i3 j3))
  have ON := Lib.hid (And.intro (o1.mono K2.out.1) (And.intro (o2.mono K2.out.1) (And.intro (o3.mono K2.out.1) (o4.mono K2.out.1))))
  obtain ⟨q4, hq4⟩ : ∃ q4, q4 = w3.heap.size := ⟨_, rfl⟩
  rw [← hq4] at kn
  have HW4 := Lib.hid hW4
  have HQ4 := Lib.hid hq4
  have lt2 := BX2.out.b1.lt
  have HD := Lib.hid (t4.far4 BX4.out.b1 notL_D HL.out.2.1 (off_new DD.out.vs t4.doc.vs o1 HL.out.2.2.2 lt2) (off_new DD.out.es t4.doc.es o2 HL.out.2.2.2 lt2) (off_new DD.out.mv t4.doc.mv o3 HL.out.2.2.2 lt2) (off_new DD.out.me t4.doc.me o4 HL.out.2.2.2 lt2) (.slice Y0 i0 j0) (.slice Y1 i1 j1) (.slice Y2 i2 j2) (.slice Y3 i3 j3))
  have g0 := kn.cell 0
  have g1 := kn.cell 1
  have g2 := kn.cell 2
  have g3 := kn.cell 3
  clear t3 t4 b3 o1 o2 o3 o4 hb4 hW4 hq4 kn lt2 d0 dr0 df0 d1 dr1 df1 d2 dr2 df2 d3 dr3 df3 do0 do1 do2 do3 do4
  have e0 := BX4.out.b0.cell 0
  have er0 := BX4.out.b1.cell 0
  have ef0 := BX4.out.b1.frozen 0
  have e1 := BX4.out.b0.cell 1
  have er1 := BX4.out.b1.cell 1
  have ef1 := BX4.out.b1.frozen 1
  have e2 := BX4.out.b0.cell 2
  have er2 := BX4.out.b1.cell 2
  have ef2 := BX4.out.b1.frozen 2
  have e3 := BX4.out.b0.cell 3
  have er3 := BX4.out.b1.cell 3
  have ef3 := BX4.out.b1.frozen 3
  have eo0 := BX4.out.bo.cell 0
  have eo1 := BX4.out.bo.cell 1
  have eo2 := BX4.out.bo.cell 2
  have eo3 := BX4.out.bo.cell 3
  have eo4 := BX4.out.bo.cell 4
  try dsimp only at eo0 eo1 eo2 eo3 eo4
  go_upto_region 5 with fail
  rw [← HW4.out]
  try simp only [← HQ4.out]
  obtain ⟨X, hX⟩ : ∃ X, X = Value.agg #[.slice Y0 i0 j0, .slice Y1 i1 j1, .slice Y2 i2 j2, .slice Y3 i3 j3] := ⟨_, rfl⟩
  go_wp2_with fail
  refine ret_cell_tmp2 (p := 6) (u := 7) (v := X) rfl rfl rfl (by rw [hX]; go_simp) rfl ⟨_, _, _, _, _, (by rw [hX]; rfl), HD.out, BS.out, KF.out, ON.out⟩

set_option maxRecDepth 100000 in
set_option maxHeartbeats 8000000 in
theorem does_2 (w wr : World) (f : Nat) (F : LF) (d : DF) (a b c e : Value) (h : LTwo w wr f F d a b c e) (hs : BesL F d) (id u v : Int) (wt : Int) (ho : OpL.At ⟨2, id, u, v, wt⟩) :
    Calls Try.prog 10 #[.pointer (some ⟨f, 0, none⟩), .agg #[a, b, c, e], .agg #[.int .i64 2, .int .i64 id, .int .i64 u, .int .i64 v, .int .i64 wt]] wr fun r w' => ChOut w wr f (F.delA u) a b c e r w' := by
  have hfit := hs.fit h.ok
  obtain ⟨X0, n0, m0, X1, n1, m1, X2, n2, m2, X3, n3, m3, rfl, rfl, rfl, rfl⟩ := h.doc.sl4
  obtain ⟨W, hW⟩ : ∃ W, W = ((wr.alloc (.cells #[.slice X0 n0 m0, .slice X1 n1 m1, .slice X2 n2 m2, .slice X3 n3 m3] 31)).alloc (Obj.cells #[.int .i64 2, .int .i64 id, .int .i64 u, .int .i64 v, .int .i64 wt] 35)).alloc z4 := ⟨_, rfl⟩
  obtain ⟨q, hq⟩ : ∃ q, q = wr.heap.size := ⟨_, rfl⟩
  have hbx := box7 wr (.slice X0 n0 m0) (.slice X1 n1 m1) (.slice X2 n2 m2) (.slice X3 n3 m3) ⟨2, id, u, v, wt⟩
  dsimp only at hbx
  rw [← hW] at hbx
  have T1 := Lib.hid (h.below hbx.2)
  have HL : Hid (w.heap.size ≤ q ∧ w.heap.size ≤ q + 2 ∧ wr.heap.size ≤ q ∧ wr.heap.size ≤ q + 2) := Lib.hid (by have := h.low.size; omega)
  have K0 := Lib.hid (Kept.of_below hbx.2)
  rw [← hq] at hbx
  have DD := Lib.hid h.doc
  have HS := Lib.hid hs
  have HG := Lib.hid h.ok
  have HF := Lib.hid hfit
  have HU := ho.u
  have HI := ho.id
  have HV := ho.v
  have HX := ho.wt
  dsimp only at HU HI HV HX
  unfold z4 at hW
  have HW := Lib.hid hW
  have HQ := Lib.hid hq
  have BX := Lib.hid hbx.1
  have EE : Hid (d.delE u = F.delE u) := Lib.hid (hs.delE u)
  have BS : Hid (BesL (F.delA u) (d.delA u)) := Lib.hid (hs.delA u)
  clear hW hq hbx h ho hs hfit
  go_enter Try.func10, Try.ntmps10
  go_upto_region 1 with fail
  rw [← HW.out]
  try simp only [← HQ.out]
  have c0 := BX.out.b0.cell 0
  have cr0 := BX.out.b1.cell 0
  have cf0 := BX.out.b1.frozen 0
  have c1 := BX.out.b0.cell 1
  have cr1 := BX.out.b1.cell 1
  have cf1 := BX.out.b1.frozen 1
  have c2 := BX.out.b0.cell 2
  have cr2 := BX.out.b1.cell 2
  have cf2 := BX.out.b1.frozen 2
  have c3 := BX.out.b0.cell 3
  have cr3 := BX.out.b1.cell 3
  have cf3 := BX.out.b1.frozen 3
  have co0 := BX.out.bo.cell 0
  have co1 := BX.out.bo.cell 1
  have co2 := BX.out.bo.cell 2
  have co3 := BX.out.bo.cell 3
  have co4 := BX.out.bo.cell 4
  try dsimp only at co0 co1 co2 co3 co4
  go_wp2_with fail
  refine (tDelV T1.out u HU).mono ?_
  generalize F.delE u = n at EE ⊢
  rintro r w2 ⟨rfl, t2, k2⟩
  have BX2 := Lib.hid (BX.out.keep k2)
  have T2 := Lib.hid t2
  have K2 := Lib.hid (K0.out.trans k2)
  clear t2 k2 c0 cr0 cf0 c1 cr1 cf1 c2 cr2 cf2 c3 cr3 cf3 co0 co1 co2 co3 co4
  have d0 := BX2.out.b0.cell 0
  have dr0 := BX2.out.b1.cell 0
  have df0 := BX2.out.b1.frozen 0
  have d1 := BX2.out.b0.cell 1
  have dr1 := BX2.out.b1.cell 1
  have df1 := BX2.out.b1.frozen 1
  have d2 := BX2.out.b0.cell 2
  have dr2 := BX2.out.b1.cell 2
  have df2 := BX2.out.b1.frozen 2
  have d3 := BX2.out.b0.cell 3
  have dr3 := BX2.out.b1.cell 3
  have df3 := BX2.out.b1.frozen 3
  have do0 := BX2.out.bo.cell 0
  have do1 := BX2.out.bo.cell 1
  have do2 := BX2.out.bo.cell 2
  have do3 := BX2.out.bo.cell 3
  have do4 := BX2.out.bo.cell 4
  try dsimp only at do0 do1 do2 do3 do4
  go_wp2_with fail
  refine (dDelV T2.out HF.out u).mono ?_
  rw [EE.out]
  rintro r w3 ⟨a', b', c', e', rfl, t3, b3, o1, o2, o3, o4⟩
  obtain ⟨Y0, i0, j0, Y1, i1, j1, Y2, i2, j2, Y3, i3, j3, rfl, rfl, rfl, rfl⟩ := t3.doc.sl4
  have hb4 : Below w2.heap.size w2 (w3.alloc (Obj.cells #[.slice Y0 i0 j0, .slice Y1 i1 j1, .slice Y2 i2 j2, .slice Y3 i3 j3] 31)) := b3.alloc b3.size _
  have BX4 := Lib.hid (BX2.out.keep (Kept.of_below hb4))
  have t4 := t3.below ((Below.refl _ _).alloc (Nat.le_refl _) (Obj.cells #[.slice Y0 i0 j0, .slice Y1 i1 j1, .slice Y2 i2 j2, .slice Y3 i3 j3] 31))
  obtain ⟨W4, hW4⟩ : ∃ W4, W4 = w3.alloc (Obj.cells #[.slice Y0 i0 j0, .slice Y1 i1 j1, .slice Y2 i2 j2, .slice Y3 i3 j3] 31) := ⟨_, rfl⟩
  have kn : Blk W4 w3.heap.size 31 #[.slice Y0 i0 j0, .slice Y1 i1 j1, .slice Y2 i2 j2, .slice Y3 i3 j3] := by rw [hW4]; exact Blk.new _ _ _
  rw [← hW4] at BX4 t4 hb4
  have KF := Lib.hid ((K2.out.trans (Kept.of_below hb4)).far4 HL.out.2.2.2 (.slice Y0 i0 j0) (.slice Y1 i1 j1) (.slice Y2 i2 j2) (.slice Y3 i3 j3))
  have ON := Lib.hid (And.intro (o1.mono K2.out.1) (And.intro (o2.mono K2.out.1) (And.intro (o3.mono K2.out.1) (o4.mono K2.out.1))))
  obtain ⟨q4, hq4⟩ : ∃ q4, q4 = w3.heap.size := ⟨_, rfl⟩
  rw [← hq4] at kn
  have HW4 := Lib.hid hW4
  have HQ4 := Lib.hid hq4
  have lt2 := BX2.out.b1.lt
  have HD := Lib.hid (t4.far4 BX4.out.b1 notL_D HL.out.2.1 (off_new DD.out.vs t4.doc.vs o1 HL.out.2.2.2 lt2) (off_new DD.out.es t4.doc.es o2 HL.out.2.2.2 lt2) (off_new DD.out.mv t4.doc.mv o3 HL.out.2.2.2 lt2) (off_new DD.out.me t4.doc.me o4 HL.out.2.2.2 lt2) (.slice Y0 i0 j0) (.slice Y1 i1 j1) (.slice Y2 i2 j2) (.slice Y3 i3 j3))
  have g0 := kn.cell 0
  have g1 := kn.cell 1
  have g2 := kn.cell 2
  have g3 := kn.cell 3
  clear t3 t4 b3 o1 o2 o3 o4 hb4 hW4 hq4 kn lt2 d0 dr0 df0 d1 dr1 df1 d2 dr2 df2 d3 dr3 df3 do0 do1 do2 do3 do4
  have e0 := BX4.out.b0.cell 0
  have er0 := BX4.out.b1.cell 0
  have ef0 := BX4.out.b1.frozen 0
  have e1 := BX4.out.b0.cell 1
  have er1 := BX4.out.b1.cell 1
  have ef1 := BX4.out.b1.frozen 1
  have e2 := BX4.out.b0.cell 2
  have er2 := BX4.out.b1.cell 2
  have ef2 := BX4.out.b1.frozen 2
  have e3 := BX4.out.b0.cell 3
  have er3 := BX4.out.b1.cell 3
  have ef3 := BX4.out.b1.frozen 3
  have eo0 := BX4.out.bo.cell 0
  have eo1 := BX4.out.bo.cell 1
  have eo2 := BX4.out.bo.cell 2
  have eo3 := BX4.out.bo.cell 3
  have eo4 := BX4.out.bo.cell 4
  try dsimp only at eo0 eo1 eo2 eo3 eo4
  go_upto_region 9 with fail
  rw [← HW4.out]
  try simp only [← HQ4.out]
  obtain ⟨X, hX⟩ : ∃ X, X = Value.agg #[.slice Y0 i0 j0, .slice Y1 i1 j1, .slice Y2 i2 j2, .slice Y3 i3 j3] := ⟨_, rfl⟩
  go_wp2_with fail
  refine ret_cell_tmp2 (p := 6) (u := 7) (v := X) rfl rfl rfl (by rw [hX]; go_simp) rfl ⟨_, _, _, _, _, (by rw [hX]; rfl), HD.out, BS.out, KF.out, ON.out⟩

set_option maxRecDepth 100000 in
set_option maxHeartbeats 8000000 in
theorem does_3 (w wr : World) (f : Nat) (F : LF) (d : DF) (a b c e : Value) (h : LTwo w wr f F d a b c e) (hs : BesL F d) (id u v : Int) (wt : Int) (ho : OpL.At ⟨3, id, u, v, wt⟩) :
    Calls Try.prog 10 #[.pointer (some ⟨f, 0, none⟩), .agg #[a, b, c, e], .agg #[.int .i64 3, .int .i64 id, .int .i64 u, .int .i64 v, .int .i64 wt]] wr fun r w' => ChOut w wr f (F.linkA id u v wt) a b c e r w' := by
  have hfit := hs.fit h.ok
  obtain ⟨X0, n0, m0, X1, n1, m1, X2, n2, m2, X3, n3, m3, rfl, rfl, rfl, rfl⟩ := h.doc.sl4
  obtain ⟨W, hW⟩ : ∃ W, W = ((wr.alloc (.cells #[.slice X0 n0 m0, .slice X1 n1 m1, .slice X2 n2 m2, .slice X3 n3 m3] 31)).alloc (Obj.cells #[.int .i64 3, .int .i64 id, .int .i64 u, .int .i64 v, .int .i64 wt] 35)).alloc z4 := ⟨_, rfl⟩
  obtain ⟨q, hq⟩ : ∃ q, q = wr.heap.size := ⟨_, rfl⟩
  have hbx := box7 wr (.slice X0 n0 m0) (.slice X1 n1 m1) (.slice X2 n2 m2) (.slice X3 n3 m3) ⟨3, id, u, v, wt⟩
  dsimp only at hbx
  rw [← hW] at hbx
  have T1 := Lib.hid (h.below hbx.2)
  have HL : Hid (w.heap.size ≤ q ∧ w.heap.size ≤ q + 2 ∧ wr.heap.size ≤ q ∧ wr.heap.size ≤ q + 2) := Lib.hid (by have := h.low.size; omega)
  have K0 := Lib.hid (Kept.of_below hbx.2)
  rw [← hq] at hbx
  have DD := Lib.hid h.doc
  have HS := Lib.hid hs
  have HG := Lib.hid h.ok
  have HF := Lib.hid hfit
  have HU := ho.u
  have HI := ho.id
  have HV := ho.v
  have HX := ho.wt
  dsimp only at HU HI HV HX
  unfold z4 at hW
  have HW := Lib.hid hW
  have HQ := Lib.hid hq
  have BX := Lib.hid hbx.1
  have EE : Hid (d.linkWE id u v wt = F.linkE id u v wt) := Lib.hid (hs.linkE id u v wt)
  have BS : Hid (BesL (F.linkA id u v wt) (d.linkWA id u v wt)) := Lib.hid (hs.linkA id u v wt)
  clear hW hq hbx h ho hs hfit
  go_enter Try.func10, Try.ntmps10
  go_upto_region 1 with fail
  rw [← HW.out]
  try simp only [← HQ.out]
  have c0 := BX.out.b0.cell 0
  have cr0 := BX.out.b1.cell 0
  have cf0 := BX.out.b1.frozen 0
  have c1 := BX.out.b0.cell 1
  have cr1 := BX.out.b1.cell 1
  have cf1 := BX.out.b1.frozen 1
  have c2 := BX.out.b0.cell 2
  have cr2 := BX.out.b1.cell 2
  have cf2 := BX.out.b1.frozen 2
  have c3 := BX.out.b0.cell 3
  have cr3 := BX.out.b1.cell 3
  have cf3 := BX.out.b1.frozen 3
  have co0 := BX.out.bo.cell 0
  have co1 := BX.out.bo.cell 1
  have co2 := BX.out.bo.cell 2
  have co3 := BX.out.bo.cell 3
  have co4 := BX.out.bo.cell 4
  try dsimp only at co0 co1 co2 co3 co4
  go_wp2_with fail
  refine (tLink T1.out id u v wt HI HU HV HX).mono ?_
  generalize F.linkE id u v wt = n at EE ⊢
  rintro r w2 ⟨rfl, t2, k2⟩
  have BX2 := Lib.hid (BX.out.keep k2)
  have T2 := Lib.hid t2
  have K2 := Lib.hid (K0.out.trans k2)
  clear t2 k2 c0 cr0 cf0 c1 cr1 cf1 c2 cr2 cf2 c3 cr3 cf3 co0 co1 co2 co3 co4
  have d0 := BX2.out.b0.cell 0
  have dr0 := BX2.out.b1.cell 0
  have df0 := BX2.out.b1.frozen 0
  have d1 := BX2.out.b0.cell 1
  have dr1 := BX2.out.b1.cell 1
  have df1 := BX2.out.b1.frozen 1
  have d2 := BX2.out.b0.cell 2
  have dr2 := BX2.out.b1.cell 2
  have df2 := BX2.out.b1.frozen 2
  have d3 := BX2.out.b0.cell 3
  have dr3 := BX2.out.b1.cell 3
  have df3 := BX2.out.b1.frozen 3
  have do0 := BX2.out.bo.cell 0
  have do1 := BX2.out.bo.cell 1
  have do2 := BX2.out.bo.cell 2
  have do3 := BX2.out.bo.cell 3
  have do4 := BX2.out.bo.cell 4
  try dsimp only at do0 do1 do2 do3 do4
  go_wp2_with fail
  refine (dLink T2.out HF.out id u v wt).mono ?_
  rw [EE.out]
  rintro r w3 ⟨a', b', c', e', rfl, t3, b3, o1, o2, o3, o4⟩
  obtain ⟨Y0, i0, j0, Y1, i1, j1, Y2, i2, j2, Y3, i3, j3, rfl, rfl, rfl, rfl⟩ := t3.doc.sl4
  have hb4 : Below w2.heap.size w2 (w3.alloc (Obj.cells #[.slice Y0 i0 j0, .slice Y1 i1 j1, .slice Y2 i2 j2, .slice Y3 i3 j3] 31)) := b3.alloc b3.size _
  have BX4 := Lib.hid (BX2.out.keep (Kept.of_below hb4))
  have t4 := t3.below ((Below.refl _ _).alloc (Nat.le_refl _) (Obj.cells #[.slice Y0 i0 j0, .slice Y1 i1 j1, .slice Y2 i2 j2, .slice Y3 i3 j3] 31))
  obtain ⟨W4, hW4⟩ : ∃ W4, W4 = w3.alloc (Obj.cells #[.slice Y0 i0 j0, .slice Y1 i1 j1, .slice Y2 i2 j2, .slice Y3 i3 j3] 31) := ⟨_, rfl⟩
  have kn : Blk W4 w3.heap.size 31 #[.slice Y0 i0 j0, .slice Y1 i1 j1, .slice Y2 i2 j2, .slice Y3 i3 j3] := by rw [hW4]; exact Blk.new _ _ _
  rw [← hW4] at BX4 t4 hb4
  have KF := Lib.hid ((K2.out.trans (Kept.of_below hb4)).far4 HL.out.2.2.2 (.slice Y0 i0 j0) (.slice Y1 i1 j1) (.slice Y2 i2 j2) (.slice Y3 i3 j3))
  have ON := Lib.hid (And.intro (o1.mono K2.out.1) (And.intro (o2.mono K2.out.1) (And.intro (o3.mono K2.out.1) (o4.mono K2.out.1))))
  obtain ⟨q4, hq4⟩ : ∃ q4, q4 = w3.heap.size := ⟨_, rfl⟩
  rw [← hq4] at kn
  have HW4 := Lib.hid hW4
  have HQ4 := Lib.hid hq4
  have lt2 := BX2.out.b1.lt
  have HD := Lib.hid (t4.far4 BX4.out.b1 notL_D HL.out.2.1 (off_new DD.out.vs t4.doc.vs o1 HL.out.2.2.2 lt2) (off_new DD.out.es t4.doc.es o2 HL.out.2.2.2 lt2) (off_new DD.out.mv t4.doc.mv o3 HL.out.2.2.2 lt2) (off_new DD.out.me t4.doc.me o4 HL.out.2.2.2 lt2) (.slice Y0 i0 j0) (.slice Y1 i1 j1) (.slice Y2 i2 j2) (.slice Y3 i3 j3))
  have g0 := kn.cell 0
  have g1 := kn.cell 1
  have g2 := kn.cell 2
  have g3 := kn.cell 3
  clear t3 t4 b3 o1 o2 o3 o4 hb4 hW4 hq4 kn lt2 d0 dr0 df0 d1 dr1 df1 d2 dr2 df2 d3 dr3 df3 do0 do1 do2 do3 do4
  have e0 := BX4.out.b0.cell 0
  have er0 := BX4.out.b1.cell 0
  have ef0 := BX4.out.b1.frozen 0
  have e1 := BX4.out.b0.cell 1
  have er1 := BX4.out.b1.cell 1
  have ef1 := BX4.out.b1.frozen 1
  have e2 := BX4.out.b0.cell 2
  have er2 := BX4.out.b1.cell 2
  have ef2 := BX4.out.b1.frozen 2
  have e3 := BX4.out.b0.cell 3
  have er3 := BX4.out.b1.cell 3
  have ef3 := BX4.out.b1.frozen 3
  have eo0 := BX4.out.bo.cell 0
  have eo1 := BX4.out.bo.cell 1
  have eo2 := BX4.out.bo.cell 2
  have eo3 := BX4.out.bo.cell 3
  have eo4 := BX4.out.bo.cell 4
  try dsimp only at eo0 eo1 eo2 eo3 eo4
  go_upto_region 13 with fail
  rw [← HW4.out]
  try simp only [← HQ4.out]
  obtain ⟨X, hX⟩ : ∃ X, X = Value.agg #[.slice Y0 i0 j0, .slice Y1 i1 j1, .slice Y2 i2 j2, .slice Y3 i3 j3] := ⟨_, rfl⟩
  go_wp2_with fail
  refine ret_cell_tmp2 (p := 6) (u := 7) (v := X) rfl rfl rfl (by rw [hX]; go_simp) rfl ⟨_, _, _, _, _, (by rw [hX]; rfl), HD.out, BS.out, KF.out, ON.out⟩

set_option maxRecDepth 100000 in
set_option maxHeartbeats 8000000 in
theorem does_4 (w wr : World) (f : Nat) (F : LF) (d : DF) (a b c e : Value) (h : LTwo w wr f F d a b c e) (hs : BesL F d) (id u v : Int) (wt : Int) (ho : OpL.At ⟨4, id, u, v, wt⟩) :
    Calls Try.prog 10 #[.pointer (some ⟨f, 0, none⟩), .agg #[a, b, c, e], .agg #[.int .i64 4, .int .i64 id, .int .i64 u, .int .i64 v, .int .i64 wt]] wr fun r w' => ChOut w wr f (F.cutA id) a b c e r w' := by
  have hfit := hs.fit h.ok
  obtain ⟨X0, n0, m0, X1, n1, m1, X2, n2, m2, X3, n3, m3, rfl, rfl, rfl, rfl⟩ := h.doc.sl4
  obtain ⟨W, hW⟩ : ∃ W, W = ((wr.alloc (.cells #[.slice X0 n0 m0, .slice X1 n1 m1, .slice X2 n2 m2, .slice X3 n3 m3] 31)).alloc (Obj.cells #[.int .i64 4, .int .i64 id, .int .i64 u, .int .i64 v, .int .i64 wt] 35)).alloc z4 := ⟨_, rfl⟩
  obtain ⟨q, hq⟩ : ∃ q, q = wr.heap.size := ⟨_, rfl⟩
  have hbx := box7 wr (.slice X0 n0 m0) (.slice X1 n1 m1) (.slice X2 n2 m2) (.slice X3 n3 m3) ⟨4, id, u, v, wt⟩
  dsimp only at hbx
  rw [← hW] at hbx
  have T1 := Lib.hid (h.below hbx.2)
  have HL : Hid (w.heap.size ≤ q ∧ w.heap.size ≤ q + 2 ∧ wr.heap.size ≤ q ∧ wr.heap.size ≤ q + 2) := Lib.hid (by have := h.low.size; omega)
  have K0 := Lib.hid (Kept.of_below hbx.2)
  rw [← hq] at hbx
  have DD := Lib.hid h.doc
  have HS := Lib.hid hs
  have HG := Lib.hid h.ok
  have HF := Lib.hid hfit
  have HU := ho.u
  have HI := ho.id
  have HV := ho.v
  have HX := ho.wt
  dsimp only at HU HI HV HX
  unfold z4 at hW
  have HW := Lib.hid hW
  have HQ := Lib.hid hq
  have BX := Lib.hid hbx.1
  have EE : Hid (d.cutE id = F.cutE id) := Lib.hid (hs.cutE id)
  have BS : Hid (BesL (F.cutA id) (d.cutA id)) := Lib.hid (hs.cutA id)
  clear hW hq hbx h ho hs hfit
  go_enter Try.func10, Try.ntmps10
  go_upto_region 1 with fail
  rw [← HW.out]
  try simp only [← HQ.out]
  have c0 := BX.out.b0.cell 0
  have cr0 := BX.out.b1.cell 0
  have cf0 := BX.out.b1.frozen 0
  have c1 := BX.out.b0.cell 1
  have cr1 := BX.out.b1.cell 1
  have cf1 := BX.out.b1.frozen 1
  have c2 := BX.out.b0.cell 2
  have cr2 := BX.out.b1.cell 2
  have cf2 := BX.out.b1.frozen 2
  have c3 := BX.out.b0.cell 3
  have cr3 := BX.out.b1.cell 3
  have cf3 := BX.out.b1.frozen 3
  have co0 := BX.out.bo.cell 0
  have co1 := BX.out.bo.cell 1
  have co2 := BX.out.bo.cell 2
  have co3 := BX.out.bo.cell 3
  have co4 := BX.out.bo.cell 4
  try dsimp only at co0 co1 co2 co3 co4
  go_wp2_with fail
  refine (tCut T1.out id HI).mono ?_
  generalize F.cutE id = n at EE ⊢
  rintro r w2 ⟨rfl, t2, k2⟩
  have BX2 := Lib.hid (BX.out.keep k2)
  have T2 := Lib.hid t2
  have K2 := Lib.hid (K0.out.trans k2)
  clear t2 k2 c0 cr0 cf0 c1 cr1 cf1 c2 cr2 cf2 c3 cr3 cf3 co0 co1 co2 co3 co4
  have d0 := BX2.out.b0.cell 0
  have dr0 := BX2.out.b1.cell 0
  have df0 := BX2.out.b1.frozen 0
  have d1 := BX2.out.b0.cell 1
  have dr1 := BX2.out.b1.cell 1
  have df1 := BX2.out.b1.frozen 1
  have d2 := BX2.out.b0.cell 2
  have dr2 := BX2.out.b1.cell 2
  have df2 := BX2.out.b1.frozen 2
  have d3 := BX2.out.b0.cell 3
  have dr3 := BX2.out.b1.cell 3
  have df3 := BX2.out.b1.frozen 3
  have do0 := BX2.out.bo.cell 0
  have do1 := BX2.out.bo.cell 1
  have do2 := BX2.out.bo.cell 2
  have do3 := BX2.out.bo.cell 3
  have do4 := BX2.out.bo.cell 4
  try dsimp only at do0 do1 do2 do3 do4
  go_wp2_with fail
  refine (dCut T2.out HF.out id).mono ?_
  rw [EE.out]
  rintro r w3 ⟨a', b', c', e', rfl, t3, b3, o1, o2, o3, o4⟩
  obtain ⟨Y0, i0, j0, Y1, i1, j1, Y2, i2, j2, Y3, i3, j3, rfl, rfl, rfl, rfl⟩ := t3.doc.sl4
  have hb4 : Below w2.heap.size w2 (w3.alloc (Obj.cells #[.slice Y0 i0 j0, .slice Y1 i1 j1, .slice Y2 i2 j2, .slice Y3 i3 j3] 31)) := b3.alloc b3.size _
  have BX4 := Lib.hid (BX2.out.keep (Kept.of_below hb4))
  have t4 := t3.below ((Below.refl _ _).alloc (Nat.le_refl _) (Obj.cells #[.slice Y0 i0 j0, .slice Y1 i1 j1, .slice Y2 i2 j2, .slice Y3 i3 j3] 31))
  obtain ⟨W4, hW4⟩ : ∃ W4, W4 = w3.alloc (Obj.cells #[.slice Y0 i0 j0, .slice Y1 i1 j1, .slice Y2 i2 j2, .slice Y3 i3 j3] 31) := ⟨_, rfl⟩
  have kn : Blk W4 w3.heap.size 31 #[.slice Y0 i0 j0, .slice Y1 i1 j1, .slice Y2 i2 j2, .slice Y3 i3 j3] := by rw [hW4]; exact Blk.new _ _ _
  rw [← hW4] at BX4 t4 hb4
  have KF := Lib.hid ((K2.out.trans (Kept.of_below hb4)).far4 HL.out.2.2.2 (.slice Y0 i0 j0) (.slice Y1 i1 j1) (.slice Y2 i2 j2) (.slice Y3 i3 j3))
  have ON := Lib.hid (And.intro (o1.mono K2.out.1) (And.intro (o2.mono K2.out.1) (And.intro (o3.mono K2.out.1) (o4.mono K2.out.1))))
  obtain ⟨q4, hq4⟩ : ∃ q4, q4 = w3.heap.size := ⟨_, rfl⟩
  rw [← hq4] at kn
  have HW4 := Lib.hid hW4
  have HQ4 := Lib.hid hq4
  have lt2 := BX2.out.b1.lt
  have HD := Lib.hid (t4.far4 BX4.out.b1 notL_D HL.out.2.1 (off_new DD.out.vs t4.doc.vs o1 HL.out.2.2.2 lt2) (off_new DD.out.es t4.doc.es o2 HL.out.2.2.2 lt2) (off_new DD.out.mv t4.doc.mv o3 HL.out.2.2.2 lt2) (off_new DD.out.me t4.doc.me o4 HL.out.2.2.2 lt2) (.slice Y0 i0 j0) (.slice Y1 i1 j1) (.slice Y2 i2 j2) (.slice Y3 i3 j3))
  have g0 := kn.cell 0
  have g1 := kn.cell 1
  have g2 := kn.cell 2
  have g3 := kn.cell 3
  clear t3 t4 b3 o1 o2 o3 o4 hb4 hW4 hq4 kn lt2 d0 dr0 df0 d1 dr1 df1 d2 dr2 df2 d3 dr3 df3 do0 do1 do2 do3 do4
  have e0 := BX4.out.b0.cell 0
  have er0 := BX4.out.b1.cell 0
  have ef0 := BX4.out.b1.frozen 0
  have e1 := BX4.out.b0.cell 1
  have er1 := BX4.out.b1.cell 1
  have ef1 := BX4.out.b1.frozen 1
  have e2 := BX4.out.b0.cell 2
  have er2 := BX4.out.b1.cell 2
  have ef2 := BX4.out.b1.frozen 2
  have e3 := BX4.out.b0.cell 3
  have er3 := BX4.out.b1.cell 3
  have ef3 := BX4.out.b1.frozen 3
  have eo0 := BX4.out.bo.cell 0
  have eo1 := BX4.out.bo.cell 1
  have eo2 := BX4.out.bo.cell 2
  have eo3 := BX4.out.bo.cell 3
  have eo4 := BX4.out.bo.cell 4
  try dsimp only at eo0 eo1 eo2 eo3 eo4
  go_upto_region 17 with fail
  rw [← HW4.out]
  try simp only [← HQ4.out]
  obtain ⟨X, hX⟩ : ∃ X, X = Value.agg #[.slice Y0 i0 j0, .slice Y1 i1 j1, .slice Y2 i2 j2, .slice Y3 i3 j3] := ⟨_, rfl⟩
  go_wp2_with fail
  refine ret_cell_tmp2 (p := 6) (u := 7) (v := X) rfl rfl rfl (by rw [hX]; go_simp) rfl ⟨_, _, _, _, _, (by rw [hX]; rfl), HD.out, BS.out, KF.out, ON.out⟩

set_option maxRecDepth 100000 in
set_option maxHeartbeats 8000000 in
theorem does_0 (w wr : World) (f : Nat) (F : LF) (d : DF) (a b c e : Value) (h : LTwo w wr f F d a b c e) (hs : BesL F d) (kd id u v : Int) (wt : Int) (ho : OpL.At ⟨kd, id, u, v, wt⟩) (hk : kd ≠ 1 ∧ kd ≠ 2 ∧ kd ≠ 3 ∧ kd ≠ 4) :
    Calls Try.prog 10 #[.pointer (some ⟨f, 0, none⟩), .agg #[a, b, c, e], .agg #[.int .i64 kd, .int .i64 id, .int .i64 u, .int .i64 v, .int .i64 wt]] wr fun r w' => ChOut w wr f (F) a b c e r w' := by
  have hfit := hs.fit h.ok
  obtain ⟨X0, n0, m0, X1, n1, m1, X2, n2, m2, X3, n3, m3, rfl, rfl, rfl, rfl⟩ := h.doc.sl4
  obtain ⟨W, hW⟩ : ∃ W, W = ((wr.alloc (.cells #[.slice X0 n0 m0, .slice X1 n1 m1, .slice X2 n2 m2, .slice X3 n3 m3] 31)).alloc (Obj.cells #[.int .i64 kd, .int .i64 id, .int .i64 u, .int .i64 v, .int .i64 wt] 35)).alloc z4 := ⟨_, rfl⟩
  obtain ⟨q, hq⟩ : ∃ q, q = wr.heap.size := ⟨_, rfl⟩
  have hbx := box7 wr (.slice X0 n0 m0) (.slice X1 n1 m1) (.slice X2 n2 m2) (.slice X3 n3 m3) ⟨kd, id, u, v, wt⟩
  dsimp only at hbx
  rw [← hW] at hbx
  have T1 := Lib.hid (h.below hbx.2)
  have HL : Hid (w.heap.size ≤ q ∧ w.heap.size ≤ q + 2 ∧ wr.heap.size ≤ q ∧ wr.heap.size ≤ q + 2) := Lib.hid (by have := h.low.size; omega)
  have K0 := Lib.hid (Kept.of_below hbx.2)
  rw [← hq] at hbx
  have DD := Lib.hid h.doc
  have HS := Lib.hid hs
  have HG := Lib.hid h.ok
  have HF := Lib.hid hfit
  have HU := ho.u
  have HI := ho.id
  have HV := ho.v
  have HX := ho.wt
  dsimp only at HU HI HV HX
  unfold z4 at hW
  have HW := Lib.hid hW
  have HQ := Lib.hid hq
  have BX := Lib.hid hbx.1
  obtain ⟨hk1, hk2, hk3, hk4⟩ := hk
  clear hW hq hbx h ho hs hfit
  go_enter Try.func10, Try.ntmps10
  go_upto_region 1 with fail
  rw [← HW.out]
  try simp only [← HQ.out]
  have c0 := BX.out.b0.cell 0
  have cr0 := BX.out.b1.cell 0
  have cf0 := BX.out.b1.frozen 0
  have c1 := BX.out.b0.cell 1
  have cr1 := BX.out.b1.cell 1
  have cf1 := BX.out.b1.frozen 1
  have c2 := BX.out.b0.cell 2
  have cr2 := BX.out.b1.cell 2
  have cf2 := BX.out.b1.frozen 2
  have c3 := BX.out.b0.cell 3
  have cr3 := BX.out.b1.cell 3
  have cf3 := BX.out.b1.frozen 3
  have co0 := BX.out.bo.cell 0
  have co1 := BX.out.bo.cell 1
  have co2 := BX.out.bo.cell 2
  have co3 := BX.out.bo.cell 3
  have co4 := BX.out.bo.cell 4
  try dsimp only at co0 co1 co2 co3 co4
  have k1 : (kd == 1) = false := by simpa using hk1
  have k2 : (kd == 2) = false := by simpa using hk2
  have k3 : (kd == 3) = false := by simpa using hk3
  have k4 : (kd == 4) = false := by simpa using hk4
  have lt2 := BX.out.b1.lt
  have HD := Lib.hid (T1.out.far4 BX.out.b1 notL_D HL.out.2.1 (off_new DD.out.vs T1.out.doc.vs (.old _ _) HL.out.2.2.2 lt2) (off_new DD.out.es T1.out.doc.es (.old _ _) HL.out.2.2.2 lt2) (off_new DD.out.mv T1.out.doc.mv (.old _ _) HL.out.2.2.2 lt2) (off_new DD.out.me T1.out.doc.me (.old _ _) HL.out.2.2.2 lt2) (.slice X0 n0 m0) (.slice X1 n1 m1) (.slice X2 n2 m2) (.slice X3 n3 m3))
  have KF := Lib.hid (K0.out.far4 HL.out.2.2.2 (.slice X0 n0 m0) (.slice X1 n1 m1) (.slice X2 n2 m2) (.slice X3 n3 m3))
  clear lt2
  obtain ⟨X, hX⟩ : ∃ X, X = Value.agg #[.slice X0 n0 m0, .slice X1 n1 m1, .slice X2 n2 m2, .slice X3 n3 m3] := ⟨_, rfl⟩
  go_wp2_with fail
  refine ret_cell_tmp2 (p := 6) (u := 7) (v := X) rfl rfl rfl (by rw [hX]; go_simp) rfl ⟨_, _, _, _, _, (by rw [hX]; rfl), HD.out, HS.out, KF.out, .old _ _, .old _ _, .old _ _, .old _ _⟩

/-- does, whatever comes in. -/
theorem does_any (w wr : World) (f : Nat) (F : LF) (d : DF) (a b c e : Value) (h : LTwo w wr f F d a b c e) (hs : BesL F d) (kd id u v : Int) (wt : Int) (ho : OpL.At ⟨kd, id, u, v, wt⟩) :
    Calls Try.prog 10 #[.pointer (some ⟨f, 0, none⟩), .agg #[a, b, c, e], .agg #[.int .i64 kd, .int .i64 id, .int .i64 u, .int .i64 v, .int .i64 wt]] wr fun r w' => ChOut w wr f (F.stepL ⟨kd, id, u, v, wt⟩) a b c e r w' := by
  by_cases k1 : kd = 1
  · subst k1
    have e1 : F.stepL ⟨1, id, u, v, wt⟩ = F.addA u := by unfold LF.stepL; simp
    rw [e1]
    exact does_1 w wr f F d a b c e h hs id u v wt ho
  by_cases k2 : kd = 2
  · subst k2
    have e1 : F.stepL ⟨2, id, u, v, wt⟩ = F.delA u := by unfold LF.stepL; simp
    rw [e1]
    exact does_2 w wr f F d a b c e h hs id u v wt ho
  by_cases k3 : kd = 3
  · subst k3
    have e1 : F.stepL ⟨3, id, u, v, wt⟩ = F.linkA id u v wt := by unfold LF.stepL; simp
    rw [e1]
    exact does_3 w wr f F d a b c e h hs id u v wt ho
  by_cases k4 : kd = 4
  · subst k4
    have e1 : F.stepL ⟨4, id, u, v, wt⟩ = F.cutA id := by unfold LF.stepL; simp
    rw [e1]
    exact does_4 w wr f F d a b c e h hs id u v wt ho
  have e1 : F.stepL ⟨kd, id, u, v, wt⟩ = F := by unfold LF.stepL; simp [k1, k2, k3, k4]
  rw [e1]
  exact does_0 w wr f F d a b c e h hs kd id u v wt ho ⟨k1, k2, k3, k4⟩

end Go.Proofs.Ytlhkajlkapoabaa

/-
  What the walk of LinkcutPlays reads.
-/
namespace Go.Proofs.Ytlhkajlkapoabaa
open Go.RowKit Go.Maps
set_option linter.unusedVariables false

/-- Both forests side by side, the document's in a box. -/
structure PlL (w wr : World) (f p : Nat) (F : LF) (d : DF) (a b c e : Value) : Prop where
  two : LTwo w wr f F d a b c e
  bes : BesL F d
  box : Blk wr p 31 #[a, b, c, e]
  lo : w.heap.size ≤ p
  oa : InQ (fun k => k ≠ p) a d.vs
  ob : InQ (fun k => k ≠ p) b d.es
  oc : InQ (fun k => k ≠ p) c d.mv
  oe : InQ (fun k => k ≠ p) e d.me

section

variable {w wr w' : World} {f p : Nat} {F F' : LF} {d d' : DF} {a b c e a' b' c' e' : Value}

theorem PlL.below (h : PlL w wr f p F d a b c e) (hb : Below wr.heap.size wr w') : PlL w w' f p F d a b c e := ⟨h.two.below hb, h.bes, h.box.below hb h.box.lt, h.lo, h.oa, h.ob, h.oc, h.oe⟩

theorem PlL.four (h : PlL w wr f p F d a b c e) : wr.cell? ⟨p, 0, none⟩ = some a ∧ wr.cell? ⟨p, 1, none⟩ = some b ∧ wr.cell? ⟨p, 2, none⟩ = some c ∧ wr.cell? ⟨p, 3, none⟩ = some e := ⟨h.box.cell 0, h.box.cell 1, h.box.cell 2, h.box.cell 3⟩

theorem PlL.ok (h : PlL w wr f p F d a b c e) : F.Ok := h.two.ok

theorem PlL.fit (h : PlL w wr f p F d a b c e) : d.Fit ∧ d.mv.length ≤ 4096 ∧ d.me.length ≤ 4096 := h.bes.fit h.ok

/-- Behind changes the new forest lies in the same box. -/
theorem PlL.turn (h : PlL w wr f p F d a b c e) (t : LTwo w w' f F' d' a' b' c' e') (s : BesL F' d') (k : Kept wr w') (o1 : OldNew wr a a') (o2 : OldNew wr b b') (o3 : OldNew wr c c') (o4 : OldNew wr e e') :
    PlL w ((((w'.setCell ⟨p, 0, none⟩ a').setCell ⟨p, 1, none⟩ b').setCell ⟨p, 2, none⟩ c').setCell ⟨p, 3, none⟩ e') f p F' d' a' b' c' e' := by
  have hb := k.blk h.box notL_D
  have lt := h.box.lt
  have q1 := off_keep h.oa h.two.doc.vs t.doc.vs o1 lt
  have q2 := off_keep h.ob h.two.doc.es t.doc.es o2 lt
  have q3 := off_keep h.oc h.two.doc.mv t.doc.mv o3 lt
  have q4 := off_keep h.oe h.two.doc.me t.doc.me o4 lt
  exact ⟨t.far4 hb notL_D h.lo q1 q2 q3 q4 _ _ _ _, s, (((hb.set_ 0 a').set_ 1 b').set_ 2 c').set_ 3 e', h.lo, q1, q2, q3, q4⟩

end

/-- What a region reads: the document's forest, a call of the script. -/
theorem boxO_of {w wr : World} {f p q : Nat} {F : LF} {d : DF} {a b c e : Value} {kd id u v : Int} {wt : Int} (h : PlL w wr f p F d a b c e) (ho : Blk wr q 35 #[.int .i64 kd, .int .i64 id, .int .i64 u, .int .i64 v, .int .i64 wt]) :
    wr.cell? ⟨p, 0, none⟩ = some a ∧ wr.cell? ⟨p, 1, none⟩ = some b ∧ wr.cell? ⟨p, 2, none⟩ = some c ∧ wr.cell? ⟨p, 3, none⟩ = some e ∧ wr.cell? ⟨q, 1, none⟩ = some (.int .i64 id) ∧ wr.cell? ⟨q, 2, none⟩ = some (.int .i64 u) ∧ wr.cell? ⟨q, 3, none⟩ = some (.int .i64 v) := ⟨h.box.cell 0, h.box.cell 1, h.box.cell 2, h.box.cell 3, ho.cell 1, ho.cell 2, ho.cell 3⟩

theorem LTwo.len {w wr : World} {f : Nat} {F : LF} {d : DF} {a b c e : Value} (h : LTwo w wr f F d a b c e) : Calls Try.prog 11 #[.pointer (some ⟨f, 0, none⟩)] wr fun r w' => r = .returned (.tuple #[.int .i64 (F.vs.length : Int), .int .i64 (F.es.length : Int)]) ∧ Below wr.heap.size wr w' := by
  obtain ⟨Q, h1, h2, h3, qa, qb, qc, qe⟩ := h
  exact bLen w.heap.size Q wr f F h1

theorem find_same {L L' : List Eg} (hm : ∀ e, e ∈ L ↔ e ∈ L') (hn : (ids L).Nodup) (id : Int) : L.find? (fun e => e.id == id) = L'.find? (fun e => e.id == id) := by
  cases h : L.find? (fun e => e.id == id) with
  | none =>
    symm
    exact List.find?_eq_none.2 fun e he => List.find?_eq_none.1 h e ((hm e).2 he)
  | some e =>
    have h1 := List.mem_of_find?_eq_some h
    have h2 := List.find?_some h
    cases h' : L'.find? (fun e => e.id == id) with
    | none => exact absurd h2 (List.find?_eq_none.1 h' e ((hm e).1 h1))
    | some e' =>
      have h3 := List.mem_of_find?_eq_some h'
      have h4 := List.find?_some h'
      have h5 : e'.id = e.id := by rw [beq_iff_eq] at h2 h4; rw [h2, h4]
      rw [one_of_nodup hn e' ((hm e').2 h3) e h1 h5]

/-- What both tell of an id. -/
theorem BesL.edge {F : LF} {d : DF} (h : BesL F d) (id : Int) : look d.es id = (F.edge id).getD Eg.zero ∧ decide (id ∈ ids d.es) = (F.edge id).isSome := by
  have h1 := find_same h.em h.idn id
  refine ⟨by unfold look LF.edge; rw [h1], ?_⟩
  unfold LF.edge
  rw [← h1, Bool.eq_iff_iff, decide_eq_true_iff, List.find?_isSome]
  unfold ids
  rw [List.mem_map]
  exact ⟨fun ⟨e, h2, h3⟩ => ⟨e, h2, by simpa using h3⟩, fun ⟨e, h2, h3⟩ => ⟨e, h2, by simpa using h3⟩⟩

/-- Both have as many. -/
theorem PlL.lens {w wr : World} {f p : Nat} {F : LF} {d : DF} {X0 X1 : Option Addr} {n0 m0 n1 m1 : Nat} {c e : Value} (h : PlL w wr f p F d (.slice X0 n0 m0) (.slice X1 n1 m1) c e) : F.vs.length = n0 ∧ F.es.length = n1 := by
  obtain ⟨-, A', c', e', -⟩ := h.two.doc.vs
  obtain ⟨-, A2, c2, e2, -⟩ := h.two.doc.es
  injection e' with _ e3 _
  injection e2 with _ e4 _
  have h1 := (h.bes.vperm h.ok).length_eq
  have h2 := (h.bes.eperm h.ok).length_eq
  omega

theorem RK.cellAt {α : Type} {enc : α → List Value} {k : Nat} {w : World} {B b o n c i j : Nat} {xs : List α} {x : α} {u : Value} (h : RK enc k w B (.slice (some ⟨b, o, none⟩) n c) xs) (hi : xs[i]? = some x) (hu : (enc x)[j]? = some u) : w.cell? ⟨b, o + i * k + j, none⟩ = some u := by
  obtain ⟨-, A, c', e, -, -, h4⟩ := h
  injection e with e1 e2 e3
  rcases h4 with rfl | ⟨b', off, e4, -, hc⟩
  · simp at hi
  · rw [← e1] at e4
    injection e4 with e4
    injection e4 with e5 e6
    subst e5 e6
    exact hc i x hi j u hu

end Go.Proofs.Ytlhkajlkapoabaa
