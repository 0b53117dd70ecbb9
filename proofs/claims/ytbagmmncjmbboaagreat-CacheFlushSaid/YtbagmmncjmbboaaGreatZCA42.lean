/-
  CacheFlush: a pool and the rows that its pages are to have. No walk.
-/
import Derived.BigQuiet
import Derived.Test.YtbagmmncjmbboaaGreatZCA41
import Derived.Test.YtbagmmncjmbboaaGreatYQ53
import Derived.Test.YtbagmmncjmbboaaGreatD8
namespace Go.Proofs.YtbagmmncjmbboaaGreat
open Go.RowKit Go.Maps
set_option linter.unusedVariables false

theorem NewTxt.modB {S : Nat → Prop} {w w' : World} {B : Nat} {v : Value} {L : List (List Nat)} {ys : List Sl} (h : NewTxt w B v L ys) (hm : Mod S w w') (ho : ∀ b, v.ownBlock = some b → ¬ S b) (hi : ∀ y ∈ ys, ∀ b, (slV y).ownBlock = some b → ¬ S b) : NewTxt w' B v L ys :=
  ⟨h.ok.mod hm ho, h.len, fun j y l h1 h2 => (h.at_ j y l h1 h2).mod hm (hi y (List.mem_of_getElem? h1))⟩

theorem NewTxt.belowT {w w' : World} {B : Nat} {v : Value} {L : List (List Nat)} {ys : List Sl} (h : NewTxt w B v L ys) (hb : Below w.heap.size w w') : NewTxt w' B v L ys :=
  ⟨h.ok.below hb, h.len, fun j y l h1 h2 => (h.at_ j y l h1 h2).below hb⟩

/-- A row's texts lie in blocks of their own. -/
theorem NewTxt.apart {w : World} {B : Nat} {v : Value} {L : List (List Nat)} {ys : List Sl} (h : NewTxt w B v L ys) {z : Sl} (hz : z ∈ ys) {b : Nat} (hb : (slV z).ownBlock = some b) : v.ownBlock ≠ some b := by
  intro e
  obtain ⟨j, hj⟩ := List.mem_iff_getElem?.1 hz
  have hjl := (List.getElem?_eq_some_iff.1 hj).1
  have ho := h.at_ j z _ hj (List.getElem?_eq_getElem (by rw [← h.len]; exact hjl))
  rcases h.ok.2.2 with ⟨rfl, _⟩ | ⟨g, cap, cur, rfl, hbg, hg, _⟩
  · cases e
  · have e1 : g = b := by injection e
    rcases ho.2.2.2 with ⟨e2, _⟩ | ⟨g', cap', cur', e2, hbg', hg', _⟩
    · rw [e2] at hb; cases hb
    · rw [e2] at hb
      have e3 : g' = b := by injection hb
      subst e1 e3
      rw [hg] at hg'
      injection hg' with hg'
      injection hg' with h1 h2
      exact absurd h2 (by decide)

/-- One more. -/
theorem NewTxt.snoc {w w2 w3 : World} {B C : Nat} {v0 v3 : Value} {L : List (List Nat)} {ys : List Sl} {y : Sl} {l : List Nat} {o : Obj} (h : NewTxt w B v0 L ys) (hb : Below w.heap.size w w2) (k1 : OK encSl 1 22 w3 B v3 (ys ++ [y])) (ho : OB w2 C (slV y) l) (hC : w.heap.size ≤ C) (hBC : B ≤ C) (k2 : (w2.alloc o).grownBy w3 v0.ownBlock) : NewTxt w3 B v3 (L ++ [l]) (ys ++ [y]) := by
  refine ⟨k1, by rw [List.length_append, List.length_append, h.len]; rfl, fun j z l' h1 h2 => ?_⟩
  by_cases hj : j < ys.length
  · rw [List.getElem?_append_left hj] at h1
    rw [List.getElem?_append_left (by rw [← h.len]; exact hj)] at h2
    refine (((h.at_ j z l' h1 h2).below hb).alloc o).kept k2 ?_
    cases hb : (slV z).ownBlock with
    | none => exact .inl rfl
    | some b => exact .inr fun e => h.apart (List.mem_of_getElem? h1) hb e.symm
  · have hj2 : j = ys.length := by
      have := (List.getElem?_eq_some_iff.1 h1).1
      rw [List.length_append, List.length_singleton] at this
      omega
    subst hj2
    rw [List.getElem?_concat_length] at h1
    rw [h.len, List.getElem?_concat_length] at h2
    injection h1 with h1
    injection h2 with h2
    subst h1 h2
    refine (((ho.alloc o).kept k2 ?_)).base hBC
    cases hb : (slV y).ownBlock with
    | none => exact .inl rfl
    | some b =>
      refine .inr fun e => ?_
      have h3 := (ho.lt b hb).1
      have h4 := (h.ok.lt b e.symm).2
      omega

/-- The rows that the pages are to have, in memory. -/
structure FR (W : World) (B wb cap count : Nat) (S : Nat → Prop) (L : List (List Nat)) (ys : List Sl) : Prop where
  ok : OK encSl 1 22 W B (.slice (some ⟨wb, 0, none⟩) count cap) ys
  len : ys.length = L.length
  at_ : ∀ (j : Nat) y l, ys[j]? = some y → L[j]? = some l → RB W W.heap.size (slV y) l ∧ Off S (slV y) l

theorem FR.mod {S S' : Nat → Prop} {w w' : World} {B wb cap count : Nat} {L : List (List Nat)} {ys : List Sl} (h : FR w B wb cap count S L ys) (hm : Mod S' w w') (hw : ¬ S' wb) (hs : ∀ k, k < w.heap.size → S' k → S k) : FR w' B wb cap count S L ys :=
  ⟨h.ok.mod hm (fun b hb e => by injection hb with hb; subst hb; exact hw e), h.len, fun j y l h1 h2 => ⟨(h.at_ j y l h1 h2).1.mod (hm.mono (S' := fun k => S' k ∧ k < w.heap.size) fun k hk e => ⟨e, hk⟩) ((h.at_ j y l h1 h2).2.mono fun k e => hs k e.2 e.1), (h.at_ j y l h1 h2).2⟩⟩

theorem FR.below {S : Nat → Prop} {w w' : World} {B wb cap count : Nat} {L : List (List Nat)} {ys : List Sl} (h : FR w B wb cap count S L ys) (hb : Below w.heap.size w w') : FR w' B wb cap count S L ys :=
  h.mod (S' := fun _ => False) (Mod.of_below hb _) (fun e => e) (fun _ _ e => e.elim)

theorem FR.cellR {S : Nat → Prop} {w : World} {B wb cap count m : Nat} {L : List (List Nat)} {ys : List Sl} {y : Sl} (h : FR w B wb cap count S L ys) (hy : ys[m]? = some y) : w.cell? ⟨wb, m, none⟩ = some (.slice y.1 y.2.1 y.2.2) := by
  obtain ⟨A', c', e, -, -, -, hc⟩ := (h.ok.rk encSl_len (Nat.le_refl _)).open_
  injection e with e1 e2 e3
  have hl := (List.getElem?_eq_some_iff.1 hy)
  obtain ⟨b, o, e4, hb, hx⟩ := hc.out m hl.1
  rw [← e1] at e4
  injection e4 with e4
  injection e4 with e5 e6
  subst e5 e6
  rw [hl.2] at hx
  have := hx 0 _ rfl
  simpa using this

theorem FR.lt {S : Nat → Prop} {w : World} {B wb cap count : Nat} {L : List (List Nat)} {ys : List Sl} (h : FR w B wb cap count S L ys) : wb < w.heap.size := (h.ok.lt wb rfl).2

/-- A pool, and beside it the rows: what it tells is M, the rows have L. -/
structure Fl (w W : World) (p1 g1 q1 wb cap count k : Nat) (Q : Nat → Prop) (I : PI) (c : CP) (L M : List (List Nat)) (ys : List Sl) : Prop where
  live : Live W I Q c 0 0 (disk10 [] count).has
  qw : Q wb
  ia : I.p = p1 ∧ I.g = g1 ∧ I.q = q1
  bel : Below w.heap.size w W
  new : ∀ k, I.Core k → w.heap.size ≤ k
  wbn : w.heap.size ≤ wb
  rows : FR W w.heap.size wb cap count (fun k => I.Core k ∨ k = wb) L ys
  len : L.length = count ∧ M.length = count ∧ count ≤ 12
  look : ∀ m l, M[m]? = some l → c.look m = l
  cnt : c.o.count = count
  base : c.o.base = 4
  nf : 1 ≤ c.fs.length
  log : c.m.count = 4
  steps : c.s.steps ≤ 4 + 385 * k
  turn : c.o.turn ≤ k

/-- The rows are what it tells. -/
def FlK (w W : World) (p1 g1 q1 wb cap count k : Nat) : Prop := ∃ Q I c L ys, Fl w W p1 g1 q1 wb cap count k Q I c L L ys

section

variable {w W W' : World} {p1 g1 q1 wb cap count k : Nat} {Q Q' : Nat → Prop} {I : PI} {c : CP} {L M : List (List Nat)} {ys : List Sl}

theorem Fl.mem (h : Fl w W p1 g1 q1 wb cap count k Q I c L M ys) (hb : Below W.heap.size W W') : Fl w W' p1 g1 q1 wb cap count k Q I c L M ys :=
  ⟨h.live.below hb, h.qw, h.ia, h.bel.trans (hb.mono h.bel.size), h.new, h.wbn, h.rows.below hb, h.len, h.look, h.cnt, h.base, h.nf, h.log, h.steps, h.turn⟩

theorem FlK.mem (h : FlK w W p1 g1 q1 wb cap count k) (hb : Below W.heap.size W W') : FlK w W' p1 g1 q1 wb cap count k := by
  obtain ⟨Q, I, c, L, ys, h⟩ := h
  exact ⟨Q, I, c, L, ys, h.mem hb⟩

theorem Fl.more {k' : Nat} (h : Fl w W p1 g1 q1 wb cap count k Q I c L M ys) (hk : k ≤ k') : Fl w W p1 g1 q1 wb cap count k' Q I c L M ys :=
  ⟨h.live, h.qw, h.ia, h.bel, h.new, h.wbn, h.rows, h.len, h.look, h.cnt, h.base, h.nf, h.log, by have := h.steps; omega, by have := h.turn; omega⟩

theorem FlK.more {k' : Nat} (h : FlK w W p1 g1 q1 wb cap count k) (hk : k ≤ k') : FlK w W p1 g1 q1 wb cap count k' := by
  obtain ⟨Q, I, c, L, ys, h⟩ := h
  exact ⟨Q, I, c, L, ys, h.more hk⟩

set_option maxRecDepth 100000 in
/-- A call of the pool. -/
theorem Fl.turned {c' : CP} {M' : List (List Nat)} (h : Fl w W p1 g1 q1 wb cap count k Q I c L M ys) (hb : Behind W W' I Q c c' (disk10 [] count).has) (hf : Fine c' 0 0) (hl : M'.length = count) (hlk : ∀ m l, M'[m]? = some l → c'.look m = l) (hm : c'.m.count = c.m.count) : Fl w W' p1 g1 q1 wb cap count (k + 1) Q I c' L M' ys := by
  have h1 := hb.stepsM
  rw [h.log] at h1
  exact ⟨⟨hb.at_, hf, hb.late⟩, h.qw, h.ia, below_turn h.bel hb.mod h.new, h.new, h.wbn, h.rows.mod hb.mod (fun e => (h.live.at_.far _ h.qw).2 (PI.turn_core e)) (fun k _ e => .inl (PI.turn_core e)), ⟨h.len.1, hl, h.len.2.2⟩, hlk, hb.count.trans h.cnt, hb.base.trans h.base, by rw [hb.nf]; exact h.nf, by rw [hm]; exact h.log, by have := h.steps; omega, by have := hb.turn; have := h.turn; omega⟩

theorem Fl.next {c' : CP} (h : Fl w W p1 g1 q1 wb cap count k Q I c L M ys) (hb : Behind W W' I Q c c' (disk10 [] count).has) (hf : Fine c' 0 0) (hlk : ∀ n, n < c.o.count → c'.look n = c.look n) (hm : c'.m.count = c.m.count) : Fl w W' p1 g1 q1 wb cap count (k + 1) Q I c' L M ys :=
  h.turned hb hf h.len.2.1 (fun m l hl => by
    have := (List.getElem?_eq_some_iff.1 hl).1
    rw [hlk m (by rw [h.cnt, ← h.len.2.1]; exact this)]
    exact h.look m l hl) hm

/-- Blocks that the pool must leave alone are written over. -/
theorem Fl.given {S : Nat → Prop} (h : Fl w W p1 g1 q1 wb cap count k Q I c L M ys) (hm : Mod S W W') (hS : ∀ k, S k → Q k) (hn : ∀ k, S k → w.heap.size ≤ k) (hw : ¬ S wb) (hr : ∀ (j : Nat) y l, ys[j]? = some y → L[j]? = some l → Off S (slV y) l) : Fl w W' p1 g1 q1 wb cap count k Q I c L M ys :=
  ⟨⟨h.live.at_.given hm hS, h.live.fine, h.live.late⟩, h.qw, h.ia, below_by h.bel hm hn, h.new, h.wbn, ⟨h.rows.ok.mod hm (fun b hb e => by injection hb with hb; subst hb; exact hw e), h.rows.len, fun j y l h1 h2 => ⟨(h.rows.at_ j y l h1 h2).1.mod hm (hr j y l h1 h2), (h.rows.at_ j y l h1 h2).2⟩⟩, h.len, h.look, h.cnt, h.base, h.nf, h.log, h.steps, h.turn⟩

theorem Fl.guard (h : Fl w W p1 g1 q1 wb cap count k Q I c L M ys) (hb : Below W.heap.size W W') : Fl w W' p1 g1 q1 wb cap count k (fun k => Q k ∨ (W.heap.size ≤ k ∧ k < W'.heap.size)) I c L M ys :=
  have h2 := h.mem hb
  ⟨h.live.guard hb (Nat.le_refl _), .inl h.qw, h2.ia, h2.bel, h2.new, h2.wbn, h2.rows, h2.len, h2.look, h2.cnt, h2.base, h2.nf, h2.log, h2.steps, h2.turn⟩

/-- A record. -/
theorem Fl.app (h : Fl w W p1 g1 q1 wb cap count k Q I c L M ys) :
    Calls Tryz.prog 20 #[.pointer (some ⟨g1, 0, none⟩), .int .i64 1, .slice none 0 0] W fun e W' => ∃ A r I' c', e = .returned (.tuple #[.int .i64 A, .int .i64 r]) ∧ Fl w W' p1 g1 q1 wb cap count k Q I' c' L M ys ∧
      ((r = 0 ∧ 0 ≤ A ∧ A ≤ 9000000000000000000 ∧ A < ((c'.m.lsn c'.m.st.length : Nat) : Int)) ∨ r = 90) ∧ Mod (fun k => I.Core k) W W' ∧ ∀ k, k < W.heap.size → I'.Core k → I.Core k := by
  obtain ⟨e1, rfl, e2⟩ := h.ia
  obtain ⟨hf, hlk, hsafe, hrun, hor⟩ := h.live.fine.app [] (by simp) (by simp)
  refine (App_live h.live (by rw [h.log]; omega) (.slice none 0 0) [] (RB.nil _ _) (by simp)).mono ?_
  rintro e w' ⟨sv, bv, hL, rfl, hm, hcore⟩
  have hcount : (c.app 1 []).m.count = 4 := by
    rcases hor with ⟨-, -, -⟩ | ⟨-, e⟩
    · have : (c.m.append 1 []).1.count = c.m.count := by
        unfold LG.append
        repeat' split
        all_goals rfl
      exact this.trans h.log
    · rw [e]; exact h.log
  have hnew : ∀ k, PI.Core { I with sv := sv, bv := bv } k → w.heap.size ≤ k := fun k hk => by
    rcases hcore k hk with e | e
    · exact h.new k e
    · exact Nat.le_trans h.bel.size e
  have hmc : Mod (fun k => I.Core k) W w' := hm.mono fun k _ e => .inr (.inl e)
  have hrows := h.rows.mod hmc (h.live.at_.far _ h.qw).2 (fun k _ e => .inl e)
  refine ⟨_, _, { I with sv := sv, bv := bv }, c.app 1 [], rfl, ⟨hL, h.qw, ⟨e1, rfl, e2⟩, below_by h.bel hm (fun k hk => h.new k (.inr (.inl hk))), hnew, h.wbn, ⟨hrows.ok, hrows.len, fun j y l h1 h2 => ⟨(hrows.at_ j y l h1 h2).1, ?_⟩⟩, h.len, fun m l hl => by rw [hlk]; exact h.look m l hl, h.cnt, h.base, h.nf, hcount, h.steps, h.turn⟩, ?_, hmc, fun k hk e => ?_⟩
  · obtain ⟨hv, ho⟩ := h.rows.at_ j y l h1 h2
    rcases ho with ho | ho
    · exact .inl ho
    · by_cases hz : l = []
      · exact .inl hz
      · refine .inr fun b hb e => ?_
        have hlt : b < W.heap.size := by
          obtain ⟨-, -, A', c', e3, -, -, h5⟩ := hv
          rcases h5 with h5 | ⟨b', off, e4, hlt, -⟩
          · exact absurd h5 hz
          · rw [e3, e4] at hb
            have hbb : b' = b := by simpa [Value.ownBlock] using hb
            rw [← hbb]; exact hlt
        rcases e with e | e
        · rcases hcore b e with e | e
          · exact ho b hb (.inl e)
          · omega
        · exact ho b hb (.inr e)
  · rcases hor with ⟨h0, h1, h3⟩ | ⟨h0, -⟩
    · have hr := hf.log.ok.run
      have hn := hf.log.ok.num
      refine .inl ⟨h0, by omega, by rw [h1]; unfold LG.lsn; rw [hrun] at hr; omega, by rw [h1]; unfold LG.lsn; rw [hrun]; omega⟩
    · exact .inr h0
  · rcases hcore k e with e | e
    · exact e
    · omega

/-- asks, of the kinds that CacheFlush asks for. -/
theorem Fl.asks (h : Fl w W p1 g1 q1 wb cap count k Q I c L M ys) (hk : k ≤ 2199023255552) (kd n : Int) (hkd : kd = 3 ∨ kd = 4 ∨ kd = 5 ∨ kd = 6) (hn64 : I64 n) (v2 v3 : Value) :
    Calls Tryz.prog 14 #[.pointer (some ⟨g1, 0, none⟩), .pointer (some ⟨q1, 0, none⟩), .agg #[.slice none 0 0, .slice none 0 0, .int .i64 0], .agg #[.int .i64 kd, .int .i64 n, v2, v3]] W fun e W' => (∃ b, e = .returned (.tuple #[m0, .bool b])) ∧ ∃ c', Fl w W' p1 g1 q1 wb cap count (k + 1) Q I c' L M ys := by
  obtain ⟨e1, rfl, rfl⟩ := h.ia
  have hs := h.steps
  have ht := h.turn
  have key : Calls Tryz.prog 14 #[.pointer (some ⟨I.g, 0, none⟩), .pointer (some ⟨I.q, 0, none⟩), m0, .agg #[.int .i64 kd, .int .i64 n, v2, v3]] W (AskE W I Q c 0 0 (disk10 [] count).has) := by
    rcases hkd with rfl | rfl | rfl | rfl
    · exact asks3 h.live n hn64 v2 v3 (by omega) (by omega)
    · exact asks4 h.live n hn64 v2 v3 (by omega) (by omega)
    · exact asks5 h.live rfl n hn64 v2 v3 (by omega) (by omega)
    · exact asks6 h.live rfl n hn64 v2 v3 (by omega) (by omega)
  refine key.mono ?_
  rintro e W' ⟨b, c', rfl, hb, hr⟩
  obtain ⟨h1, h2, h3⟩ := hr.calm
  exact ⟨⟨b, rfl⟩, c', h.next hb h1 h2 h3⟩

/-- A page is put. -/
theorem Fl.put (h : Fl w W p1 g1 q1 wb cap count k Q I c L L ys) (hk : k ≤ 2199023255552) (n : Int) (hn64 : I64 n) (y : FrM) (gm : PG) (hg : PgIn W (fun k => ¬ I.Turn k) y gm) (A : Int) (hA : 0 ≤ A ∧ A ≤ 9000000000000000000) (hlt : A < ((c.m.lsn c.m.st.length : Nat) : Int)) :
    Calls Tryz.prog 22 #[.pointer (some ⟨q1, 0, none⟩), .int .i64 n, .pointer (some ⟨y.p, 0, none⟩), .int .i64 A] W fun e W2 => Mod I.Turn W W2 ∧ ∃ kk c', e = .returned (.int .i64 kk) ∧
      ((kk ≠ 0 ∧ Fl w W2 p1 g1 q1 wb cap count (k + 1) Q I c' L L ys) ∨ (kk = 0 ∧ ∃ N, n = ((N : Nat) : Int) ∧ N < count ∧ Fl w W2 p1 g1 q1 wb cap count (k + 1) Q I c' L (L.set N (pageL { gm with lsn := A })) ys)) := by
  obtain ⟨e1, e2, rfl⟩ := h.ia
  have hs := h.steps
  have ht := h.turn
  refine (Put_live h.live n hn64 (by omega) (by omega) y gm hg A (by omega) hlt).mono ?_
  rintro e W2 ⟨kk, c', rfl, hb, ⟨rfl, hf, -, N, rfl, hN, -, hlk, -, -, -, hlog, -, -⟩ | ⟨h0, hm⟩⟩
  · rw [h.cnt] at hN hlk
    refine ⟨hb.mod, 0, c', rfl, .inr ⟨rfl, N, rfl, hN, h.turned hb hf (by rw [List.length_set]; exact h.len.1) (fun m l hl => ?_) (by rw [hlog])⟩⟩
    have hml := (List.getElem?_eq_some_iff.1 hl).1
    rw [List.length_set, h.len.1] at hml
    rw [hlk m hml]
    by_cases e : m = N
    · subst e
      rw [List.getElem?_set_self (by rw [h.len.1]; exact hN)] at hl
      injection hl with hl
      rw [if_pos rfl, hl]
    · rw [List.getElem?_set_ne (fun e' => e e'.symm)] at hl
      rw [if_neg e]
      exact h.look m l hl
  · obtain ⟨h1, h2, h3⟩ := (hm.askR h.live.fine).calm
    exact ⟨hb.mod, kk, c', rfl, .inl ⟨h0, h.next hb h1 h2 h3⟩⟩

/-- A row is written. -/
theorem Fl.store {N : Nat} {l : List Nat} {y : Sl} (h : Fl w W p1 g1 q1 wb cap count k Q I c L (L.set N l) ys) (hN : N < count) (hv : RB W W.heap.size (slV y) l) (ho : Off (fun k => I.Core k ∨ k = wb) (slV y) l) : FlK w (W.setCell ⟨wb, N, none⟩ (slV y)) p1 g1 q1 wb cap count k := by
  have hm : Mod (fun k => k = wb) W (W.setCell ⟨wb, N, none⟩ (slV y)) := Mod.setCell (S := fun k => k = wb) (Mod.refl _ _) (p := ⟨wb, N, none⟩) (fun _ => rfl) _
  have hyl : ys.length = count := h.rows.len.trans h.len.1
  obtain ⟨b, e, hok⟩ := h.rows.ok.setSl (k := N) (by rw [hyl]; exact hN) (by rw [hyl]; have := h.len.2.2; omega) y
  injection e with e
  injection e with e
  subst e
  refine ⟨Q, I, c, L.set N l, ys.set N y, ⟨h.live.at_.given hm (fun k e => by subst e; exact h.qw), h.live.fine, h.live.late⟩, h.qw, h.ia, below_by h.bel hm (fun k e => by subst e; exact h.wbn), h.new, h.wbn, ⟨hok, by rw [List.length_set, List.length_set]; exact h.rows.len, fun j z l' h1 h2 => ?_⟩, ⟨h.len.2.1, h.len.2.1, h.len.2.2⟩, h.look, h.cnt, h.base, h.nf, h.log, h.steps, h.turn⟩
  have key : RB W W.heap.size (slV z) l' ∧ Off (fun k => I.Core k ∨ k = wb) (slV z) l' := by
    by_cases ej : j = N
    · subst ej
      rw [List.getElem?_set_self (by rw [hyl]; exact hN)] at h1
      rw [List.getElem?_set_self (by rw [h.len.1]; exact hN)] at h2
      injection h1 with h1
      injection h2 with h2
      subst h1 h2
      exact ⟨hv, ho⟩
    · rw [List.getElem?_set_ne (fun e' => ej e'.symm)] at h1 h2
      exact h.rows.at_ j z l' h1 h2
  exact ⟨key.1.mod hm (key.2.mono fun k e => .inr e), key.2⟩

/-- A page is put; if that goes well its bytes are written down. -/
theorem Fl.puts {bx : Nat} {t : TypeId} {cs : Array Value} (h : Fl w W p1 g1 q1 wb cap count k Q I c L L ys) (hk : k ≤ 2199023255552) (hb : Below W.heap.size W W') (hbx : Blk W bx t cs) (hnb : ¬ I.Core bx) (hbw : bx ≠ wb) (n : Int) (hn64 : I64 n) (y : FrM) (gm : PG) (hg : PgIn W' (fun k => W.heap.size ≤ k) y gm) (A : Int) (hA : 0 ≤ A ∧ A ≤ 9000000000000000000) (hlt : A < ((c.m.lsn c.m.st.length : Nat) : Int)) :
    Calls Tryz.prog 22 #[.pointer (some ⟨q1, 0, none⟩), .int .i64 n, .pointer (some ⟨y.p, 0, none⟩), .int .i64 A] W' fun e W2 => ∃ kk, e = .returned (.int .i64 kk) ∧ Blk W2 bx t cs ∧
      ((kk ≠ 0 ∧ FlK w W2 p1 g1 q1 wb cap count (k + 1)) ∨
       (kk = 0 ∧ ∃ N, n = ((N : Nat) : Int) ∧ N < count ∧
        Calls Tryz.prog 23 #[.pointer (some ⟨y.p, 0, none⟩), .int .i64 A] W2 fun e W3 => e = .returned (.tuple #[]) ∧ Blk W3 bx t cs ∧
          ∀ W4, Below W3.heap.size W3 W4 → Calls Tryz.prog 24 #[.pointer (some ⟨y.p, 0, none⟩)] W4 fun e W5 => ∃ b, e = .returned (.slice (some ⟨b, 0, none⟩) 512 512) ∧ Blk W5 bx t cs ∧ (∃ cs', Blk W5 wb 22 cs' ∧ N < cs'.size) ∧
            FlK w (W5.setCell ⟨wb, N, none⟩ (.slice (some ⟨b, 0, none⟩) 512 512)) p1 g1 q1 wb cap count (k + 1))) := by
  have hG := h.guard hb
  have hg1 : PgIn W' (fun k => ¬ I.Turn k) y gm := hg.mod (Mod.refl (fun _ => False) _) (fun _ _ _ e => e) (fun k _ hf e => by have := h.live.at_.lt k (PI.turn_core e); omega)
  refine (hG.put hk n hn64 y gm hg1 A hA hlt).mono ?_
  rintro e W2 ⟨hm, kk, c', rfl, ⟨h0, hf⟩ | ⟨rfl, N, rfl, hN, hf⟩⟩
  · exact ⟨kk, rfl, (hbx.below hb hbx.lt).mod hm (fun e => hnb (PI.turn_core e)), .inl ⟨h0, _, _, _, _, _, hf⟩⟩
  · have hbx2 := (hbx.below hb hbx.lt).mod hm (fun e => hnb (PI.turn_core e))
    refine ⟨0, rfl, hbx2, .inr ⟨rfl, N, rfl, hN, ?_⟩⟩
    have hy2 := hg.mod (F' := fun k => W.heap.size ≤ k ∧ k < W'.heap.size) hm (fun k hk hf e => by have := h.live.at_.lt k (PI.turn_core e); omega) (fun k hk hf => ⟨hf, hk⟩)
    refine (pageSetLSN_any W2 y.p 0 y.v y.xs gm hy2.at_ A (by omega)).mono ?_
    rintro e W3 ⟨rfl, hp3, hst⟩
    have hmax : max A 0 = A := by omega
    rw [hmax] at hp3
    have hin : ∀ k, (k = y.p ∨ y.v.ownBlock = some k) → W.heap.size ≤ k ∧ k < W'.heap.size := fun k e => by
      rcases e with e | e
      · subst e; exact hy2.p
      · exact hy2.v k e
    have hwbl : wb < W.heap.size := by have := h.live.at_.far wb h.qw; exact this.1
    have hbxl := hbx.lt
    have hrl : ∀ (j : Nat) z l, ys[j]? = some z → L[j]? = some l → Off (fun k => W.heap.size ≤ k) (slV z) l := fun j z l h1 h2 => by
      obtain ⟨-, -, A', c'', e3, -, -, h5⟩ := (h.rows.at_ j z l h1 h2).1
      rcases h5 with h5 | ⟨b', off, e4, hlt, -⟩
      · exact .inl h5
      · refine .inr fun b hb e => ?_
        rw [e3, e4] at hb
        have hbb : b' = b := by simpa [Value.ownBlock] using hb
        omega
    have hf3 := hf.given hst.mod (fun k e => .inr (hin k e)) (fun k e => Nat.le_trans h.bel.size (hin k e).1) (fun e => by have := (hin wb e).1; omega) (fun j z l h1 h2 => (hrl j z l h1 h2).mono fun k e => (hin k e).1)
    have hbx3 := hbx2.mod hst.mod (fun e => by have := (hin bx e).1; omega)
    refine ⟨rfl, hbx3, fun W4 hb4 => ?_⟩
    have hf4 := hf3.mem hb4
    refine (pageBytes_any W4 y.p 0 y.v y.xs _ (hp3.below hb4) hy2.fit).mono ?_
    rintro e W5 ⟨b, rfl, hbn, hbb, hb5⟩
    have hf5 := hf4.mem hb5
    have hwb5 : ∃ cs', Blk W5 wb 22 cs' ∧ N < cs'.size := by
      rcases hf5.rows.ok.2.2 with ⟨e, _⟩ | ⟨g, cap', cur, e, hbg, hg, hn1, hn2, hn3, -⟩
      · cases e
      · injection e with e1 e2 e3
        injection e1 with e1
        injection e1 with e1
        subst e1 e3
        exact ⟨cur, hg, by have h1 := hf5.rows.len; have h2 := hf5.len.1; omega⟩
    refine ⟨b, rfl, (hbx3.below hb4 hbx3.lt).below hb5 (hbx3.below hb4 hbx3.lt).lt, hwb5, ?_⟩
    exact hf5.store (y := (some ⟨b, 0, none⟩, 512, 512)) hN (hbb.row512 (pageL_len hy2.fit)) (.inr fun b' e1 e2 => by
      have hb' : b = b' := by simpa [slV, Value.ownBlock] using e1
      subst hb'
      rcases e2 with e2 | e2
      · have := hf4.live.at_.lt b e2; omega
      · have h6 := (hf4.live.at_.far wb hf4.qw).1; omega)

/-- What is left to look at. -/
structure FlEnd (w W : World) (p1 wb cap count : Nat) (sb mb : Nat) (pl : Option Nat) (s : DS) (S : Nat → Prop) (L : List (List Nat)) (ys : List Sl) : Prop where
  dk : DiskAt W p1 sb mb pl s
  rows : FR W w.heap.size wb cap count S L ys
  has : ∀ m l, L[m]? = some l → s.has (4 + m) = l
  len : 4 + count ≤ s.safe.length
  off : s.off = false
  bel : Below w.heap.size w W
  cnt : L.length = count

theorem FlEnd.below {sb mb : Nat} {pl : Option Nat} {s : DS} {S : Nat → Prop} (h : FlEnd w W p1 wb cap count sb mb pl s S L ys) (hb : Below W.heap.size W W') : FlEnd w W' p1 wb cap count sb mb pl s S L ys :=
  ⟨h.dk.below hb, h.rows.below hb, h.has, h.len, h.off, h.bel.trans (hb.mono h.bel.size), h.cnt⟩

/-- Flush, then the power comes back. -/
theorem Fl.finish (h : Fl w W p1 g1 q1 wb cap count k Q I c L L ys) (hk : k ≤ 2199023255552) (kv : Value) (ks : List Int) (hkv : RI w w.heap.size kv ks) (hks : ∀ x ∈ ks, I64 x) :
    Calls Tryz.prog 25 #[.pointer (some ⟨q1, 0, none⟩)] W fun e W1 => e = .returned (.int .i64 0) ∧
      Calls Tryz.prog 26 #[.pointer (some ⟨q1, 0, none⟩)] W1 fun e W2 => ∃ A n, e = .returned (.slice A 0 n) ∧
        Calls Tryz.prog 27 #[.pointer (some ⟨p1, 0, none⟩), kv] W2 fun e W3 => e = .returned (.tuple #[]) ∧ ∃ sb mb pl s S, FlEnd w W3 p1 wb cap count sb mb pl s S L ys := by
  have hs := h.steps
  obtain ⟨rfl, e1, rfl⟩ := h.ia
  refine (Flush_live h.live (by omega)).mono ?_
  rintro e W1 ⟨kk, c', rfl, hbh, ⟨rfl, hf, hkept, hd, hpe⟩ | ⟨-, ⟨hh, -⟩, -⟩⟩
  · have hn := h.next hbh hf hkept.look (by rw [hkept.log.1])
    refine ⟨rfl, ?_⟩
    refine (Dirty_pool hbh.at_).mono ?_
    rintro e W2 ⟨v, rfl, ho, hb⟩
    have e0 : dirtyL c'.fs (numsOf c'.fs) = [] := by
      rw [List.eq_nil_iff_forall_not_mem]
      rintro ⟨a, d⟩ hx
      have := mem_dirtyL.1 hx
      rw [hd a] at this
      cases this
    rw [e0] at ho
    obtain ⟨A, n, rfl, -, -, -, -⟩ := (ho.rk encDr_len (Nat.le_refl _)).open_
    refine ⟨A, n, rfl, ?_⟩
    have hn2 := hn.mem hb
    have hlt := hn2.live.at_.wal.dk.lt
    have hsbn : w.heap.size ≤ I.sb := h.new I.sb (.inl (.inl (.inr (.inl rfl))))
    refine (On_any W2 I.p I.sb I.mb I.pl c'.s kv ks hn2.live.at_.wal.dk ((hkv.below hn2.bel).more hn2.bel.size) hks ?_).mono ?_
    · obtain ⟨-, A', c'', e3, -, -, h5⟩ := hkv
      rcases h5 with h5 | ⟨b', off, e4, hlt', -⟩
      · exact .inl h5
      · refine .inr fun b hb e => ?_
        rw [e3, e4] at hb
        have hbb : b' = b := by simpa [Value.ownBlock] using hb
        omega
    · rintro e W3 ⟨rfl, hdk, hm⟩
      have hco : ∀ k, Own I.p I.sb I.mb k → I.Core k := fun k e => .inl (.inl e)
      refine ⟨rfl, I.sb, I.mb, I.pl, _, _, hdk, hn2.rows.mod hm (fun e => (hn2.live.at_.far _ hn2.qw).2 (hco _ e)) (fun k _ e => .inl (hco k e)), fun m l hl => ?_, ?_, rfl, below_by hn2.bel hm (fun k e => h.new k (hco k e)), h.len.1⟩
      · have hml := (List.getElem?_eq_some_iff.1 hl).1
        rw [h.len.1] at hml
        have hlen := hf.len
        rw [hn.cnt, hn.base] at hlen
        have h6 := hn.look m l hl
        have hno : c'.s.pend ((4 + m : Nat) : Int) = none := by
          have := hpe m (by rw [h.cnt]; exact hml)
          rw [h.base] at this
          exact this
        have hh : c'.s.has (4 + m) = l := by
          rw [← h6]
          unfold CP.look lookF
          rw [hn.base]
          cases hfr : fr c'.fs (m : Int) with
          | none => rfl
          | some x =>
            have := hd (m : Int)
            unfold dirtOf at this
            rw [hfr] at this
            dsimp only
            cases hx : x.dirty with
            | false => rfl
            | true => simp [hx] at this
        rw [← hh]
        have e1 : (c'.s.on ks).has (4 + m) = (c'.s.on ks).safe.getD (4 + m) [] := rfl
        have e2 : c'.s.has (4 + m) = c'.s.safe.getD (4 + m) [] := by unfold DS.has; rw [hno]; rfl
        rw [e1]
        unfold DS.on
        dsimp only
        rw [List.getD, List.getElem?_map, List.getElem?_range (by omega)]
        simp only [Option.map_some, Option.getD_some]
        rw [e2]
        split <;> rfl
      · have hlen := hf.len
        rw [hn.cnt, hn.base] at hlen
        unfold DS.on
        simp only [List.length_map, List.length_range]
        exact hlen
  · exact absurd rfl hh
end
end Go.Proofs.YtbagmmncjmbboaaGreat

/-
  The walk of CacheFlush.
-/
namespace Go.Proofs.YtbagmmncjmbboaaGreat
open Go.RowKit Go.Maps
set_option linter.unusedVariables false

/-- 512 cells of nought. -/
def zCells : Array Value := ((List.replicate 512 0).map Proofs.YtbagmmncjmbboaaGreat.bcell).toArray

theorem run_max3 (W : World) (ty : TypeId) (a b : Int) : (Builtin.max_ #[3, 3] ty #[.int .i64 a, .int .i64 b]).run Tryz.prog W = .ok (.int .i64 (max a b)) W := by
  simp [Builtin.max_, Builtin.max2, List.foldlM]
  omega

theorem run_min3 (W : World) (ty : TypeId) (a b : Int) : (Builtin.min_ #[3, 3] ty #[.int .i64 a, .int .i64 b]).run Tryz.prog W = .ok (.int .i64 (min a b)) W := by
  simp [Builtin.min_, Builtin.min2, List.foldlM]
  omega

theorem rows_next {w0 wr w3 : World} {A : Option Addr} {c j : Nat} {ys : List Sl} {v3 : Value} {o : Obj} (h : NewTxt wr w0.heap.size (.slice A j c) (List.replicate j sec0) ys) (hb : Below w0.heap.size w0 wr)
    (k1 : OK encSl 1 22 w3 w0.heap.size v3 (ys ++ [((some ⟨wr.heap.size, 0, none⟩, 512, 512) : Sl)])) (k2 : ((wr.alloc (.cells zCells 5)).alloc o).grownBy w3 (Value.slice A j c).ownBlock) : NewTxt w3 w0.heap.size v3 (List.replicate (j + 1) sec0) (ys ++ [((some ⟨wr.heap.size, 0, none⟩, 512, 512) : Sl)]) := by
  have ho : OB (wr.alloc (.cells zCells 5)) wr.heap.size (.slice (some ⟨wr.heap.size, 0, none⟩) 512 512) (List.replicate 512 0) := OB.ofRow (heap_alloc_new wr _) rfl List.length_replicate (Nat.le_refl _) (fun x hx => by have := (List.mem_replicate.1 hx).2; omega) (by omega)
  rw [show List.replicate (j + 1) sec0 = List.replicate j sec0 ++ [sec0] from List.replicate_succ']
  exact h.snoc (l := List.replicate 512 0) ((Below.refl _ wr).alloc (Nat.le_refl _) _) k1 ho (Nat.le_refl _) hb.size k2

theorem rows_below {w0 wr w3 : World} {A : Option Addr} {c j : Nat} {L : List (List Nat)} {ys : List Sl} {o o' : Obj} (h : NewTxt wr w0.heap.size (.slice A j c) L ys) (hb : Below w0.heap.size w0 wr) (k2 : ((wr.alloc o').alloc o).grownBy w3 (Value.slice A j c).ownBlock) : Below w0.heap.size w0 w3 :=
  ((hb.alloc hb.size _).alloc (by have := hb.size; simp; omega) _).grown k2 (by have := hb.size; simp; omega) (fun q hq => (h.ok.lt q hq).1)

theorem fl_start (w W0 W1 W : World) (fr : Int) (count : Nat) (hc : 1 ≤ count ∧ count ≤ 12) (I : PI) (hp : PoolAt W1 I (fun _ => False) (newC (begS (disk10 [] count) 0 4) (begL (disk10 [] count) 0 4) 4 count (nfOf fr))) (hb0 : Below w.heap.size w W0) (hb1 : Below W0.heap.size W0 W1) (hI : ∀ k, I.Core k → W0.heap.size ≤ k)
    (hb : Below W1.heap.size W1 W) {A : Option Addr} {cp : Nat} {ys : List Sl} (hn : NewTxt W W1.heap.size (.slice A count cp) (List.replicate count sec0) ys) : ∃ wb, A = some ⟨wb, 0, none⟩ ∧ FlK w W I.p I.g I.q wb cp count 0 := by
  have hbg := newC_begins (l := []) (count := count) (by simp) hc (nfOf fr)
  have hnf := nfOf_le fr
  obtain ⟨wb, hwb, hwbn, hwbl⟩ : ∃ wb, A = some ⟨wb, 0, none⟩ ∧ W1.heap.size ≤ wb ∧ wb < W.heap.size := by
    rcases hn.ok.2.2 with ⟨e, hz⟩ | ⟨g, cap', cur, e, hbg, hg, -⟩
    · have := hn.len
      rw [List.length_replicate] at this
      omega
    · injection e with e1 e2 e3
      exact ⟨g, e1, hbg, (Array.getElem?_eq_some_iff.1 hg).1⟩
  subst hwb
  refine ⟨wb, rfl, ?_⟩
  have hbel := hb0.trans (hb1.mono hb0.size)
  have hyl : ys.length = count := by rw [hn.len, List.length_replicate]
  refine ⟨fun k => k = wb, I, _, List.replicate count sec0, ys, ⟨hp.later (S := fun _ => False) (Mod.of_below hb _) (fun _ _ e => e.elim) (fun k hk => ?_), hbg.fine, ⟨hbg.was.mono fun i b _ h h1 _ => .inl (h (by rw [hbg.base] at h1; exact h1)), fun i x pg hx hp => by rw [hbg.frz i x hx] at hp; cases hp⟩⟩, rfl, ⟨rfl, rfl, rfl⟩, hbel.trans (hb.mono hbel.size), fun k hk => Nat.le_trans hb0.size (hI k hk), Nat.le_trans hbel.size hwbn, ⟨hn.ok.base hbel.size, hn.len, fun j y l h1 h2 => ⟨(hn.at_ j y l h1 h2).rbn, .inr fun b e e2 => ?_⟩⟩, ⟨List.length_replicate, List.length_replicate, hc.2⟩, fun m l hl => ?_, hbg.cnt, hbg.base, by unfold newC newFs; simp; omega, hbg.log.2.1, by have := hbg.steps; omega, by have := hbg.turn; omega⟩
  · subst hk
    exact ⟨hwbl, .inr (by omega)⟩
  · have hob := hn.at_ j y l h1 h2
    have hlb := hob.lt b e
    rcases e2 with e2 | e2
    · have := hp.lt b e2; omega
    · subst e2
      exact hn.apart (List.mem_of_getElem? h1) e rfl
  · have hml := (List.getElem?_eq_some_iff.1 hl).1
    rw [List.length_replicate] at hml
    rw [List.getElem?_replicate, if_pos hml] at hl
    injection hl with hl
    subst hl
    rw [look_none (hbg.idx _), hbg.base, (hbg.was (4 + m) (by rw [hbg.len]; omega)).2 (by omega)]
    exact disk10_blank hc.2 (by omega)

set_option maxRecDepth 100000 in
set_option maxHeartbeats 16000000 in
theorem cacheFlush_walk (w : World) (cn fr : Int) (sv : Value) (os : List OpK) (kv : Value) (ks : List Int) (hs : OpsK w sv os) (hol : os.length * 64 ≤ 140737488351232) (hkv : RI w w.heap.size kv ks) (hks : ∀ x ∈ ks, I64 x) :
    Calls Tryz.prog 4 #[.int .i64 cn, .int .i64 fr, sv, kv] w fun e w' => e = .returned (.bool true) ∧ Below w.heap.size w w' := by
  have hmk : ∀ W : World, (Instr.makeSlice 22 (.int .i64 512) (.int .i64 512)).run Tryz.prog W = .ok (.slice (some ⟨W.heap.size, 0, none⟩) 512 512) (W.alloc (.cells zCells 5)) := by
    intro W
    obtain ⟨i0, hi, hz0, hz1, hz2⟩ := info_parts info5
    have := run_make (P := Tryz.prog) W 22 5 i0 (Value.int .u8 0) Tryz.underlying22 hi hz0 .i64 .i64 512 512 (by omega) (by omega) (by rw [hz2]; omega) (by omega)
    rw [hz1] at this
    rw [show zCells = madeCells (Value.int .u8 0).cells 512 from (zeros_made 512).symm]
    simpa using this
  obtain ⟨SA, sc, rfl, hs1, hs2, -, HROW⟩ := hs.rk.open_
  obtain ⟨n, hn⟩ : ∃ n, n = os.length := ⟨_, rfl⟩
  rw [← hn] at hs1 hol ⊢
  have hn41 : n ≤ 2199023255552 := by omega
  have HS := Lib.hid hs
  have HN0 := Lib.hid hn
  have HKV := Lib.hid (And.intro hkv hks)
  obtain ⟨KA, kc, rfl, -, -, -, -⟩ := hkv.open_
  obtain ⟨kn, hkn⟩ : ∃ kn, kn = ks.length := ⟨_, rfl⟩
  rw [← hkn] at HKV ⊢
  clear hs hn hol hkv hks hkn
  by_cases hc1 : cn < 1
  · have gc1 : decide (cn < 1) = true := decide_eq_true hc1
    clear hc1 hmk
    go_enter Tryz.func4, Tryz.ntmps4
    go_wp2_with fail
    refine (alive10_any w).mono ?_
    rintro e W0 ⟨rfl, hb0⟩
    go_wp2_with fail
    go_ret
    exact ⟨rfl, hb0⟩
  · by_cases hc2 : 12 < cn
    · have gc1 : decide (cn < 1) = false := decide_eq_false hc1
      have gc2 : decide (12 < cn) = true := decide_eq_true hc2
      clear hc1 hc2 hmk
      go_enter Tryz.func4, Tryz.ntmps4
      go_wp2_with fail
      refine (alive10_any w).mono ?_
      rintro e W0 ⟨rfl, hb0⟩
      go_wp2_with fail
      go_ret
      exact ⟨rfl, hb0⟩
    · obtain ⟨count, rfl⟩ : ∃ count : Nat, cn = (count : Int) := ⟨cn.toNat, by omega⟩
      have hcn : 1 ≤ count ∧ count ≤ 12 := by omega
      have gc1 : decide ((count : Int) < 1) = false := decide_eq_false hc1
      have gc2 : decide (12 < (count : Int)) = false := decide_eq_false hc2
      have gc3 : decide (12 < count) = false := decide_eq_false (by omega)
      have gc4 : decide (count < 1) = false := decide_eq_false (by omega)
      have HCN := Lib.hid hcn
      clear hc1 hc2
      go_enter Tryz.func4, Tryz.ntmps4
      go_wp2_with fail
      refine (alive10_any w).mono ?_
      rintro e W0 ⟨rfl, hb0⟩
      have HB0 := Lib.hid hb0
      clear hb0
      go_wp2_with fail
      refine (made10_any W0 (.slice none 0 0) [] (RB.nil _ _) count (by simp) HCN.out fr (fun _ => False) (fun _ h => h.elim)).mono ?_
      rintro e W1 ⟨I, rfl, hp1, hI, -, hb1⟩
      have HP1 := Lib.hid hp1
      have HI := Lib.hid hI
      have HB1 := Lib.hid hb1
      clear hp1 hI hb1
      go_wp2_with fail
      go_loopw [12, 13] (fun v i wr => ∃ (j : Nat) (A : Option Addr) (c : Nat), j ≤ count ∧ i = .int .i64 (j : Int) ∧ v = .slice A j c ∧ ∃ ysx, Hid (NewTxt wr W1.heap.size (.slice A j c) (List.replicate j sec0) ysx) ∧ Hid (Below W1.heap.size W1 wr)) (fun v i wr => count - (intOf i).toNat)
      case atStart => exact ⟨0, _, _, Nat.zero_le _, rfl, rfl, [], Lib.hid ⟨OK.ofBlk (Blk.new _ _ _) (Nat.le_refl _) rfl (by omega) (Nat.le_refl _) (by simp [maxLen]) rfl rfl, rfl, fun j y l h => by simp at h⟩, Lib.hid ((Below.refl _ _).alloc (Nat.le_refl _) _)⟩
      case round =>
        obtain ⟨j, A, c, hj, rfl, rfl, ysx, HN, HB⟩ := hrel
        by_cases hjl : j < count
        ·
          go_wp2_with (at_builtin; go_must (refine wpList_appE etSls encSl_len encSl_one (y := ((some ⟨wr.heap.size, 0, none⟩, 512, 512) : Sl)) rfl (.tmp 53) (.tmp 55) rfl rfl ((HN.out.ok.alloc _).alloc _) (wr.heap.size + 1) rfl (by intro u z hz; rw [← size_alloc_ wr (.cells zCells 5), (Blk.new _ _ _).cell u]; simpa [encSl] using hz) (by rw [HN.out.len, List.length_replicate]; omega) (by have := HB.out.size; simp; omega) ?_; intro v3 w3 k1 k2 k3; obtain ⟨A3, c3, rfl, -, -, -, -⟩ := (k1.rk encSl_len (Nat.le_refl _)).open_; have HN3 := Lib.hid (rows_next HN.out HB.out k1 k2); have HB3 := Lib.hid (rows_below HN.out HB.out k2); have hl3 : (ysx ++ [((some ⟨wr.heap.size, 0, none⟩, 512, 512) : Sl)]).length = j + 1 := (by rw [List.length_append, HN.out.len, List.length_replicate]; rfl); rw [hl3] at HN3; rw [hl3]; clear k1 k2 k3 hl3))
          go_roundw
          case rel => exact ⟨j + 1, A3, c3, by omega, by go_num, rfl, _, HN3, HB3⟩
          case measure => simp [intOf]; omega
        · obtain rfl : j = count := by omega
          obtain ⟨wb, rfl, hfk⟩ := fl_start w W0 W1 wr fr j HCN.out I HP1.out HB0.out HB1.out HI.out HB.out HN.out
          have HST := Lib.hid hfk
          obtain ⟨p1, hp1'⟩ : ∃ p1, p1 = I.p := ⟨_, rfl⟩
          obtain ⟨g1, hg1⟩ : ∃ g1, g1 = I.g := ⟨_, rfl⟩
          obtain ⟨q1, hq1⟩ : ∃ q1, q1 = I.q := ⟨_, rfl⟩
          rw [← hp1', ← hg1, ← hq1] at HST
          rw [← hp1', ← hg1, ← hq1]
          clear hp1' hg1 hq1 hfk HP1 HI HB1 HB0 HN HB hmk
          obtain ⟨count, hcc⟩ : ∃ count, count = j := ⟨_, rfl⟩
          rw [← hcc] at HST gc1 gc2 gc3 gc4 hcn
          rw [← hcc]
          obtain ⟨cap, hcap⟩ : ∃ cap, cap = c := ⟨_, rfl⟩
          rw [← hcap] at HST
          rw [← hcap]
          clear hcc hcap
          obtain ⟨Wo, hWo⟩ : ∃ Wo, Wo = wr := ⟨_, rfl⟩
          rw [← hWo] at HST
          rw [← hWo]
          clear hWo
          go_wp2_with fail
          go_loopw [59] (fun i wr => ∃ k : Nat, k ≤ n ∧ i = .int .i64 (k : Int) ∧ Hid (FlK w wr p1 g1 q1 wb cap count k)) (fun i wr => n - (intOf i).toNat)
          case atStart => exact ⟨0, Nat.zero_le _, rfl, HST⟩
          case round =>
            clear HST
            obtain ⟨k, hk, rfl, HA⟩ := hrel
            by_cases hlt : k < n
            · have hkos : k < os.length := by rw [← HN0.out]; exact hlt
              obtain ⟨x, hx⟩ : ∃ x, os[k]? = some x := ⟨_, List.getElem?_eq_getElem hkos⟩
              obtain ⟨Q, I, c, L, ys, hal⟩ := HA.out
              obtain ⟨rb, ro, rfl, hrb, hcells⟩ := HROW.out k hkos
              have hxx : os[k] = x := (List.getElem?_eq_some_iff.1 hx).2
              rw [hxx] at hcells
              have HX := Lib.hid (HS.out.at_ x (List.mem_of_getElem? hx))
              obtain ⟨r0, r1, r2, r3⟩ := cellK hcells
              have hrbw : rb < w.heap.size := hrb
              have hbe := hal.bel
              obtain ⟨kd, hkd⟩ : ∃ kd, kd = x.kind := ⟨_, rfl⟩
              obtain ⟨nn, hnn⟩ : ∃ nn, nn = x.n := ⟨_, rfl⟩
              have HNN : Hid (I64 nn) := Lib.hid (by rw [hnn]; exact HX.out.n64)
              rw [← hkd] at r0
              rw [← hnn] at r1
              have d0 : wr.cell? ⟨rb, ro + k * 4, none⟩ = some (.int .i64 kd) := by rw [hbe.cell (p := ⟨rb, ro + k * 4, none⟩) hrbw]; exact r0
              have d1 : wr.cell? ⟨rb, ro + k * 4 + 1, none⟩ = some (.int .i64 nn) := by rw [hbe.cell (p := ⟨rb, ro + k * 4 + 1, none⟩) hrbw]; exact r1
              have d2 : wr.cell? ⟨rb, ro + k * 4 + 2, none⟩ = some (.slice x.dA x.dn x.dc) := by rw [hbe.cell (p := ⟨rb, ro + k * 4 + 2, none⟩) hrbw]; exact r2
              have d3 : wr.cell? ⟨rb, ro + k * 4 + 3, none⟩ = some (.slice x.fA x.fn x.fc) := by rw [hbe.cell (p := ⟨rb, ro + k * 4 + 3, none⟩) hrbw]; exact r3
              have HNB : Hid (¬ I.Core wr.heap.size ∧ wr.heap.size ≠ wb) := Lib.hid ⟨fun e => by have := hal.live.at_.lt _ e; omega, fun e => by have := (hal.live.at_.far wb hal.qw).1; omega⟩
              have HAL := Lib.hid (hal.mem ((Below.refl _ wr).alloc (Nat.le_refl _) (.cells #[.int .i64 kd, .int .i64 nn, .slice x.dA x.dn x.dc, .slice x.fA x.fn x.fc] 43)))
              have HBX : Hid (Blk (wr.alloc (.cells #[.int .i64 kd, .int .i64 nn, .slice x.dA x.dn x.dc, .slice x.fA x.fn x.fc] 43)) wr.heap.size 43 #[.int .i64 kd, .int .i64 nn, .slice x.dA x.dn x.dc, .slice x.fA x.fn x.fc]) := Lib.hid (Blk.new _ _ _)
              clear hx hxx hcells r0 r1 r2 r3 hrb hrbw hbe hal HA hkd hnn
              by_cases hk2 : kd = 2
              · subst hk2
                go_wp2_with fail
                refine HAL.out.app.mono ?_
                rintro e W1 ⟨A, r, I1, c1, rfl, hal1, hor, hm1, hcore1⟩
                have hbk1 := HBX.out.mod hm1 HNB.out.1
                have o1 : W1.cell? ⟨wr.heap.size, 1, none⟩ = some (.int .i64 nn) := hbk1.cell 1
                have o2 : W1.cell? ⟨wr.heap.size, 2, none⟩ = some (.slice x.dA x.dn x.dc) := hbk1.cell 2
                have o0 : W1.cell? ⟨wr.heap.size, 0, none⟩ = some (.int .i64 2) := hbk1.cell 0
                have HAL1 := Lib.hid hal1
                have HBK1 := Lib.hid hbk1
                have HOR := Lib.hid hor
                have HNB1 : Hid (¬ I1.Core wr.heap.size) := Lib.hid (fun e => HNB.out.1 (hcore1 _ HBX.out.lt e))
                clear hal1 hbk1 hor hm1 hcore1
                go_wp2_with fail
                refine (one10_any W1 _ x.item ((HX.out.item.below HAL1.out.bel).more HAL1.out.bel.size)).mono ?_
                rintro e W2 ⟨y, rfl, hy, hb2⟩
                have hbk2 := HBK1.out.below hb2 HBK1.out.lt
                have p1' : W2.cell? ⟨wr.heap.size, 1, none⟩ = some (.int .i64 nn) := hbk2.cell 1
                have p0' : W2.cell? ⟨wr.heap.size, 0, none⟩ = some (.int .i64 2) := hbk2.cell 0
                have HB2 := Lib.hid hb2
                have HY := Lib.hid hy
                clear hbk2 hb2 hy o0 o1 o2
                rcases HOR.out with ⟨hr, hA0, hA1, hAl⟩ | hr
                · subst hr
                  have HC := Lib.hid (HAL1.out.puts (by omega) HB2.out HBK1.out HNB1.out HNB.out.2 nn HNN.out y (onePg x.item) HY.out A ⟨hA0, hA1⟩ hAl)
                  clear hA0 hA1 hAl
                  go_wp2_with fail
                  refine HC.out.mono ?_
                  rintro e W3 ⟨kk, rfl, hbk3, ⟨hkk, hfin⟩ | ⟨rfl, N, hnN, hN, hc⟩⟩
                  · have gk : (kk == 0) = false := by simpa using hkk
                    have q0 : W3.cell? ⟨wr.heap.size, 0, none⟩ = some (.int .i64 2) := hbk3.cell 0
                    have HFIN := Lib.hid hfin
                    clear hkk hfin hbk3 HC
                    go_wp2_with fail
                    go_roundw
                    case rel => exact ⟨k + 1, by omega, by go_num, HFIN⟩
                    case measure => simp [intOf]; omega
                  · subst hnN
                    have HC := Lib.hid hc
                    have hN2 : (N : Int) < (count : Int) := by omega
                    clear hc hbk3
                    go_wp2_with fail
                    refine HC.out.mono ?_
                    rintro e W4 ⟨rfl, hbk4, hc⟩
                    have q1' : W4.cell? ⟨wr.heap.size, 1, none⟩ = some (.int .i64 (N : Int)) := hbk4.cell 1
                    have HCL : Hid (W4.drew.cell? ⟨wr.heap.size, 1, none⟩ = some (.int .i64 (N : Int))) := Lib.hid (hbk4.cell 1)
                    have HC := Lib.hid (hc W4.drew (Below.refl _ W4).drew)
                    clear hc hbk4
                    go_wp2_with fail
                    go_region_held3 (fun wx => wx.cell? ⟨wr.heap.size, 1, none⟩ = some (.int .i64 (N : Int))) (first | with_reducible exact HCS.out | with_reducible exact HCL.out)
                      ((go_at_call 24; go_must (refine HC.out.mono ?_; rintro e W5 ⟨b5, rfl, hbk5, ⟨cs5, hw5, hN5⟩, hfin⟩; have HCL : Hid (W5.cell? ⟨wr.heap.size, 1, none⟩ = some (.int .i64 (N : Int))) := (Lib.hid (hbk5.cell 1)); have HCS : Hid ((W5.setCell ⟨wb, N, none⟩ (.slice (some ⟨b5, 0, none⟩) 512 512)).cell? ⟨wr.heap.size, 1, none⟩ = some (.int .i64 (N : Int))) := (Lib.hid ((hbk5.far (p := ⟨wb, N, none⟩) HNB.out.2 _).cell 1)); have d5 : W5.cell? ⟨wb, N, none⟩ = some cs5[N] := (by rw [hw5.cell N, Array.getElem?_eq_getElem hN5]); have d6 : W5.frozen? ⟨wb, N, none⟩ = false := (hw5.frozen N); have HFIN := Lib.hid hfin; have HQ0 : Hid ((W5.setCell ⟨wb, N, none⟩ (.slice (some ⟨b5, 0, none⟩) 512 512)).cell? ⟨wr.heap.size, 0, none⟩ = some (.int .i64 2)) := (Lib.hid ((hbk5.far (p := ⟨wb, N, none⟩) HNB.out.2 _).cell 0)); clear hfin hbk5)))
                    all_goals go_wp2_with fail
                    all_goals (
                      go_roundw
                      case rel => exact ⟨k + 1, by omega, by go_num, HFIN⟩
                      case measure => simp [intOf]; omega)
                · subst hr
                  have HFIN : Hid (FlK w W2 p1 g1 q1 wb cap count (k + 1)) := Lib.hid ⟨_, _, _, _, _, (HAL1.out.mem HB2.out).more (Nat.le_succ k)⟩
                  go_wp2_with fail
                  go_roundw
                  case rel => exact ⟨k + 1, by omega, by go_num, HFIN⟩
                  case measure => simp [intOf]; omega
              ·
                by_cases hk7 : kd = 7
                · subst hk7
                  have HFIN : Hid (FlK w (wr.alloc (.cells #[.int .i64 7, .int .i64 nn, .slice x.dA x.dn x.dc, .slice x.fA x.fn x.fc] 43)) p1 g1 q1 wb cap count (k + 1)) := Lib.hid ⟨_, _, _, _, _, HAL.out.more (Nat.le_succ k)⟩
                  clear hk2
                  go_wp2_with fail
                  go_roundw
                  case rel => exact ⟨k + 1, by omega, by go_num, HFIN⟩
                  case measure => simp [intOf]; omega
                · have gk2 : (kd == 2) = false := by simpa using hk2
                  have gk7 : (kd == 7) = false := by simpa using hk7
                  have gk7' : (kd != 7) = true := by simpa using hk7
                  have hmx : ∀ W ty, (Builtin.max_ #[3, 3] ty #[.int .i64 kd, .int .i64 3]).run Tryz.prog W = .ok (.int .i64 (max kd 3)) W := by
                    intro W ty
                    rw [run_max3 W ty kd 3]
                  obtain ⟨mx, hmx2⟩ : ∃ mx, mx = max kd 3 := ⟨_, rfl⟩
                  rw [← hmx2] at hmx
                  have hmn : ∀ W ty, (Builtin.min_ #[3, 3] ty #[.int .i64 mx, .int .i64 6]).run Tryz.prog W = .ok (.int .i64 (min mx 6)) W := by
                    intro W ty
                    rw [run_min3 W ty mx 6]
                  obtain ⟨mn, hmn2⟩ : ∃ mn, mn = min mx 6 := ⟨_, rfl⟩
                  rw [← hmn2] at hmn
                  have HMN : Hid (mn = 3 ∨ mn = 4 ∨ mn = 5 ∨ mn = 6) := Lib.hid (by omega)
                  clear hmx2 hmn2 hk2 hk7
                  go_wp2_with fail
                  refine (HAL.out.asks (by omega) mn nn HMN.out HNN.out (.slice none 0 0) (.slice none 0 0)).mono ?_
                  rintro e W1 ⟨⟨b, rfl⟩, c', hfin⟩
                  have HFIN : Hid (FlK w W1 p1 g1 q1 wb cap count (k + 1)) := Lib.hid ⟨_, _, _, _, _, hfin⟩
                  clear hfin
                  go_wp2_with fail
                  go_roundw
                  case rel => exact ⟨k + 1, by omega, by go_num, HFIN⟩
                  case measure => simp [intOf]; omega
            · obtain rfl : k = n := by omega
              obtain ⟨Q9, I9, c9, L9, ys9, hf9⟩ := HA.out
              have HC := Lib.hid (hf9.finish (by omega) (.slice KA kn kc) ks HKV.out.1 HKV.out.2)
              clear hf9 HA
              go_wp2_with fail
              refine HC.out.mono ?_
              rintro e W8 ⟨rfl, hc⟩
              have HC := Lib.hid hc
              clear hc
              go_wp2_with fail
              refine HC.out.mono ?_
              rintro e W9 ⟨A9, n9, rfl, hc⟩
              have HC := Lib.hid hc
              clear hc
              go_wp2_with fail
              refine HC.out.mono ?_
              rintro e W10 ⟨rfl, sb, mb, pl, s, S, hend⟩
              have HEND := Lib.hid hend
              clear hend HC
              go_wp2_with fail
              go_loopw [123] (fun i wr => ∃ m : Nat, m ≤ count ∧ i = .int .i64 (m : Int) ∧ Hid (Below W10.heap.size W10 wr)) (fun i wr => count - (intOf i).toNat)
              case atStart => exact ⟨0, Nat.zero_le _, rfl, Lib.hid (Below.refl _ _)⟩
              case round =>
                obtain ⟨m, hm, rfl, HB⟩ := hrel
                by_cases hml : m < count
                · have hmL : m < L9.length := by rw [HEND.out.cnt]; exact hml
                  have HE := Lib.hid (HEND.out.below HB.out)
                  obtain ⟨l, hl⟩ : ∃ l, L9[m]? = some l := ⟨_, List.getElem?_eq_getElem hmL⟩
                  obtain ⟨⟨yA, yn, yc⟩, hy⟩ : ∃ y, ys9[m]? = some y := ⟨_, List.getElem?_eq_getElem (by rw [HE.out.rows.len]; exact hmL)⟩
                  have HRW := Lib.hid (HE.out.rows.at_ m _ l hy hl).1
                  have HCE := Lib.hid (HE.out.rows.cellR hy)
                  have HHAS := Lib.hid (HE.out.has m l hl)
                  have gw : IntKind.i64.wrap (4 + (m : Int)) = ((4 + m : Nat) : Int) := by rw [IntKind.wrap_i64]; have := HCN.out; omega
                  obtain ⟨m4, hm4⟩ : ∃ m4, m4 = 4 + m := ⟨_, rfl⟩
                  rw [← hm4] at gw HHAS
                  have HRE : Hid (s.readE (m4 : Int) = 0) := Lib.hid (by
                    have h1 := HE.out.len
                    have h2 := HE.out.off
                    unfold DS.readE DS.isSec
                    rw [h2]
                    have : ((m4 : Int) < s.safe.length) := by omega
                    simp
                    omega)
                  clear hl hy hmL hm4
                  go_wp2_with fail
                  refine (Read_any wr p1 sb mb pl s HE.out.dk (m4 : Int)).mono ?_
                  rintro e W11 ⟨v5, rfl, hb5, hv5⟩
                  rw [HRE.out]
                  obtain ⟨b5, rfl, hs5⟩ : ∃ b, v5 = .slice (some ⟨b, 0, none⟩) 512 512 ∧ Secs W11 b [l] := by
                    rcases hv5 with ⟨-, b, e, -, h2⟩ | ⟨h, -⟩
                    · rw [Int.toNat_natCast, HHAS.out] at h2
                      exact ⟨b, e, h2⟩
                    · exact absurd HRE.out h
                  have HB5 := Lib.hid (HB.out.trans (hb5.mono HB.out.size))
                  have HR5 := Lib.hid (hs5.rb hs5.lt)
                  have HRW5 := Lib.hid ((HRW.out.below hb5).more hb5.size)
                  have c5 : W11.cell? ⟨wb, m, none⟩ = some (.slice yA yn yc) := by
                    rw [hb5.cell (p := ⟨wb, m, none⟩) (FR.lt HE.out.rows)]; exact HCE.out
                  have hmc : (m : Int) < (count : Int) := by omega
                  clear hb5 hv5 hs5
                  go_wp2_with fail
                  refine (same_any _ _ l l W11 W11.heap.size HR5.out HRW5.out).mono ?_
                  rw [show sameB l l = true by simp [sameB]]
                  rintro e W12 ⟨rfl, q, hw12⟩
                  have HF5 : Hid (Below W10.heap.size W10 W12) := Lib.hid (by rw [hw12]; exact below_drewN HB5.out q)
                  clear hw12
                  go_wp2_with fail
                  go_roundw
                  case rel => exact ⟨m + 1, by omega, by go_num, HF5⟩
                  case measure => simp [intOf]; omega
                · obtain rfl : m = count := by omega
                  go_wp2_with fail
                  go_ret
                  exact ⟨rfl, HEND.out.bel.trans (HB.out.mono HEND.out.bel.size)⟩
end Go.Proofs.YtbagmmncjmbboaaGreat
