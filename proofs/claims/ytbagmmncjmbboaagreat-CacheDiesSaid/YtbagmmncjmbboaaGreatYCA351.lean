/-
  CacheDirty: a pool and the row of the LSNs with which its pages became dirty. No walk.
-/
import Derived.Test.YtbagmmncjmbboaaGreatZCA29
namespace Go.Proofs.YtbagmmncjmbboaaGreat
open Go.RowKit Go.Maps
set_option linter.unusedVariables false

/-- The row that CacheDirty keeps. -/
def firstCs (F : Nat → Int) : Array Value := ((List.range 8).map fun i => Value.int .i64 (F i)).toArray

theorem firstCs_at (F : Nat → Int) {i : Nat} (hi : i < 8) : (firstCs F)[i]? = some (.int .i64 (F i)) := by
  unfold firstCs
  simp [hi]

theorem firstCs_set (F : Nat → Int) (i : Nat) (x : Int) : (firstCs F).setIfInBounds i (.int .i64 x) = firstCs (fun j => if j = i then x else F j) := by
  unfold firstCs
  apply Array.ext_getElem?
  intro j
  rw [Array.getElem?_setIfInBounds]
  by_cases hj : j < 8
  · by_cases e : i = j
    · subst e; simp [hj]
    · rw [if_neg e]
      simp [hj]
      exact fun h => absurd h.symm e
  · by_cases e : i = j
    · subst e; simp [hj]
    · simp [e, hj]

theorem mem_dirtyL {fs : List (Fr × FrM)} {a d : Int} : (a, d) ∈ dirtyL fs (numsOf fs) ↔ dirtOf fs a = some d := by
  unfold dirtyL
  rw [List.mem_filterMap]
  constructor
  · rintro ⟨n, -, h⟩
    cases hd : dirtOf fs n with
    | none => rw [hd] at h; cases h
    | some r =>
      rw [hd] at h
      injection h with h
      injection h with h1 h2
      subst h1 h2
      exact hd
  · intro h
    refine ⟨a, mem_numsOf.2 ?_, by rw [h]; rfl⟩
    unfold dirtOf at h
    cases hf : fr fs a with
    | none => rw [hf] at h; cases h
    | some y =>
      obtain ⟨i, x, hi, -⟩ := fr_some hf
      rw [hi]; rfl

theorem dirtyL_up {fs : List (Fr × FrM)} (hu : Uniq fs) : (dirtyL fs (numsOf fs)).Pairwise fun a b => a.1 < b.1 := by
  unfold dirtyL
  rw [List.pairwise_filterMap]
  refine (numsOf_up hu).imp ?_
  intro a b h x hx y hy
  cases h1 : dirtOf fs a with
  | none => rw [h1] at hx; cases hx
  | some r =>
    cases h2 : dirtOf fs b with
    | none => rw [h2] at hy; cases hy
    | some r' =>
      rw [h1] at hx
      rw [h2] at hy
      injection hx with hx
      injection hy with hy
      subst hx hy
      exact h

theorem dirtyL_any (fs : List (Fr × FrM)) (n : Int) : (dirtyL fs (numsOf fs)).any (fun x => x.1 == n) = (dirtOf fs n).isSome := by
  cases h : dirtOf fs n with
  | none =>
    rw [Option.isSome_none, List.any_eq_false]
    intro x hx
    have := mem_dirtyL.1 hx
    simp only [beq_iff_eq]
    intro e
    rw [e, h] at this
    cases this
  | some d =>
    rw [Option.isSome_some, List.any_eq_true]
    exact ⟨(n, d), mem_dirtyL.2 h, by simp⟩

theorem dirt_rng {fs : List (Fr × FrM)} {count : Nat} (hs : Shape fs count) {a d : Int} (h : dirtOf fs a = some d) : 0 ≤ a ∧ a < count := by
  unfold dirtOf at h
  cases hf : fr fs a with
  | none => rw [hf] at h; cases h
  | some y =>
    obtain ⟨i, x, hi, hx, hat, -⟩ := fr_some hf
    have h1 := isAt_yes.1 hat
    have := hs.rng i x hx h1.1
    rw [h1.2] at this
    exact this

/-- A pool, and beside it the row. -/
structure Dty (w W : World) (p1 g1 q1 fb : Nat) (I : PI) (c : CP) (R F : Nat → Int) (s : Nat) (top : Int) : Prop where
  at_ : PoolAt W I (fun k => k = fb) c
  good : Good8 c (disk10 [] 8).has
  ia : I.p = p1 ∧ I.g = g1 ∧ I.q = q1
  bel : Below w.heap.size w W
  new : ∀ k, I.Core k → w.heap.size ≤ k
  row : Blk W fb 2 (firstCs R)
  fbn : w.heap.size ≤ fb
  steps : c.s.steps + 385 * s ≤ 4 + 385 * c.m.st.length
  turn : c.o.turn + s ≤ c.m.st.length
  dirt : ∀ a d, dirtOf c.fs a = some d → 1 ≤ F a.toNat ∧ F a.toNat ≤ d ∧ d < top
  top : top ≤ ((c.m.lsn c.m.st.length : Nat) : Int)

section

variable {w W W' : World} {p1 g1 q1 fb : Nat} {I : PI} {c : CP} {R F : Nat → Int} {s : Nat} {top : Int}

theorem Dty.live (h : Dty w W p1 g1 q1 fb I c R F s top) : Live W I (fun k => k = fb) c 0 0 (disk10 [] 8).has := ⟨h.at_, h.good.fine, h.good.late⟩

theorem Dty.mem (h : Dty w W p1 g1 q1 fb I c R F s top) (hb : Below W.heap.size W W') : Dty w W' p1 g1 q1 fb I c R F s top :=
  ⟨h.at_.below hb, h.good, h.ia, h.bel.trans (hb.mono h.bel.size), h.new, h.row.below hb h.row.lt, h.fbn, h.steps, h.turn, h.dirt, h.top⟩

theorem Dty.loose (h : Dty w W p1 g1 q1 fb I c R F s top) : Dty w W p1 g1 q1 fb I c R F 0 ((c.m.lsn c.m.st.length : Nat) : Int) :=
  ⟨h.at_, h.good, h.ia, h.bel, h.new, h.row, h.fbn, by have := h.steps; omega, by have := h.turn; omega, fun a d e => by have := h.dirt a d e; have := h.top; omega, Int.le_refl _⟩

theorem Dty.few (h : Dty w W p1 g1 q1 fb I c R F s top) : c.m.st.length ≤ 1992 := by
  have h1 := h.good.fine.log.ok.st
  rw [h.good.log] at h1
  omega

/-- The row is written. -/
theorem Dty.store (h : Dty w W p1 g1 q1 fb I c R F s top) (N : Nat) (x : Int) : Dty w (W.setCell ⟨fb, N, none⟩ (.int .i64 x)) p1 g1 q1 fb I c (fun j => if j = N then x else R j) F s top := by
  have hm : Mod (fun k => k = fb) W (W.setCell ⟨fb, N, none⟩ (.int .i64 x)) := Mod.setCell (S := fun k => k = fb) (Mod.refl _ _) (p := ⟨fb, N, none⟩) (fun _ => rfl) _
  refine ⟨h.at_.later hm (fun _ _ e => e) (fun k hk => ⟨by subst hk; exact Nat.lt_of_lt_of_le h.row.lt hm.size, .inl hk⟩), h.good, h.ia, below_by h.bel hm (fun k hk => by subst hk; exact h.fbn), h.new, ?_, h.fbn, h.steps, h.turn, h.dirt, h.top⟩
  have := h.row.set_ N (.int .i64 x)
  rw [firstCs_set] at this
  exact this

/-- A record. -/
theorem Dty.app (h : Dty w W p1 g1 q1 fb I c R F s top) :
    Calls Tryz.prog 20 #[.pointer (some ⟨g1, 0, none⟩), .int .i64 1, .slice none 0 0] W fun e W' => ∃ A r I' c', e = .returned (.tuple #[.int .i64 A, .int .i64 r]) ∧
      ((r = 0 ∧ 1 ≤ A ∧ A ≤ 9000000000000000000 ∧ A < ((c'.m.lsn c'.m.st.length : Nat) : Int) ∧ Dty w W' p1 g1 q1 fb I' c' R F 1 A) ∨ (r = 90 ∧ Dty w W' p1 g1 q1 fb I' c' R F 0 ((c'.m.lsn c'.m.st.length : Nat) : Int))) := by
  obtain ⟨e1, rfl, e2⟩ := h.ia
  obtain ⟨hf, hlk, hsafe, hrun, hor⟩ := h.good.fine.app [] (by simp) (by simp)
  refine (App_live h.live (by rw [h.good.log]; omega) (.slice none 0 0) [] (RB.nil _ _) (by simp)).mono ?_
  rintro e w' ⟨sv, bv, hL, rfl, hm, hcore⟩
  have hcount : (c.app 1 []).m.count = 4 := by
    rcases hor with ⟨-, -, -⟩ | ⟨-, e⟩
    · have : (c.m.append 1 []).1.count = c.m.count := by
        unfold LG.append
        repeat' split
        all_goals rfl
      exact this.trans h.good.log
    · rw [e]; exact h.good.log
  have hg8 : Good8 (c.app 1 []) (disk10 [] 8).has := ⟨hf, hL.late, h.good.pins, h.good.cnt, h.good.base, h.good.nf, hcount, by rw [hrun]; exact h.good.run, fun m hm => by rw [hlk]; exact h.good.page m hm, h.good.len⟩
  have hfb : ¬ I.Core fb := (h.at_.far fb rfl).2
  have hnew : ∀ k, PI.Core { I with sv := sv, bv := bv } k → w.heap.size ≤ k := fun k hk => by
    rcases hcore k hk with e | e
    · exact h.new k e
    · exact Nat.le_trans h.bel.size e
  have hrow : Blk w' fb 2 (firstCs R) := h.row.mod hm (fun e => hfb (.inr (.inl e)))
  have hbel := below_by h.bel hm (fun k hk => h.new k (.inr (.inl hk)))
  have hst : c.m.st.length ≤ (c.app 1 []).m.st.length := by
    rcases hor with ⟨-, -, e⟩ | ⟨-, e⟩
    · omega
    · rw [e]; exact Nat.le_refl _
  have hs := h.steps
  have ht := h.turn
  have hS : (c.app 1 []).s = c.s := rfl
  have hO : (c.app 1 []).o = c.o := rfl
  have hFs : (c.app 1 []).fs = c.fs := rfl
  refine ⟨_, _, { I with sv := sv, bv := bv }, c.app 1 [], rfl, ?_⟩
  rcases hor with ⟨h0, h1, h3⟩ | ⟨h0, e⟩
  · have hr := hf.log.ok.run
    have hn := hf.log.ok.num
    have hr1 := h.good.run
    refine .inl ⟨h0, by rw [h1]; unfold LG.lsn; omega, by rw [h1]; unfold LG.lsn; rw [hrun] at hr; omega, by rw [h1]; unfold LG.lsn; rw [hrun]; omega, ⟨hL.at_, hg8, h.ia, hbel, hnew, hrow, h.fbn, by rw [hS]; omega, by rw [hO]; omega, fun a d e => ?_, ?_⟩⟩
    · rw [hFs] at e
      have h4 := h.dirt a d e
      have h5 := h.top
      rw [h1]
      omega
    · rw [h1]; unfold LG.lsn; rw [hrun]; omega
  · refine .inr ⟨h0, ⟨hL.at_, hg8, h.ia, hbel, hnew, hrow, h.fbn, by rw [hS]; omega, by rw [hO]; omega, fun a d e2 => ?_, Int.le_refl _⟩⟩
    rw [hFs] at e2
    have h4 := h.dirt a d e2
    have h5 := h.top
    rw [e]
    omega

/-- What the row is to be behind a Put. -/
def newF (c : CP) (F : Nat → Int) (N : Nat) (A : Int) (i : Nat) : Int := if i = N ∧ dirtOf c.fs (N : Int) = none then A else F i

theorem Dty.put {A : Int} (h : Dty w W p1 g1 q1 fb I c R F 1 A) (hb : Below W.heap.size W W') {N : Nat} (hN : N < 8) (y : FrM) (gm : PG) (hg : PgIn W' (fun k => W.heap.size ≤ k) y gm) (hA : 1 ≤ A ∧ A ≤ 9000000000000000000) (hlt : A < ((c.m.lsn c.m.st.length : Nat) : Int)) :
    Calls Tryz.prog 22 #[.pointer (some ⟨q1, 0, none⟩), .int .i64 (N : Int), .pointer (some ⟨y.p, 0, none⟩), .int .i64 A] W' fun e W2 => e = .returned (.int .i64 0) ∧ Mod I.Turn W' W2 ∧ ∃ c', Dty w W2 p1 g1 q1 fb I c' R (newF c F N A) 0 (A + 1) ∧ ∃ d, dirtOf c'.fs (N : Int) = some d ∧ (dirtOf c.fs (N : Int) = none → d = A) := by
  have h1 := h.steps
  have h1' := h.turn
  obtain ⟨e1, e2, rfl⟩ := h.ia
  have hfew := h.few
  have hw := h.mem hb
  have hg' : PgIn W' (fun k => ¬ I.Turn k) y gm := hg.mod (Mod.refl (fun _ => False) _) (fun _ _ _ e => e) (fun k _ hf e => by have := h.at_.lt k (PI.turn_core e); omega)
  have hfree : Free c := free_of_pins h.at_.shape h.good.nf h.good.pins
  have hg2 : PgGood { gm with lsn := A } := by
    have h1 := hg.good
    exact ⟨⟨h1.ok.num, h1.ok.item, by dsimp only; omega, h1.ok.kind, h1.ok.extra⟩, h1.fit, h1.byte⟩
  refine (Put_live hw.live (N : Int) (by unfold I64; omega) (by omega) (by omega) y gm hg' A (by omega) hlt).mono ?_
  rintro e W2 ⟨k, c', rfl, hbh, ⟨rfl, hf, -, N', hN', -, -, hlk, hpn, ⟨d, hd, hd2, hd3⟩, hdo, hlog, -, -⟩ | ⟨-, hm⟩⟩
  · obtain rfl : N' = N := by omega
    rw [h.good.cnt] at hlk
    have hst : c'.m.st.length = c.m.st.length := by rw [hlog]
    have hlsn : c'.m.lsn c'.m.st.length = c.m.lsn c.m.st.length := by rw [hst]; unfold LG.lsn; rw [hlog]
    have hsm := hbh.stepsM
    have htm := hbh.turn
    rw [h.good.log] at hsm
    refine ⟨rfl, hbh.mod, c', ⟨hbh.at_, ⟨hf, hbh.late, fun a => (hpn a).trans (h.good.pins a), hbh.count.trans h.good.cnt, hbh.base.trans h.good.base, by rw [hbh.nf]; exact h.good.nf, by rw [hlog]; exact h.good.log, by rw [hlog]; exact h.good.run, fun m hm => ?_, hbh.len.trans h.good.len⟩, h.ia, below_turn hw.bel hbh.mod h.new, h.new, hw.row.mod hbh.mod (fun e => (h.at_.far fb rfl).2 (PI.turn_core e)), h.fbn, by rw [hst]; omega, by rw [hst]; omega, fun a x hx => ?_, by rw [hlsn]; omega⟩, d, hd, hd3⟩
    · rw [hlk m hm]
      split
      · exact ⟨_, hg2.pageOf⟩
      · exact h.good.page m hm
    · unfold newF
      by_cases ha : a = (N' : Int)
      · subst ha
        rw [hd] at hx
        injection hx with hx
        subst hx
        rw [Int.toNat_natCast]
        by_cases hn : dirtOf c.fs (N' : Int) = none
        · rw [if_pos ⟨rfl, hn⟩]
          have := hd3 hn
          omega
        · rw [if_neg (fun e => hn e.2)]
          rcases hd2 with e | e
          · cases ho : dirtOf c.fs (N' : Int) with
            | none => exact absurd ho hn
            | some d0 =>
              have := h.dirt _ _ ho
              rw [Int.toNat_natCast] at this
              omega
          · have := h.dirt _ _ e
            rw [Int.toNat_natCast] at this
            omega
      · rcases hdo a ha with e | e
        · rw [hx] at e
          have h4 := h.dirt a x e.symm
          have h5 := dirt_rng h.at_.shape e.symm
          rw [if_neg (by omega)]
          omega
        · rw [hx] at e; cases e
  · exact (no_miss hm (by rw [h.good.cnt]; omega) (.inr hfree) (.inr (by rw [Int.toNat_natCast]; exact h.good.page N hN))).elim

/-- A row of dirty pages, as the law looks at it. -/
structure DRow (W : World) (v : Value) (xs : List (Int × Int)) : Prop where
  rk : RK encDr 2 W W.heap.size v xs
  len : xs.length ≤ 64

theorem dirtyL_few {W : World} {Q : Nat → Prop} (h : PoolAt W I Q c) : (dirtyL c.fs (numsOf c.fs)).length ≤ (keysOf c.fs).length ∧ (keysOf c.fs).length ≤ 64 := by
  have h1 := dirtyL_len c.fs (numsOf c.fs)
  rw [(numsOf_perm c.fs).length_eq] at h1
  have h2 := keys_len c.fs
  have h3 := h.num
  have h4 := h.nf
  exact ⟨h1, by omega⟩

/-- What is told, then a Put. -/
theorem Dty.dirtyPut {A : Int} (h : Dty w W p1 g1 q1 fb I c R F 1 A) {N : Nat} (hN : N < 8) (hA : 1 ≤ A ∧ A ≤ 9000000000000000000) (hlt : A < ((c.m.lsn c.m.st.length : Nat) : Int)) :
    Calls Tryz.prog 26 #[.pointer (some ⟨q1, 0, none⟩)] W fun e W1 => ∃ v, e = .returned v ∧
      Calls Tryz.prog 21 #[.slice none 0 0] W1 fun e W2 => ∃ y, e = .returned (.pointer (some ⟨y, 0, none⟩)) ∧
        Calls Tryz.prog 22 #[.pointer (some ⟨q1, 0, none⟩), .int .i64 (N : Int), .pointer (some ⟨y, 0, none⟩), .int .i64 A] W2 fun e W3 => e = .returned (.int .i64 0) ∧ DRow W3 v (dirtyL c.fs (numsOf c.fs)) ∧
          ∃ c', Dty w W3 p1 g1 q1 fb I c' R (newF c F N A) 0 (A + 1) ∧ ∃ d, dirtOf c'.fs (N : Int) = some d ∧ (dirtOf c.fs (N : Int) = none → d = A) := by
  obtain ⟨e1, e2, rfl⟩ := h.ia
  refine (Dirty_pool h.at_).mono ?_
  rintro e W1 ⟨v, rfl, ho, hb1⟩
  refine ⟨v, rfl, ?_⟩
  refine (one10_any W1 (.slice none 0 0) [] (RB.nil _ _)).mono ?_
  rintro e W2 ⟨y, rfl, hy, hb2⟩
  refine ⟨y.p, rfl, ?_⟩
  refine (h.put (hb1.trans (hb2.mono hb1.size)) hN y (onePg []) (hy.mod (Mod.refl (fun _ => False) _) (fun _ _ _ e => e) (fun k _ hf => Nat.le_trans hb1.size hf)) hA hlt).mono ?_
  rintro e W3 ⟨rfl, hm, c', hd, hx⟩
  have ho3 := (ho.below hb2).mod hm (fun b hb e => by have h5 := (ho.lt b hb).1; have := h.at_.lt b (PI.turn_core e); omega)
  have hfw := dirtyL_few h.at_
  exact ⟨rfl, ⟨ho3.rk encDr_len (Nat.le_refl _), by omega⟩, c', hd, hx⟩

/-- What the law asks of the dirty pages that it is told. -/
structure DGood (xs : List (Int × Int)) (F : Nat → Int) (N : Nat) (A : Int) (is_ : Bool) : Prop where
  up : xs.Pairwise fun a b => a.1 < b.1
  rng : ∀ x ∈ xs, ∃ m : Nat, x.1 = (m : Int) ∧ m < 8 ∧ 1 ≤ F m ∧ F m ≤ x.2 ∧ x.2 ≤ A
  found : xs.any (fun x => x.1 == (N : Int) && (is_ || x.2 == A)) = true

theorem Dty.dirty {A : Int} (h : Dty w W p1 g1 q1 fb I c R F 0 (A + 1)) {N : Nat} {is_ : Bool} (hf : ∃ d, dirtOf c.fs (N : Int) = some d ∧ (is_ = false → d = A)) :
    Calls Tryz.prog 26 #[.pointer (some ⟨q1, 0, none⟩)] W fun e W1 => ∃ v xs, e = .returned v ∧ DRow W1 v xs ∧ DGood xs F N A is_ ∧ Dty w W1 p1 g1 q1 fb I c R F 0 (A + 1) ∧ xs.length ≤ (keysOf c.fs).length := by
  obtain ⟨e1, e2, rfl⟩ := h.ia
  have hfw := dirtyL_few h.at_
  refine (Dirty_pool h.at_).mono ?_
  rintro e W1 ⟨v, rfl, ho, hb1⟩
  refine ⟨v, _, rfl, ⟨ho.rk encDr_len (Nat.le_refl _), by omega⟩, ⟨dirtyL_up h.at_.uniq, ?_, ?_⟩, h.mem hb1, hfw.1⟩
  · rintro ⟨a, d⟩ hx
    have h3 := mem_dirtyL.1 hx
    have h4 := h.dirt a d h3
    have h5 := dirt_rng h.at_.shape h3
    rw [h.good.cnt] at h5
    refine ⟨a.toNat, by dsimp only; omega, by omega, h4.1, h4.2.1, by dsimp only; omega⟩
  · obtain ⟨d, hd, hd2⟩ := hf
    rw [List.any_eq_true]
    refine ⟨((N : Int), d), mem_dirtyL.2 hd, ?_⟩
    cases is_ with
    | true => simp
    | false => simp [hd2 rfl]

theorem Dty.finish (h : Dty w W p1 g1 q1 fb I c R F s top) :
    Calls Tryz.prog 25 #[.pointer (some ⟨q1, 0, none⟩)] W fun e W1 => e = .returned (.int .i64 0) ∧
      Calls Tryz.prog 26 #[.pointer (some ⟨q1, 0, none⟩)] W1 fun e W2 => ∃ A n, e = .returned (.slice A 0 n) ∧ Below w.heap.size w W2 := by
  have h1 := h.steps
  obtain ⟨e1, e2, rfl⟩ := h.ia
  have hfew := h.few
  refine (Flush_live h.live (by omega)).mono ?_
  rintro e W1 ⟨k, c', rfl, hbh, ⟨rfl, hf, -, hd, -⟩ | ⟨-, ⟨hh, -⟩, -⟩⟩
  · refine ⟨rfl, ?_⟩
    have hbel := below_turn h.bel hbh.mod h.new
    refine (Dirty_pool hbh.at_).mono ?_
    rintro e W2 ⟨v, rfl, ho, hb⟩
    have e0 : dirtyL c'.fs (numsOf c'.fs) = [] := by
      rw [List.eq_nil_iff_forall_not_mem]
      rintro ⟨a, d⟩ hx
      have := mem_dirtyL.1 hx
      rw [hd a] at this
      cases this
    rw [e0] at ho
    obtain ⟨A, n, rfl, -, -, -, -⟩ := (ho.rk encDr_len (Nat.le_refl _)).open_
    exact ⟨A, n, rfl, hbel.trans (hb.mono hbel.size)⟩
  · exact absurd rfl hh

/-- The pool and its row. -/
def DtyK (w W : World) (p1 g1 q1 fb : Nat) : Prop := ∃ I c F top, Dty w W p1 g1 q1 fb I c F F 0 top

theorem newF_old {c : CP} {F : Nat → Int} {N : Nat} {A : Int} (h : (dirtOf c.fs (N : Int)).isSome = true) : newF c F N A = F := by
  funext i
  unfold newF
  rw [if_neg]
  rintro ⟨-, e⟩
  rw [e] at h
  cases h

theorem newF_new {c : CP} {F : Nat → Int} {N : Nat} {A : Int} (h : (dirtOf c.fs (N : Int)).isSome = false) : newF c F N A = fun j => if j = N then A else F j := by
  funext i
  unfold newF
  have e : dirtOf c.fs (N : Int) = none := by
    cases hd : dirtOf c.fs (N : Int) with
    | none => rfl
    | some d => rw [hd] at h; cases h
  by_cases hi : i = N
  · rw [if_pos ⟨hi, e⟩, if_pos hi]
  · rw [if_neg (fun h => hi h.1), if_neg hi]

theorem any_take {α : Type} {xs : List α} {j : Nat} {x : α} (h : xs[j]? = some x) (P : α → Bool) : (xs.take (j + 1)).any P = ((xs.take j).any P || P x) := by
  rw [take_snoc h, List.any_append]
  simp

/-- Is page n among the first j? -/
def pageIn (xs : List (Int × Int)) (j : Nat) (n : Int) : Bool := (xs.take j).any fun x => x.1 == n

/-- Is it found among the first j? -/
def foundIn (xs : List (Int × Int)) (j : Nat) (n : Int) (is_ : Bool) (A : Int) : Bool := (xs.take j).any fun x => x.1 == n && (is_ || x.2 == A)

theorem pageIn_zero (xs : List (Int × Int)) (n : Int) : pageIn xs 0 n = false := by simp [pageIn]

theorem foundIn_zero (xs : List (Int × Int)) (n : Int) (is_ : Bool) (A : Int) : foundIn xs 0 n is_ A = false := by simp [foundIn]

theorem pageIn_succ {xs : List (Int × Int)} {j : Nat} {a d : Int} (h : xs[j]? = some (a, d)) (n : Int) : pageIn xs (j + 1) n = (pageIn xs j n || a == n) := any_take h _

theorem foundIn_succ {xs : List (Int × Int)} {j : Nat} {a d : Int} (h : xs[j]? = some (a, d)) (n : Int) (is_ : Bool) (A : Int) : foundIn xs (j + 1) n is_ A = (foundIn xs j n is_ A || (a == n && (is_ || d == A))) := any_take h _

theorem DRow.at_ {W : World} {A : Option Addr} {n cc : Nat} {xs : List (Int × Int)} (h : DRow W (.slice A n cc) xs) {j : Nat} {a d : Int} (hj : xs[j]? = some (a, d)) : ∃ b o, A = some ⟨b, o, none⟩ ∧ b < W.heap.size ∧ W.cell? ⟨b, o + j * 2, none⟩ = some (.int .i64 a) ∧ W.cell? ⟨b, o + j * 2 + 1, none⟩ = some (.int .i64 d) := by
  obtain ⟨A', c', e, -, -, -, hc⟩ := h.rk.open_
  injection e with e1 e2 e3
  subst e1
  have hl := (List.getElem?_eq_some_iff.1 hj)
  obtain ⟨b, o, rfl, hb, hx⟩ := hc.out j hl.1
  rw [hl.2] at hx
  exact ⟨b, o, rfl, hb, hx 0 _ rfl, hx 1 _ rfl⟩

theorem DRow.len_eq {W : World} {A : Option Addr} {n cc : Nat} {xs : List (Int × Int)} (h : DRow W (.slice A n cc) xs) : n = xs.length := by
  obtain ⟨A', c', e, -, -, -, hc⟩ := h.rk.open_
  injection e

theorem DRow.slice {W : World} {v : Value} {xs : List (Int × Int)} (h : DRow W v xs) : ∃ A n cc, v = .slice A n cc ∧ n = xs.length ∧ n ≤ 64 ∧ n ≤ cc := by
  obtain ⟨A', c', e, h1, -, -, hc⟩ := h.rk.open_
  exact ⟨A', _, c', e, rfl, h.len, h1⟩
end

theorem dty_start (w W0 W1 : World) (fr : Int) (I : PI) (hp : PoolAt W1 I (fun _ => False) (newC (begS (disk10 [] 8) 0 4) (begL (disk10 [] 8) 0 4) 4 8 (nfOf fr))) (hb0 : Below w.heap.size w W0) (hb1 : Below W0.heap.size W0 W1) (hI : ∀ k, I.Core k → W0.heap.size ≤ k) :
    DtyK w (W1.alloc (.cells (firstCs fun _ => 0) 2)) I.p I.g I.q W1.heap.size := by
  obtain ⟨a1, a2, a3, a4⟩ := begin8 fr
  have hb := newC_begins (l := []) (count := 8) (by simp) (by omega) (nfOf fr)
  have hal : Below W1.heap.size W1 (W1.alloc (.cells (firstCs fun _ => 0) 2)) := (Below.refl _ _).alloc (Nat.le_refl _) _
  have hbel := hb0.trans (hb1.mono hb0.size)
  refine ⟨I, _, fun _ => 0, _, ⟨hp.later (S := fun _ => False) (Mod.of_below hal _) (fun _ _ e => e) (fun k hk => ⟨by subst hk; simp, .inr (by omega)⟩), a1, ⟨rfl, rfl, rfl⟩, hbel.trans (hal.mono hbel.size), fun k hk => Nat.le_trans hb0.size (hI k hk), Blk.new _ _ _, hbel.size, by omega, by omega, fun a d e => ?_, Int.le_refl _⟩⟩
  unfold dirtOf at e
  rw [fr_none.2 (hb.idx a)] at e
  cases e
end Go.Proofs.YtbagmmncjmbboaaGreat
