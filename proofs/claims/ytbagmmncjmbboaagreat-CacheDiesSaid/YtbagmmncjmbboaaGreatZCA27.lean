/-
  The pool's Pin, Unpin, Flush and the log's Append as contracts on a pool that lives.
-/
import Derived.Test.YtbagmmncjmbboaaGreatZCA23
import Derived.Test.YtbagmmncjmbboaaGreatZV18
namespace Go.Proofs.YtbagmmncjmbboaaGreat
open Go.RowKit Go.Maps
set_option linter.unusedVariables false

section

variable {w : World} {I : PI} {Q : Nat → Prop} {c : CP} {X : Nat} {q : Int} {was : Nat → List Nat}

theorem Pin_live (h : Live w I Q c X q was) (n : Int) (hn64 : I64 n) (hst : c.s.steps < 900000000000000) (htn : c.o.turn < 900000000000000) :
    Calls Tryz.prog 33 #[.pointer (some ⟨I.q, 0, none⟩), .int .i64 n] w fun e w' => ∃ k c', e = .returned (.int .i64 k) ∧ Behind w w' I Q c c' was ∧
      ((k = 0 ∧ Fine c' X q ∧ (idx c'.fs n).isSome = true ∧ ∃ N, n = ((N : Nat) : Int) ∧ N < c.o.count ∧ ((idx c.fs n).isSome = true ∨ Free c) ∧
        (∀ m, m < c.o.count → c'.look m = c.look m) ∧ (∀ a, pinsOf c'.fs a = if a = n then pinsOf c.fs a + 1 else pinsOf c.fs a) ∧
        (∀ a, dirtOf c'.fs a = dirtOf c.fs a ∨ dirtOf c'.fs a = none) ∧ c'.m = { c.m with safe := c'.m.safe } ∧ c.m.safe ≤ c'.m.safe ∧ (∃ pg, PageOf (c.look N) pg)) ∨
       (k ≠ 0 ∧ Miss c X q n k c')) := by
  refine (Pin_pool h.at_ n hn64 (by omega) (by omega)).mono ?_
  rintro e w' ⟨k, a, c1, c', ho, rfl, ⟨w1, hp1⟩, hp, hm, he⟩
  have hst1 := find_steps h.at_.wal.lg.ok ho
  have htn1 := find_turn ho
  obtain ⟨f1, f2, f3⟩ := find_fit ho
  have hl1 := h.late.find h.fine h.sh ho
  rcases he with ⟨h0, rfl⟩ | ⟨h0, i, x, ha, hx, hat, rfl⟩
  · obtain ⟨hb, hff⟩ := h.found ho hp hm
    refine ⟨k, c', rfl, hb, ?_⟩
    rcases find_or hff with ⟨h1, -⟩ | ⟨-, hmiss⟩
    · exact absurd h1 h0
    · exact .inr ⟨h0, hmiss⟩
  · have hu1 := hp1.uniq
    rcases find_or (h.fine.find h.sh ho hp1.shape) with ⟨-, h1, h2, N, h3, h4, h5, i2, x2, pg2, ha2, hx2, hat2, hpg2, hpo⟩ | ⟨h6, -⟩
    · subst h3
      obtain ⟨p1, p2, p3, p4, p5⟩ := h1.pinTo hu1 hx hat (x.1.pins + 1)
      have hpin : pinsOf c1.fs (N : Int) = x.1.pins := by unfold pinsOf; rw [fr_of hu1 hx hat]; rfl
      refine ⟨k, _, rfl, ⟨hp, hl1.pinTo hx _, hm, by show c1.s.steps ≤ _; omega, htn1, f1, f2, by unfold CP.pin; simpa using f3, by show c1.s.safe.length = _; exact find_len ho, by have := find_stepsN h.at_.wal.lg.ok ho; show c1.s.steps ≤ _; omega⟩, .inl ⟨h0, p1, ?_, N, rfl, h4, h5, ?_, ?_, ?_, h2.log.1, h2.log.2, ⟨pg2, hpo⟩⟩⟩
      · show (idx (c1.fs.set i ({ x.1 with pins := x.1.pins + 1 }, x.2)) (N : Int)).isSome = true
        rw [p5, idx_of hu1 hx hat]; rfl
      · intro m hm'
        exact (p2 m).trans (h2.look m hm')
      · intro a
        show pinsOf (c1.fs.set i ({ x.1 with pins := x.1.pins + 1 }, x.2)) a = _
        rw [p3]
        by_cases haN : a = (N : Int)
        · rw [if_pos haN, if_pos haN, haN, ← h2.pins, hpin]
        · rw [if_neg haN, if_neg haN]; exact h2.pins a
      · intro a
        show dirtOf (c1.fs.set i ({ x.1 with pins := x.1.pins + 1 }, x.2)) a = _ ∨ dirtOf (c1.fs.set i ({ x.1 with pins := x.1.pins + 1 }, x.2)) a = _
        rw [p4]; exact h2.dirt a
    · exact absurd h0 h6

theorem Unpin_live (h : Live w I Q c X q was) (n : Int) (hn64 : I64 n) (htn : c.o.turn < 900000000000000) :
    Calls Tryz.prog 35 #[.pointer (some ⟨I.q, 0, none⟩), .int .i64 n] w fun e w' => ∃ k c', e = .returned (.int .i64 k) ∧ Behind w w' I Q c c' was ∧ Fine c' X q ∧ (∀ m, c'.look m = c.look m) ∧ c'.m = c.m ∧ (∀ a, dirtOf c'.fs a = dirtOf c.fs a) ∧ (∀ a, idx c'.fs a = idx c.fs a) ∧
      ((k = 101 ∧ pinsOf c.fs n = 0 ∧ ∀ a, pinsOf c'.fs a = pinsOf c.fs a) ∨ (k = 0 ∧ pinsOf c.fs n ≠ 0 ∧ ∀ a, pinsOf c'.fs a = if a = n then pinsOf c.fs a - 1 else pinsOf c.fs a)) := by
  refine (Unpin_pool h.at_ n hn64 (by omega)).mono ?_
  rintro e w' ⟨c', hp, hm, ⟨h0, rfl, rfl⟩ | ⟨i, x, hi, hx, h0, rfl, rfl⟩⟩
  · exact ⟨101, c', rfl, ⟨hp, h.late, hm, by omega, by omega, rfl, rfl, rfl, rfl, by omega⟩, h.fine, fun _ => rfl, rfl, fun _ => rfl, fun _ => rfl, .inl ⟨rfl, h0, fun _ => rfl⟩⟩
  · obtain ⟨y, hy, hat⟩ := idx_some hi
    rw [hx] at hy
    injection hy with hy
    subst hy
    have hu := h.at_.uniq
    obtain ⟨p1, p2, p3, p4, p5⟩ := h.fine.pinTo hu hx hat (x.1.pins - 1)
    have hpin : pinsOf c.fs n = x.1.pins := by unfold pinsOf; rw [fr_of hu hx hat]; rfl
    refine ⟨0, _, rfl, ⟨hp, h.late.pinTo hx _, hm, by show c.s.steps ≤ _; omega, by show c.o.turn ≤ _; omega, rfl, rfl, by unfold CP.unpin; simp, rfl, by show c.s.steps ≤ _; omega⟩, p1, p2, rfl, p4, p5, .inr ⟨rfl, by rw [hpin]; exact h0, fun a => ?_⟩⟩
    show pinsOf (c.fs.set i ({ x.1 with pins := x.1.pins - 1 }, x.2)) a = _
    rw [p3]
    by_cases ha : a = n
    · rw [if_pos ha, if_pos ha, ha, hpin]
    · rw [if_neg ha, if_neg ha]

set_option maxRecDepth 100000 in
theorem cleanAll_steps : ∀ (ns : List Int) (c : CP), Fine c X q → Shape c.fs c.o.count → (c.cleanAll ns).1.s.steps ≤ c.s.steps + ns.length * 4098 ∧ (c.cleanAll ns).1.o.turn = c.o.turn ∧ (c.cleanAll ns).1.o.base = c.o.base ∧ (c.cleanAll ns).1.o.count = c.o.count ∧ (c.cleanAll ns).1.fs.length = c.fs.length
  | [], c, _, _ => ⟨by simp [CP.cleanAll], rfl, rfl, rfl, rfl⟩
  | n :: r, c, h, hs => by
    have hl : (n :: r).length * 4098 = r.length * 4098 + 4098 := by rw [List.length_cons]; omega
    rw [hl]
    unfold CP.cleanAll
    cases hi : idx c.fs n with
    | none =>
      dsimp only
      obtain ⟨a1, a2, a3, a4, a5⟩ := cleanAll_steps r c h hs
      exact ⟨by omega, a2, a3, a4, a5⟩
    | some i =>
      dsimp only
      obtain ⟨x, hx, -⟩ := idx_some hi
      have h1 := clean_stepsM h.log.ok i
      obtain ⟨k1, k2, k3, k4, -⟩ := clean_keeps c i
      split
      · rename_i h0
        rcases h.clean hs hx with ⟨-, h2, -, -⟩ | ⟨hb, -⟩
        · obtain ⟨a1, a2, a3, a4, a5⟩ := cleanAll_steps r _ h2 (hs.clean i)
          exact ⟨by omega, a2.trans k3, a3.trans k1, a4.trans k2, a5.trans k4⟩
        · exact absurd h0 hb
      · exact ⟨by omega, k3, k1, k2, k4⟩

theorem cleanAll_len : ∀ (ns : List Int) (c : CP), (c.cleanAll ns).1.s.safe.length = c.s.safe.length
  | [], _ => rfl
  | n :: r, c => by
    unfold CP.cleanAll
    cases hi : idx c.fs n with
    | none => exact cleanAll_len r c
    | some i =>
      dsimp only
      split
      · exact (cleanAll_len r _).trans (clean_len c i)
      · exact clean_len c i

theorem flush_lenC (c : CP) : c.flush.1.s.safe.length = c.s.safe.length := by
  have h := cleanAll_len (numsOf c.fs) c
  unfold CP.flush
  split
  · rfl
  · split
    · unfold CP.syncC
      split
      · exact h
      · split
        · exact (len_sync _).trans h
        · exact (len_sync _).trans h
    · exact h

theorem cleanAll_stepsN : ∀ (ns : List Int) (c : CP), Fine c X q → Shape c.fs c.o.count → (c.cleanAll ns).1.s.steps ≤ c.s.steps + ns.length * (c.m.count + 2)
  | [], c, _, _ => by simp [CP.cleanAll]
  | n :: r, c, h, hs => by
    have hl : (n :: r).length * (c.m.count + 2) = r.length * (c.m.count + 2) + (c.m.count + 2) := by rw [List.length_cons, Nat.succ_mul]
    rw [hl]
    unfold CP.cleanAll
    cases hi : idx c.fs n with
    | none =>
      dsimp only
      have := cleanAll_stepsN r c h hs
      omega
    | some i =>
      dsimp only
      obtain ⟨x, hx, -⟩ := idx_some hi
      have h1 := clean_stepsN h.log.ok i
      split
      · rename_i h0
        rcases h.clean hs hx with ⟨-, h2, h3, -⟩ | ⟨hb, -⟩
        · have h4 := cleanAll_stepsN r _ h2 (hs.clean i)
          have h5 : (c.clean i).1.m.count = c.m.count := by rw [h3.log.1]
          rw [h5] at h4
          omega
        · exact absurd h0 hb
      · omega

theorem sync_stepsC (s : DS) : s.sync.steps ≤ s.steps + 1 := by
  unfold DS.sync
  split
  · omega
  · rw [step_stepsW s _ rfl]; exact Nat.le_refl _

set_option maxRecDepth 100000 in
theorem Flush_live (h : Live w I Q c X q was) (hst : c.s.steps < 900000000000000) :
    Calls Tryz.prog 25 #[.pointer (some ⟨I.q, 0, none⟩)] w fun e w' => ∃ k c', e = .returned (.int .i64 k) ∧ Behind w w' I Q c c' was ∧
      ((k = 0 ∧ Fine c' X q ∧ Kept c c' ∧ (∀ n, dirtOf c'.fs n = none) ∧ ∀ n : Nat, n < c.o.count → c'.s.pend ((c.o.base + n : Nat) : Int) = none) ∨ (k ≠ 0 ∧ Hit c'.s X q ∧ c'.o.dead = true)) := by
  refine (Flush_pool h.at_ (by omega)).mono ?_
  rintro e w' ⟨rfl, hp, hm⟩
  have hst2 : c.flush.1.s.steps ≤ c.s.steps + 300000 ∧ c.flush.1.o.turn = c.o.turn ∧ c.flush.1.o.base = c.o.base ∧ c.flush.1.o.count = c.o.count ∧ c.flush.1.fs.length = c.fs.length := by
    have hl : (numsOf c.fs).length ≤ 64 := by rw [(numsOf_perm c.fs).length_eq]; have := keys_len c.fs; have := h.at_.num; have := h.at_.nf; omega
    obtain ⟨a1, a2, a3, a4, a5⟩ := cleanAll_steps (numsOf c.fs) c h.fine h.sh
    have hmul : (numsOf c.fs).length * 4098 ≤ 64 * 4098 := Nat.mul_le_mul_right _ hl
    unfold CP.flush
    split
    · exact ⟨by dsimp only; omega, rfl, rfl, rfl, rfl⟩
    · split
      · unfold CP.syncC
        split
        · exact ⟨by dsimp only; omega, a2, a3, a4, a5⟩
        · have := sync_stepsC (c.cleanAll (numsOf c.fs)).1.s
          split
          · exact ⟨by dsimp only; omega, a2, a3, a4, a5⟩
          · exact ⟨by dsimp only; omega, a2, a3, a4, a5⟩
      · exact ⟨by omega, a2, a3, a4, a5⟩
  have hst3 : c.flush.1.s.steps ≤ c.s.steps + 64 * (c.m.count + 2) + 1 := by
    have hl : (numsOf c.fs).length ≤ 64 := by rw [(numsOf_perm c.fs).length_eq]; have := keys_len c.fs; have := h.at_.num; have := h.at_.nf; omega
    have a1 := cleanAll_stepsN (numsOf c.fs) c h.fine h.sh
    have hmul : (numsOf c.fs).length * (c.m.count + 2) ≤ 64 * (c.m.count + 2) := Nat.mul_le_mul_right _ hl
    unfold CP.flush
    split
    · dsimp only; omega
    · split
      · unfold CP.syncC
        split
        · dsimp only; omega
        · have := sync_stepsC (c.cleanAll (numsOf c.fs)).1.s
          split
          · dsimp only; omega
          · dsimp only; omega
      · omega
  refine ⟨c.flush.2, c.flush.1, rfl, ⟨hp, h.late.flush h.fine h.sh, hm, hst2.1, by omega, hst2.2.2.1, hst2.2.2.2.1, hst2.2.2.2.2, flush_lenC c, hst3⟩, ?_⟩
  exact h.fine.flush h.sh

/-- An append of the log beside a pool that lives. -/
theorem App_live (h : Live w I Q c X q was) (hcnt : c.m.count ≤ 1000) (v : Value) (l : List Nat) (hv : RB w w.heap.size v l) (hl : l.length ≤ 1200) :
    Calls Tryz.prog 20 #[.pointer (some ⟨I.g, 0, none⟩), .int .i64 1, v] w fun e w' => ∃ sv' bv', Live w' { I with sv := sv', bv := bv' } Q (c.app 1 l) X q was ∧
      e = .returned (.tuple #[.int .i64 ((c.m.append 1 l).2.1 : Int), .int .i64 (c.m.append 1 l).2.2]) ∧ Mod (OwnL I.g I.sv I.bv) w w' ∧ ∀ k, PI.Core { I with sv := sv', bv := bv' } k → I.Core k ∨ w.heap.size ≤ k := by
  refine (Append_own w I.p I.sb I.mb I.g I.B I.pl c.s I.sv I.bv c.m h.at_.wal hcnt 1 v l hv).mono ?_
  rintro e w' ⟨rfl, ⟨sv', bv', hw, hown⟩, hm⟩
  have hat : PoolAt w' { I with pl := I.pl, sv := sv', bv := bv' } Q (c.app 1 l) := h.at_.moved hm (fun k _ e => .inr (.inl e)) hw hown (fun k e => .inl e)
  refine ⟨sv', bv', ⟨hat, (h.fine.app l hv.1 hl).1, h.late.app h.fine l hv.1 hl⟩, rfl, hm, ?_⟩
  rintro k (e | e | e)
  · exact .inl (.inl e)
  · rcases hown k e with e | e
    · exact .inl (.inr (.inl e))
    · exact .inr e
  · exact .inl (.inr (.inr e))
end
end Go.Proofs.YtbagmmncjmbboaaGreat

/-
  Plain facts for the document's example: a pool of one frame. No walk.
-/
namespace Go.Proofs.YtbagmmncjmbboaaGreat
open Go.RowKit Go.Maps
set_option linter.unusedVariables false

section

variable {c c' : CP} {X : Nat} {q : Int}

theorem pageOf_blank : PageOf sec0 (PG.new 0 0) := .inl ⟨rfl, rfl⟩

/-- Where no step is refused, a page that is there comes into a frame that is free. -/
theorem no_miss {n k : Int} (h : Miss c X 0 n k c') (h1 : 0 ≤ n ∧ n < c.o.count) (h2 : (idx c.fs n).isSome = true ∨ Free c) (h3 : (idx c.fs n).isSome = true ∨ ∃ pg, PageOf (c.look n.toNat) pg) : False := by
  rcases h with ⟨-, -, h⟩ | ⟨N, rfl, h4, h5, h6⟩ | ⟨-, ⟨h, -⟩, -⟩
  · exact h h1
  · have e : (idx c.fs (N : Int)).isSome = false := by rw [h5]; rfl
    rcases h6 with ⟨-, -, h7⟩ | ⟨-, -, -, -, h7⟩
    · rcases h2 with h2 | h2
      · rw [e] at h2; cases h2
      · exact h7 h2
    · rcases h3 with h3 | ⟨pg, h3⟩
      · rw [e] at h3; cases h3
      · exact h7 pg (by simpa using h3)
  · exact h rfl

/-- Nothing is pinned: a frame is free. -/
theorem free_of_pins (hs : Shape c.fs c.o.count) (hl : 1 ≤ c.fs.length) (hp : ∀ a, pinsOf c.fs a = 0) : Free c := by
  obtain ⟨x, hx⟩ : ∃ x, c.fs[0]? = some x := ⟨_, List.getElem?_eq_getElem (by omega)⟩
  refine ⟨0, x, hx, ?_⟩
  cases hpg : x.1.page with
  | none => exact (hs.idle 0 x hx hpg).1
  | some pg =>
    have hat : isAt x.1.num x = true := isAt_yes.2 ⟨by rw [hpg]; rfl, rfl⟩
    have := hp x.1.num
    unfold pinsOf at this
    rw [fr_of hs.uniq hx hat] at this
    exact this

theorem single {fs : List (Fr × FrM)} (hl : fs.length = 1) {n m : Int} (h : (idx fs n).isSome = true) (hne : m ≠ n) : idx fs m = none := by
  obtain ⟨i, hi⟩ := Option.isSome_iff_exists.1 h
  obtain ⟨x, hx, hat⟩ := idx_some hi
  cases hm : idx fs m with
  | none => rfl
  | some j =>
    obtain ⟨y, hy, hat2⟩ := idx_some hm
    have h1 := (List.getElem?_eq_some_iff.1 hx).1
    have h2 := (List.getElem?_eq_some_iff.1 hy).1
    have : i = j := by omega
    subst this
    rw [hx] at hy
    injection hy with hy
    subst hy
    exact absurd ((isAt_yes.1 hat2).2.symm.trans (isAt_yes.1 hat).2) hne

theorem single_nums {fs : List (Fr × FrM)} (hu : Uniq fs) (hl : fs.length = 1) {n : Int} (h : (idx fs n).isSome = true) : numsOf fs = [n] ∧ (keysOf fs).length = 1 := by
  have h1 := keys_len fs
  have h2 := (numsOf_perm fs).length_eq
  have h3 : n ∈ numsOf fs := mem_numsOf.2 h
  cases hns : numsOf fs with
  | nil => rw [hns] at h3; cases h3
  | cons a r =>
    rw [hns] at h2 h3
    rw [List.length_cons] at h2
    have hr : r = [] := List.eq_nil_of_length_eq_zero (by omega)
    subst hr
    rw [List.mem_singleton] at h3
    subst h3
    exact ⟨rfl, by rw [← h2]; rfl⟩

/-- The only frame is pinned. -/
theorem single_pinned (hs : Shape c.fs c.o.count) (hl : c.fs.length = 1) {n : Int} (h : (idx c.fs n).isSome = true) (hp : pinsOf c.fs n ≠ 0) : ¬ Free c := by
  rintro ⟨j, y, hy, h0⟩
  obtain ⟨i, hi⟩ := Option.isSome_iff_exists.1 h
  obtain ⟨x, hx, hat⟩ := idx_some hi
  have h1 := (List.getElem?_eq_some_iff.1 hx).1
  have h2 := (List.getElem?_eq_some_iff.1 hy).1
  have : i = j := by omega
  subst this
  rw [hx] at hy
  injection hy with hy
  subst hy
  unfold pinsOf at hp
  rw [fr_of hs.uniq hx hat] at hp
  exact hp h0

/-- A page that lies on the disk, and isn't as it was, is behind the log. -/
theorem Late.behind {was : Nat → List Nat} (h : Late c was) {n : Nat} (hn : n < c.o.count) (hlen : c.o.base + c.o.count ≤ c.s.safe.length) {pg : PG} (hg : PgGood pg) (hb : c.s.has (c.o.base + n) = pageL pg) (hne : was (c.o.base + n) ≠ pageL pg) : pg.lsn < ((c.m.lsn c.m.safe : Nat) : Int) := by
  rcases (h.sec (c.o.base + n) (by omega)).2 (by omega) (by omega) with e | ⟨pg2, hg2, e, hl⟩
  · exact absurd (e.symm.trans hb) hne
  · have h1 := hg.pageOf
    have h2 := hg2.pageOf
    rw [← e, hb] at h2
    rw [pageOf_unique h1 h2]; exact hl

/-- A log that has room takes the record. -/
theorem Fine.app_ok (h : Fine c X q) (body : List Nat) (hl : body.length ≤ 100) (hr : c.m.st.length + 200 ≤ c.m.count * 498) : (c.m.append 1 body).2.2 = 0 ∧ (c.m.append 1 body).2.1 = c.m.lsn c.m.st.length := by
  have h1 : (putL body.length).length ≤ 10 := putL_1200 (by omega)
  have e := append_yes (kind := 1) (body := body) h.log.dead h.log.fresh (by omega) (by omega) (by rw [recL_len]; unfold LG.room; omega)
  rw [e]
  exact ⟨rfl, rfl⟩
end
end Go.Proofs.YtbagmmncjmbboaaGreat
