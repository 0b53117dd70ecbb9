/-
  A pool on a disk of which at most one step is refused, in plain words: what clean leaves of what it tells. No walk.
-/
import Derived.Test.YtbagmmncjmbboaaGreatZCA15
namespace Go.Proofs.YtbagmmncjmbboaaGreat
open Go.RowKit Go.Maps
set_option linter.unusedVariables false

/-- What is so of the frames at any time. -/
structure Shape (fs : List (Fr × FrM)) (count : Nat) : Prop where
  uniq : Uniq fs
  rng : ∀ (i : Nat) x, fs[i]? = some x → x.1.page.isSome = true → 0 ≤ x.1.num ∧ x.1.num < count
  idle : ∀ (i : Nat) x, fs[i]? = some x → x.1.page = none → x.1.pins = 0 ∧ x.1.dirty = false
  good : ∀ (i : Nat) x pg, fs[i]? = some x → x.1.page = some pg → PgGood pg

theorem PoolAt.shape {w : World} {I : PI} {Q : Nat → Prop} {c : CP} (h : PoolAt w I Q c) : Shape c.fs c.o.count := ⟨h.uniq, h.rng, h.idle, fun i x pg hx hp => (h.page i x pg hx hp).good⟩

/-- A pool that lives. -/
structure Fine (c : CP) (X : Nat) (q : Int) : Prop where
  calm : Calm c.s X q
  dead : c.o.dead = false
  log : LogFit c.s c.m
  lay : c.m.first + c.m.count ≤ c.o.base
  len : c.o.base + c.o.count ≤ c.s.safe.length
  same : ∀ (i : Nat) x pg, c.fs[i]? = some x → x.1.page = some pg → x.1.dirty = false → PageOf (c.s.has (c.o.base + x.1.num.toNat)) pg
  sync : c.o.uns = false → ∀ n : Nat, n < c.o.count → c.s.pend ((c.o.base + n : Nat) : Int) = none

/-- The bytes of page n, as the pool tells them. -/
def lookF (fs : List (Fr × FrM)) (has : List Nat) (n : Nat) : List Nat := match fr fs (n : Int) with
  | some x => if x.dirty = true then (match x.page with | some pg => pageL pg | none => []) else has
  | none => has

def CP.look (c : CP) (n : Nat) : List Nat := lookF c.fs (c.s.has (c.o.base + n)) n

/-- What a call may leave of what a pool tells: all, but that a page may no longer be dirty. -/
structure Kept (c c' : CP) : Prop where
  base : c'.o.base = c.o.base
  count : c'.o.count = c.o.count
  nf : c'.fs.length = c.fs.length
  look : ∀ n, n < c.o.count → c'.look n = c.look n
  pins : ∀ n : Int, pinsOf c'.fs n = pinsOf c.fs n
  dirt : ∀ n : Int, dirtOf c'.fs n = dirtOf c.fs n ∨ dirtOf c'.fs n = none
  log : c'.m = { c.m with safe := c'.m.safe } ∧ c.m.safe ≤ c'.m.safe
  len : c'.s.safe.length = c.s.safe.length

theorem Kept.refl (c : CP) : Kept c c := ⟨rfl, rfl, rfl, fun _ _ => rfl, fun _ => rfl, fun _ => .inl rfl, ⟨rfl, Nat.le_refl _⟩, rfl⟩

theorem Kept.trans {a b c : CP} (h : Kept a b) (h' : Kept b c) : Kept a c :=
  ⟨h'.base.trans h.base, h'.count.trans h.count, h'.nf.trans h.nf, fun n hn => (h'.look n (by rw [h.count]; exact hn)).trans (h.look n hn), fun n => (h'.pins n).trans (h.pins n),
   fun n => by
    rcases h'.dirt n with e | e
    · rw [e]; exact h.dirt n
    · exact .inr e,
   ⟨h'.log.1.trans (by rw [h.log.1]), Nat.le_trans h.log.2 h'.log.2⟩, h'.len.trans h.len⟩

section

variable {s : DS} {X : Nat} {q : Int} {m : LG}

/-- The log's flush that clean asks for. -/
structure FlushPOk (s : DS) (m : LG) (pg : PG) (X : Nat) (q : Int) (s' : DS) (m' : LG) : Prop where
  log : m' = { m with safe := m'.safe } ∧ m.safe ≤ m'.safe ∧ m'.safe ≤ m.st.length
  calm : Calm s' X q
  len : s'.safe.length = s.safe.length
  has : ∀ i : Nat, i < s.safe.length → m.first + m.count ≤ i → s'.has i = s.has i
  late : pg.lsn < (m.lsn m.st.length : Int) → pg.lsn < (m'.lsn m'.safe : Int)

theorem Calm.flushP (h : Calm s X q) (hl : LogFit s m) (pg : PG) : ∃ s' m' k, Proofs.YtbagmmncjmbboaaGreat.flushP pg s m = (s', m', k) ∧ ((k = 0 ∧ FlushPOk s m pg X q s' m') ∨ (k ≠ 0 ∧ Hit s' X q ∧ m'.st = m.st)) := by
  unfold Proofs.YtbagmmncjmbboaaGreat.flushP
  by_cases hc : (m.lsn m.safe : Int) ≤ pg.lsn
  · rw [if_pos hc]
    refine ⟨(m.flush s).1, (m.flush s).2.1, (m.flush s).2.2, rfl, ?_⟩
    rcases h.flush hl with ⟨hk, hf⟩ | ⟨hk, hh⟩
    · refine .inl ⟨hk, ?_, hf.calm, hf.len, hf.has, ?_⟩
      · rw [hf.log]; exact ⟨rfl, hl.ok.safe, Nat.le_refl _⟩
      · rw [hf.log]; exact fun e => e
    · refine .inr ⟨hk, hh, ?_⟩
      unfold LG.flush
      split
      · rfl
      · split
        · rfl
        · split <;> rfl
  · rw [if_neg hc]
    exact ⟨s, m, 0, rfl, .inl ⟨rfl, ⟨rfl, Nat.le_refl _, hl.ok.safe⟩, h, rfl, fun _ _ _ => rfl, fun _ => by omega⟩⟩

theorem LogFit.safe_ {s' : DS} {m' : LG} (h : LogFit s m) (hm : m' = { m with safe := m'.safe }) (hs : m'.safe ≤ m.st.length) (hl : s'.safe.length = s.safe.length) : LogFit s' m' := by
  have e1 : m'.first = m.first := by rw [hm]
  have e2 : m'.count = m.count := by rw [hm]
  have e3 : m'.st = m.st := by rw [hm]
  refine ⟨⟨?_, ?_, ?_, ?_, ?_, ?_⟩, ?_, ?_, ?_, ?_⟩
  · rw [e1]; exact h.ok.first
  · rw [e2]; exact h.ok.count
  · rw [show m'.run = m.run by rw [hm], show m'.most = m.most by rw [hm]]; exact h.ok.run
  · rw [e2, e3]; exact h.ok.st
  · rw [e3]; exact hs
  · rw [e3, show m'.begs = m.begs by rw [hm]]; exact h.ok.begs
  · rw [show m'.dead = m.dead by rw [hm]]; exact h.dead
  · rw [show m'.fresh = m.fresh by rw [hm]]; exact h.fresh
  · rw [e3]; exact h.byte
  · rw [e1, e2, hl]; exact h.fit
end

section

variable {c : CP} {X : Nat} {q : Int}

theorem Shape.clean (h : Shape c.fs c.o.count) (i : Nat) : Shape (c.clean i).1.fs (c.clean i).1.o.count := by
  obtain ⟨-, hc, -, -, hk⟩ := clean_keeps c i
  rw [hc]
  have hp : ∀ (j : Nat) y, (c.clean i).1.fs[j]? = some y → ∃ z, c.fs[j]? = some z ∧ y.1.num = z.1.num ∧ y.1.page = z.1.page ∧ y.1.pins = z.1.pins ∧ (y.1.dirty = z.1.dirty ∨ y.1.dirty = false) := by
    intro j y hy
    obtain ⟨z, hz, rfl | ⟨-, -, rfl⟩⟩ := hk j y hy
    · exact ⟨_, hz, rfl, rfl, rfl, .inl rfl⟩
    · exact ⟨z, hz, rfl, rfl, rfl, .inr rfl⟩
  refine ⟨?_, ?_, ?_, ?_⟩
  · intro a b x y hx hy h1 h2 h3
    obtain ⟨x', hx', e1, e2, -⟩ := hp a x hx
    obtain ⟨y', hy', e3, e4, -⟩ := hp b y hy
    exact h.uniq a b x' y' hx' hy' (by rw [← e2]; exact h1) (by rw [← e4]; exact h2) (by rw [← e1, ← e3]; exact h3)
  · intro a x hx h1
    obtain ⟨x', hx', e1, e2, -⟩ := hp a x hx
    rw [e1]; exact h.rng a x' hx' (by rw [← e2]; exact h1)
  · intro a x hx h1
    obtain ⟨x', hx', e1, e2, e3, e4⟩ := hp a x hx
    have := h.idle a x' hx' (by rw [← e2]; exact h1)
    refine ⟨by rw [e3]; exact this.1, ?_⟩
    rcases e4 with e | e
    · rw [e]; exact this.2
    · exact e
  · intro a x pg hx h1
    obtain ⟨x', hx', e1, e2, -⟩ := hp a x hx
    exact h.good a x' pg hx' (by rw [← e2]; exact h1)

/-- Clean: the page is on the disk, what the pool tells is as it was; or a step was refused, and the pool is dead. -/
theorem Fine.clean (h : Fine c X q) (hs : Shape c.fs c.o.count) {i : Nat} {x : Fr × FrM} (hx : c.fs[i]? = some x) :
    ((c.clean i).2 = 0 ∧ Fine (c.clean i).1 X q ∧ Kept c (c.clean i).1 ∧ (c.clean i).1.fs[i]? = some ({ x.1 with dirty := false }, x.2)) ∨ ((c.clean i).2 ≠ 0 ∧ Hit (c.clean i).1.s X q ∧ (c.clean i).1.o.dead = true) := by
  cases hd : x.1.dirty with
  | false =>
    rw [clean_not hx hd]
    refine .inl ⟨rfl, h, Kept.refl c, ?_⟩
    dsimp only
    rw [hx, ← hd]
  | true =>
    cases hp : x.1.page with
    | none => have := (hs.idle i x hx hp).2; rw [hd] at this; cases this
    | some pg =>
      have hr := hs.rng i x hx (by rw [hp]; rfl)
      obtain ⟨n, hn⟩ : ∃ n : Nat, x.1.num = (n : Int) := ⟨x.1.num.toNat, by omega⟩
      have hg := hs.good i x pg hx hp
      have hlen := h.len
      have hlay := h.lay
      have hi := (List.getElem?_eq_some_iff.1 hx).1
      rw [clean_yes hx hp hd]
      obtain ⟨s1, m1, k1, he, hf⟩ := h.calm.flushP h.log pg
      have eat : (c.o.base : Int) + x.1.num = ((c.o.base + n : Nat) : Int) := by rw [hn]; omega
      rw [eat]
      rcases hf with ⟨rfl, hf⟩ | ⟨hk, hh, -⟩
      · have hcp : cleanP ((c.o.base + n : Nat) : Int) pg c.s c.m = (s1.write ((c.o.base + n : Nat) : Int) (pageL pg), m1, s1.writeE ((c.o.base + n : Nat) : Int) (pageL pg)) := by unfold cleanP; rw [he, if_pos rfl]
        rw [hcp]
        dsimp only
        rcases hf.calm.write (i := c.o.base + n) (l := pageL pg) (by rw [hf.len]; omega) (pageL_len hg.fit) with ⟨hw, hs2, hc2⟩ | ⟨hw, hh⟩
        · rw [hw]
          have hhas : ∀ k : Nat, c.o.base ≤ k → k < c.s.safe.length → (s1.write ((c.o.base + n : Nat) : Int) (pageL pg)).has k = if k = c.o.base + n then pageL pg else c.s.has k := by
            intro k h1 h2
            rw [hs2, has_put]
            by_cases hk : k = c.o.base + n
            · rw [if_pos (by omega), if_pos hk]
            · rw [if_neg (by omega), if_neg hk]
              exact hf.has k h2 (by omega)
          have hfa : framesAfter c.fs i x 0 = c.fs.set i ({ x.1 with dirty := false }, x.2) := by unfold framesAfter; rw [if_pos rfl]
          have ho : c.o.after 0 = { c.o with uns := true } := by unfold PO.after; rw [if_pos rfl]
          rw [hfa, ho]
          have hu2 : Uniq (c.fs.set i ({ x.1 with dirty := false }, x.2)) := hs.uniq.same hx (fun e => e) rfl
          have hfr : ∀ a : Int, fr (c.fs.set i ({ x.1 with dirty := false }, x.2)) a = if isAt a x = true then some { x.1 with dirty := false } else fr c.fs a := by
            intro a
            rw [fr_set hs.uniq hx hu2]
            have e : isAt a (({ x.1 with dirty := false }, x.2) : Fr × FrM) = isAt a x := rfl
            rw [e]
            by_cases h1 : isAt a x = true
            · rw [if_pos h1, if_pos h1]
            · rw [if_neg h1, if_neg h1, if_neg h1]
          have hln : (s1.write ((c.o.base + n : Nat) : Int) (pageL pg)).safe.length = c.s.safe.length := by rw [len_write, hf.len]
          refine .inl ⟨rfl, ⟨hc2, h.dead, h.log.safe_ hf.log.1 hf.log.2.2 hln, ?_, by rw [hln]; exact hlen, ?_, fun e => by cases e⟩, ⟨rfl, rfl, by simp, ?_, ?_, ?_, ⟨hf.log.1, hf.log.2.1⟩, hln⟩, set_self hx⟩
          · show m1.first + m1.count ≤ c.o.base
            rw [hf.log.1]; exact hlay
          · intro j y pg' hy hyp hyd
            rcases set_at hx hy with ⟨rfl, rfl⟩ | ⟨hj, hy⟩
            · have e : pg' = pg := by
                have : x.1.page = some pg' := hyp
                rw [hp] at this
                injection this with this
                exact this.symm
              subst e
              show PageOf ((s1.write ((c.o.base + n : Nat) : Int) (pageL pg')).has (c.o.base + x.1.num.toNat)) pg'
              rw [hhas _ (by omega) (by omega), if_pos (by omega)]
              exact hg.pageOf
            · have hyr := hs.rng j y hy (by rw [hyp]; rfl)
              have hne : y.1.num ≠ x.1.num := fun e => hj (hs.uniq j i y x hy hx (by rw [hyp]; rfl) (by rw [hp]; rfl) e)
              show PageOf ((s1.write ((c.o.base + n : Nat) : Int) (pageL pg)).has (c.o.base + y.1.num.toNat)) pg'
              rw [hhas _ (by omega) (by omega), if_neg (by omega)]
              exact h.same j y pg' hy hyp hyd
          · intro a ha
            show lookF _ ((s1.write ((c.o.base + n : Nat) : Int) (pageL pg)).has (c.o.base + a)) a = lookF _ (c.s.has (c.o.base + a)) a
            rw [hhas _ (by omega) (by omega)]
            unfold lookF
            rw [hfr]
            by_cases h1 : isAt (a : Int) x = true
            · have h2 := isAt_yes.1 h1
              rw [if_pos h1, fr_of hs.uniq hx h1]
              dsimp only
              rw [hd, hp, if_pos rfl, if_neg (by simp), if_pos (by omega)]
            · have hne : (a : Int) ≠ x.1.num := fun e => h1 (isAt_yes.2 ⟨by rw [hp]; rfl, e.symm⟩)
              rw [if_neg h1, if_neg (by omega)]
          · intro a
            show pinsOf (c.fs.set i ({ x.1 with dirty := false }, x.2)) a = pinsOf c.fs a
            unfold pinsOf
            rw [hfr]
            by_cases h1 : isAt a x = true
            · rw [if_pos h1, fr_of hs.uniq hx h1]; rfl
            · rw [if_neg h1]
          · intro a
            show dirtOf (c.fs.set i ({ x.1 with dirty := false }, x.2)) a = dirtOf c.fs a ∨ dirtOf (c.fs.set i ({ x.1 with dirty := false }, x.2)) a = none
            unfold dirtOf
            rw [hfr]
            by_cases h1 : isAt a x = true
            · rw [if_pos h1]; exact .inr rfl
            · rw [if_neg h1]; exact .inl rfl
        · refine .inr ⟨hw, hh, ?_⟩
          show (c.o.after _).dead = true
          unfold PO.after; rw [if_neg hw]
      · have hcp : cleanP ((c.o.base + n : Nat) : Int) pg c.s c.m = (s1, m1, k1) := by unfold cleanP; rw [he, if_neg hk]
        rw [hcp]
        refine .inr ⟨hk, hh, ?_⟩
        show (c.o.after _).dead = true
        unfold PO.after; rw [if_neg hk]
end
end Go.Proofs.YtbagmmncjmbboaaGreat

/-
  A pool's calls in plain words: what each leaves of what the pool tells. No walk.
-/
namespace Go.Proofs.YtbagmmncjmbboaaGreat
open Go.RowKit Go.Maps
set_option linter.unusedVariables false

/-- Another frame in its place that holds the same page. -/
theorem fr_same {fs : List (Fr × FrM)} (hu : Uniq fs) {i : Nat} {x y : Fr × FrM} (hx : fs[i]? = some x) (hp : y.1.page.isSome = x.1.page.isSome) (hn : y.1.num = x.1.num) (a : Int) : fr (fs.set i y) a = if isAt a x = true then some y.1 else fr fs a := by
  have hu2 : Uniq (fs.set i y) := hu.same hx (fun e => by rw [← hp]; exact e) hn
  rw [fr_set hu hx hu2]
  have e : isAt a y = isAt a x := by unfold isAt; rw [hp, hn]
  rw [e]
  by_cases h1 : isAt a x = true
  · rw [if_pos h1, if_pos h1]
  · rw [if_neg h1, if_neg h1, if_neg h1]

theorem oldest_succ (fs : List (Fr × FrM)) {k : Nat} {y : Fr × FrM} (hk : fs[k]? = some y) : ∃ b : Bool, oldest fs (k + 1) = (if b = true then some k else oldest fs k) ∧ (b = true → y.1.pins = 0) ∧ (b = false → y.1.pins = 0 → oldest fs k ≠ none) := by
  refine ⟨_, by conv => lhs; unfold oldest
                rw [hk], ?_, ?_⟩
  · intro h
    have := (Bool.and_eq_true _ _).mp h
    simpa using this.1
  · intro h h0 hn
    rw [hn] at h
    simp [h0] at h

theorem oldest_none (fs : List (Fr × FrM)) : ∀ k, oldest fs k = none → ∀ (j : Nat) x, j < k → fs[j]? = some x → x.1.pins ≠ 0
  | 0, _, j, x, hj, _ => by omega
  | k + 1, h, j, x, hj, hx => by
    cases hk : fs[k]? with
    | none =>
      unfold oldest at h
      rw [hk] at h
      have h1 := (List.getElem?_eq_none_iff.1 hk)
      have h2 := (List.getElem?_eq_some_iff.1 hx).1
      exact oldest_none fs k h j x (by omega) hx
    | some y =>
      obtain ⟨b, h1, h2, h3⟩ := oldest_succ fs hk
      rw [h1] at h
      cases b with
      | true => cases h
      | false =>
        have h4 : oldest fs k = none := h
        by_cases hj2 : j = k
        · subst hj2
          rw [hx] at hk
          injection hk with hk
          subst hk
          exact fun h0 => h3 rfl h0 h4
        · exact oldest_none fs k h4 j x (by omega) hx

theorem oldest_free (fs : List (Fr × FrM)) : ∀ k i, oldest fs k = some i → ∃ x, fs[i]? = some x ∧ x.1.pins = 0
  | 0, _, h => by cases h
  | k + 1, i, h => by
    cases hk : fs[k]? with
    | none =>
      unfold oldest at h
      rw [hk] at h
      exact oldest_free fs k i h
    | some y =>
      obtain ⟨b, h1, h2, h3⟩ := oldest_succ fs hk
      rw [h1] at h
      cases b with
      | true =>
        injection h with h
        subst h
        exact ⟨y, hk, h2 rfl⟩
      | false => exact oldest_free fs k i h

section

variable {c : CP} {X : Nat} {q : Int}

/-- All clean that is asked for. -/
theorem Fine.cleanAll : ∀ (ns : List Int) (c : CP), Fine c X q → Shape c.fs c.o.count →
    ((c.cleanAll ns).2 = 0 ∧ Fine (c.cleanAll ns).1 X q ∧ Shape (c.cleanAll ns).1.fs (c.cleanAll ns).1.o.count ∧ Kept c (c.cleanAll ns).1 ∧ (∀ n ∈ ns, dirtOf (c.cleanAll ns).1.fs n = none)) ∨
    ((c.cleanAll ns).2 ≠ 0 ∧ Hit (c.cleanAll ns).1.s X q ∧ (c.cleanAll ns).1.o.dead = true)
  | [], c, h, hs => .inl ⟨rfl, h, hs, Kept.refl c, by simp⟩
  | n :: r, c, h, hs => by
    unfold CP.cleanAll
    cases hi : idx c.fs n with
    | none =>
      dsimp only
      rcases Fine.cleanAll r c h hs with ⟨h1, h2, h3, h4, h5⟩ | hb
      · refine .inl ⟨h1, h2, h3, h4, fun a ha => ?_⟩
        rcases List.mem_cons.1 ha with rfl | ha
        · have hd : dirtOf c.fs a = none := by unfold dirtOf; rw [fr_none.2 hi]; rfl
          rcases h4.dirt a with e | e
          · rw [e]; exact hd
          · exact e
        · exact h5 a ha
      · exact .inr hb
    | some i =>
      dsimp only
      obtain ⟨x, hx, hat⟩ := idx_some hi
      rcases h.clean hs hx with ⟨h0, h1, h2, h3⟩ | ⟨h0, hb⟩
      · rw [if_pos h0]
        have hs1 := hs.clean i
        rcases Fine.cleanAll r (c.clean i).1 h1 hs1 with ⟨k1, k2, k3, k4, k5⟩ | hb
        · refine .inl ⟨k1, k2, k3, h2.trans k4, fun a ha => ?_⟩
          rcases List.mem_cons.1 ha with rfl | ha
          · have hd : dirtOf (c.clean i).1.fs a = none := by
              unfold dirtOf
              rw [fr_of hs1.uniq h3 (by exact hat)]
              rfl
            rcases k4.dirt a with e | e
            · rw [e]; exact hd
            · exact e
          · exact k5 a ha
        · exact .inr hb
      · rw [if_neg h0]
        exact .inr ⟨h0, hb⟩

theorem Fine.sync_ (h : Fine c X q) (hsh : Shape c.fs c.o.count) : (c.syncC.2 = 0 ∧ Fine c.syncC.1 X q ∧ Kept c c.syncC.1 ∧ c.syncC.1.fs = c.fs ∧ c.syncC.1.o.count = c.o.count ∧ ∀ n : Nat, n < c.o.count → c.syncC.1.s.pend ((c.syncC.1.o.base + n : Nat) : Int) = none) ∨ (c.syncC.2 ≠ 0 ∧ Hit c.syncC.1.s X q ∧ c.syncC.1.o.dead = true) := by
  have hlen := h.len
  unfold CP.syncC
  cases hu : c.o.uns with
  | false => exact .inl ⟨rfl, h, Kept.refl c, rfl, rfl, fun n hn => h.sync hu n hn⟩
  | true =>
    rw [if_neg (by simp)]
    rcases h.calm.sync with ⟨h0, hs, hc⟩ | ⟨h0, hh⟩
    · rw [if_pos h0]
      have hhas : ∀ k : Nat, k < c.s.safe.length → c.s.sync.has k = c.s.has k := fun k hk => by rw [hs]; exact has_settle c.s.tick k hk
      have hln := len_sync c.s
      have hpn : ∀ k : Int, c.s.sync.pend k = none := fun k => by rw [hs]; rfl
      refine .inl ⟨rfl, ⟨hc, h.dead, h.log.safe_ rfl h.log.ok.safe hln, h.lay, by rw [hln]; exact hlen, ?_, fun _ n _ => hpn _⟩, ⟨rfl, rfl, rfl, ?_, fun _ => rfl, fun _ => .inl rfl, ⟨rfl, Nat.le_refl _⟩, hln⟩, rfl, rfl, fun n _ => hpn _⟩
      · intro i x pg hx hp hd
        show PageOf (c.s.sync.has (c.o.base + x.1.num.toNat)) pg
        have hr := hsh.rng i x hx (by rw [hp]; rfl)
        rw [hhas _ (by omega)]
        exact h.same i x pg hx hp hd
      · intro n hn
        show lookF _ (c.s.sync.has (c.o.base + n)) n = lookF _ (c.s.has (c.o.base + n)) n
        rw [hhas _ (by omega)]
    · rw [if_neg h0]
      exact .inr ⟨h0, hh, rfl⟩

theorem Fine.flush (h : Fine c X q) (hs : Shape c.fs c.o.count) :
    (c.flush.2 = 0 ∧ Fine c.flush.1 X q ∧ Kept c c.flush.1 ∧ (∀ n, dirtOf c.flush.1.fs n = none) ∧ ∀ n : Nat, n < c.o.count → c.flush.1.s.pend ((c.o.base + n : Nat) : Int) = none) ∨ (c.flush.2 ≠ 0 ∧ Hit c.flush.1.s X q ∧ c.flush.1.o.dead = true) := by
  have e : c.flush = if (c.cleanAll (numsOf c.fs)).2 = 0 then (c.cleanAll (numsOf c.fs)).1.syncC else c.cleanAll (numsOf c.fs) := by unfold CP.flush; rw [h.dead]; simp
  rw [e]
  rcases Fine.cleanAll (numsOf c.fs) c h hs with ⟨h0, h1, h2, h3, h4⟩ | ⟨h0, hb⟩
  · rw [if_pos h0]
    rcases h1.sync_ h2 with ⟨k0, k1, k2, k3, k5, k4⟩ | hb
    · refine .inl ⟨k0, k1, h3.trans k2, fun n => ?_, fun n hn => ?_⟩
      · rw [k3]
        by_cases hm : n ∈ numsOf c.fs
        · exact h4 n hm
        · have hi : idx c.fs n = none := by
            cases hi : idx c.fs n with
            | none => rfl
            | some j => exact absurd (mem_numsOf.2 (by rw [hi]; rfl)) hm
          have hd : dirtOf c.fs n = none := by unfold dirtOf; rw [fr_none.2 hi]; rfl
          rcases h3.dirt n with e | e
          · rw [e]; exact hd
          · exact e
      · have := k4 n (by rw [h3.count]; exact hn)
        rw [k2.base, h3.base] at this
        exact this
    · exact .inr hb
  · rw [if_neg h0]
    exact .inr ⟨h0, hb⟩

/-- The turn of a frame. -/
theorem Fine.ask (h : Fine c X q) (hu : Uniq c.fs) {i : Nat} {x : Fr × FrM} (hx : c.fs[i]? = some x) (hp : x.1.page.isSome = true) : Fine (c.ask i x) X q ∧ Kept c (c.ask i x) := by
  have hfr := fr_same hu (y := ({ x.1 with asked := c.o.turn + 1 }, x.2)) hx rfl rfl
  refine ⟨⟨h.calm, h.dead, h.log, h.lay, h.len, ?_, h.sync⟩, ⟨rfl, rfl, by unfold CP.ask; simp, ?_, ?_, ?_, ⟨rfl, Nat.le_refl _⟩, rfl⟩⟩
  · intro j y pg hy hyp hyd
    rcases set_at hx hy with ⟨rfl, rfl⟩ | ⟨-, hy⟩
    · exact h.same j x pg hx hyp hyd
    · exact h.same j y pg hy hyp hyd
  · intro n hn
    show lookF (c.fs.set i ({ x.1 with asked := c.o.turn + 1 }, x.2)) _ n = lookF c.fs _ n
    unfold lookF
    rw [hfr]
    by_cases h1 : isAt (n : Int) x = true
    · rw [if_pos h1, fr_of hu hx h1]
      rfl
    · rw [if_neg h1]
      rfl
  · intro n
    show pinsOf (c.fs.set i ({ x.1 with asked := c.o.turn + 1 }, x.2)) n = pinsOf c.fs n
    unfold pinsOf
    rw [hfr]
    by_cases h1 : isAt n x = true
    · rw [if_pos h1, fr_of hu hx h1]; rfl
    · rw [if_neg h1]
  · intro n
    left
    show dirtOf (c.fs.set i ({ x.1 with asked := c.o.turn + 1 }, x.2)) n = dirtOf c.fs n
    unfold dirtOf
    rw [hfr]
    by_cases h1 : isAt n x = true
    · rw [if_pos h1, fr_of hu hx h1]; rfl
    · rw [if_neg h1]
end
end Go.Proofs.YtbagmmncjmbboaaGreat

/-
  A pool's find, Put, Pin, Unpin in plain words. No walk.
-/
namespace Go.Proofs.YtbagmmncjmbboaaGreat
open Go.RowKit Go.Maps
set_option linter.unusedVariables false

theorem clean_idxU {c : CP} (hu : Uniq c.fs) (i : Nat) (a : Int) : idx (c.clean i).1.fs a = idx c.fs a := by
  cases hx : c.fs[i]? with
  | none =>
    have e : c.clean i = (c, 0) := by unfold CP.clean; rw [hx]
    rw [e]
  | some x =>
    cases hd : x.1.dirty with
    | false => rw [clean_not hx hd]
    | true =>
      cases hp : x.1.page with
      | none => rw [clean_free hx hp]
      | some pg =>
        rw [clean_yes hx hp hd]
        dsimp only
        unfold framesAfter
        split
        · have hu2 : Uniq (c.fs.set i ({ x.1 with dirty := false }, x.2)) := hu.same hx (fun e => e) rfl
          rw [idx_set hu hx hu2]
          have e : isAt a (({ x.1 with dirty := false }, x.2) : Fr × FrM) = isAt a x := rfl
          rw [e]
          by_cases h1 : isAt a x = true
          · rw [if_pos h1, idx_of hu hx h1]
          · rw [if_neg h1, if_neg h1]
        · rfl

theorem look_none {c : CP} {n : Nat} (h : idx c.fs (n : Int) = none) : c.look n = c.s.has (c.o.base + n) := by unfold CP.look lookF; rw [fr_none.2 h]

section

variable {c : CP} {X : Nat} {q : Int}

/-- A frame that isn't pinned. -/
def Free (c : CP) : Prop := ∃ (j : Nat) (x : Fr × FrM), c.fs[j]? = some x ∧ x.1.pins = 0

/-- A frame that isn't dirty and isn't pinned gets a page that was held nowhere. -/
theorem Fine.swap {i n : Nat} {x : Fr × FrM} {pg : PG} {v : FrM} (h : Fine c X q) (hs : Shape c.fs c.o.count) (hx : c.fs[i]? = some x) (hd : x.1.dirty = false) (hp0 : x.1.pins = 0) (hi : idx c.fs (n : Int) = none) (hpo : PageOf (c.s.has (c.o.base + n)) pg) :
    Fine { c with fs := c.fs.set i (frNew n pg, v) } X q ∧ Kept c { c with fs := c.fs.set i (frNew n pg, v) } := by
  have hu2 : Uniq (c.fs.set i (frNew n pg, v)) := hs.uniq.fresh hx hi
  have hfr := fr_set hs.uniq hx hu2
  have hat : ∀ a : Int, isAt a ((frNew n pg, v) : Fr × FrM) = decide ((n : Int) = a) := fun a => by unfold isAt frNew; simp
  have hno : fr c.fs (n : Int) = none := fr_none.2 hi
  refine ⟨⟨h.calm, h.dead, h.log, h.lay, h.len, ?_, h.sync⟩, ⟨rfl, rfl, by simp, ?_, ?_, ?_, ⟨rfl, Nat.le_refl _⟩, rfl⟩⟩
  · intro j y pg' hy hyp hyd
    rcases set_at hx hy with ⟨rfl, rfl⟩ | ⟨-, hy⟩
    · have : pg' = pg := by
        have : some pg = some pg' := hyp
        injection this with this
        exact this.symm
      subst this
      exact hpo
    · exact h.same j y pg' hy hyp hyd
  · intro a ha
    show lookF (c.fs.set i (frNew n pg, v)) _ a = lookF c.fs _ a
    unfold lookF
    rw [hfr, hat]
    by_cases h1 : (n : Int) = (a : Int)
    · have : n = a := by omega
      subst this
      simp [frNew, hno]
    · rw [if_neg (by simpa using h1)]
      by_cases h2 : isAt (a : Int) x = true
      · rw [if_pos h2, fr_of hs.uniq hx h2]
        simp [hd]
      · rw [if_neg h2]
  · intro a
    show pinsOf (c.fs.set i (frNew n pg, v)) a = pinsOf c.fs a
    unfold pinsOf
    rw [hfr, hat]
    by_cases h1 : (n : Int) = a
    · subst h1
      simp [frNew, hno]
    · rw [if_neg (by simpa using h1)]
      by_cases h2 : isAt a x = true
      · rw [if_pos h2, fr_of hs.uniq hx h2]
        simp [hp0]
      · rw [if_neg h2]
  · intro a
    show dirtOf (c.fs.set i (frNew n pg, v)) a = dirtOf c.fs a ∨ dirtOf (c.fs.set i (frNew n pg, v)) a = none
    unfold dirtOf
    rw [hfr, hat]
    by_cases h1 : (n : Int) = a
    · subst h1
      simp [frNew]
    · rw [if_neg (by simpa using h1)]
      by_cases h2 : isAt a x = true
      · rw [if_pos h2]; exact .inr rfl
      · rw [if_neg h2]; exact .inl rfl

theorem Fine.take (h : Fine c X q) (hs : Shape c.fs c.o.count) {n : Nat} (hn : n < c.o.count) (hi : idx c.fs (n : Int) = none) {k : Int} {a : Option Nat} {c' : CP} (ht : TakeOut c n k a c') :
    (k = 0 ∧ Fine c' X q ∧ Kept c c' ∧ Free c ∧ Uniq c'.fs ∧ ∃ i pg v, a = some i ∧ c'.fs[i]? = some (frNew n pg, v) ∧ PageOf (c.look n) pg) ∨
    (k = 100 ∧ c' = c ∧ ¬ Free c) ∨
    (k = 80 ∧ Fine c' X q ∧ Kept c c' ∧ Free c ∧ ∀ m, ¬ PageOf (c.look n) m) ∨
    (k ≠ 0 ∧ Hit c'.s X q ∧ c'.o.dead = true) := by
  have hlen := h.len
  rcases ht with ⟨ho, hk, -, hc⟩ | ⟨i, x, ho, hx, hr⟩
  · refine .inr (.inl ⟨hk, hc, ?_⟩)
    rintro ⟨j, y, hy, h0⟩
    exact oldest_none c.fs _ ho j y (List.getElem?_eq_some_iff.1 hy).1 hy h0
  · obtain ⟨x', hx', hp0⟩ := oldest_free c.fs _ i ho
    rw [hx] at hx'
    injection hx' with hx'
    subst hx'
    have hfree : Free c := ⟨i, x, hx, hp0⟩
    rcases h.clean hs hx with ⟨h0, h1, h2, h3⟩ | ⟨h0, hb⟩
    · have hbase := h2.base
      have hcount := h2.count
      have hln := h2.len
      have hi1 : idx (c.clean i).1.fs (n : Int) = none := by rw [clean_idxU hs.uniq]; exact hi
      have hread : (c.clean i).1.s.readE ((c.o.base + n : Nat) : Int) = 0 := h1.calm.read (by omega)
      have hlook : (c.clean i).1.s.has (c.o.base + n) = c.look n := by
        have e1 := look_none hi1
        rw [hbase] at e1
        rw [← e1]
        exact h2.look n hn
      rcases hr with ⟨e, -⟩ | ⟨-, e, -⟩ | ⟨-, -, hno, hk, ha, hc⟩ | ⟨-, -, pg, v, hpo, hk, ha, hc⟩
      · exact absurd h0 e
      · exact absurd hread e
      · rw [hlook] at hno
        rw [hc]
        exact .inr (.inr (.inl ⟨hk, h1, h2, hfree, hno⟩))
      · have hsw := h1.swap (v := v) (n := n) (pg := pg) (hs.clean i) h3 rfl hp0 hi1 (by rw [hbase]; exact hpo)
        rw [hlook] at hpo
        rw [hc]
        exact .inl ⟨hk, hsw.1, h2.trans hsw.2, hfree, (hs.clean i).uniq.fresh h3 hi1, i, pg, v, ha, set_self h3, hpo⟩
    · rcases hr with ⟨-, hk, -, hc⟩ | ⟨e, -⟩ | ⟨e, -⟩ | ⟨e, -⟩
      · rw [hc, hk]; exact .inr (.inr (.inr ⟨h0, hb⟩))
      · exact absurd e h0
      · exact absurd e h0
      · exact absurd e h0

/-- What find leaves of a pool that lives. -/
def FindFine (c : CP) (X : Nat) (q : Int) (n : Int) (k : Int) (a : Option Nat) (c' : CP) : Prop :=
  (k = 0 ∧ Fine c' X q ∧ Kept c c' ∧ ∃ N : Nat, n = (N : Int) ∧ N < c.o.count ∧ ((idx c.fs n).isSome = true ∨ Free c) ∧ ∃ i x pg, a = some i ∧ c'.fs[i]? = some x ∧ isAt n x = true ∧ x.1.page = some pg ∧ PageOf (c.look N) pg) ∨
  (k = 1 ∧ c' = c ∧ ¬ (0 ≤ n ∧ n < c.o.count)) ∨
  (∃ N : Nat, n = (N : Int) ∧ N < c.o.count ∧ idx c.fs n = none ∧ ((k = 100 ∧ c' = c ∧ ¬ Free c) ∨ (k = 80 ∧ Fine c' X q ∧ Kept c c' ∧ Free c ∧ ∀ m, ¬ PageOf (c.look N) m))) ∨
  (k ≠ 0 ∧ Hit c'.s X q ∧ c'.o.dead = true)

theorem Fine.find (h : Fine c X q) (hs : Shape c.fs c.o.count) {n : Int} {k : Int} {a : Option Nat} {c' : CP} (hf : FindOut c n k a c') (hs' : Shape c'.fs c'.o.count) : FindFine c X q n k a c' := by
  rcases hf with ⟨hd, -⟩ | ⟨-, hr, hk, -, hc⟩ | ⟨-, N, rfl, hN, hr⟩
  · rw [h.dead] at hd; cases hd
  · exact .inr (.inl ⟨hk, hc, hr⟩)
  · rcases hr with ⟨i, x, hi, hx, hk, ha, hc⟩ | ⟨hi, k1, a1, c1, ht, hr⟩
    · obtain ⟨y, hy, hat⟩ := idx_some hi
      rw [hx] at hy
      injection hy with hy
      subst hy
      have h2 := isAt_yes.1 hat
      obtain ⟨pg, hpg⟩ := Option.isSome_iff_exists.1 h2.1
      have hask := h.ask hs.uniq hx h2.1
      rw [hc]
      refine .inl ⟨hk, hask.1, hask.2, N, rfl, hN, .inl (by rw [hi]; rfl), i, _, pg, ha, ask_at hx, hat, hpg, ?_⟩
      unfold CP.look lookF
      rw [fr_of hs.uniq hx hat]
      dsimp only
      by_cases hd : x.1.dirty = true
      · rw [if_pos hd, hpg]
        exact (hs.good i x pg hx hpg).pageOf
      · rw [if_neg hd]
        have := h.same i x pg hx hpg (by simpa using hd)
        rw [h2.2] at this
        simpa using this
    · rcases h.take hs hN hi ht with ⟨h0, t1, t2, t3, tu, i, pg, v, ha, hx, hpo⟩ | ⟨hk, hc, hnf⟩ | ⟨hk, t1, t2, t3, t4⟩ | ⟨hk, hb⟩
      · rcases hr with ⟨e, -⟩ | ⟨-, i', x', ha', hx', hat', hk, ha2, hc⟩
        · exact absurd h0 e
        · rw [ha] at ha'
          injection ha' with ha'
          subst ha'
          rw [hx] at hx'
          injection hx' with hx'
          subst hx'
          have hask := t1.ask tu hx rfl
          rw [hc]
          exact .inl ⟨hk, hask.1, t2.trans hask.2, N, rfl, hN, .inr t3, i, _, pg, ha2, ask_at hx, hat', rfl, hpo⟩
      · rcases hr with ⟨-, hk2, -, hc2⟩ | ⟨e, -⟩
        · rw [hk2, hc2]
          exact .inr (.inr (.inl ⟨N, rfl, hN, hi, .inl ⟨hk, hc, hnf⟩⟩))
        · omega
      · rcases hr with ⟨-, hk2, -, hc2⟩ | ⟨e, -⟩
        · rw [hk2, hc2]
          exact .inr (.inr (.inl ⟨N, rfl, hN, hi, .inr ⟨hk, t1, t2, t3, t4⟩⟩))
        · omega
      · rcases hr with ⟨-, hk2, -, hc2⟩ | ⟨e, -⟩
        · rw [hk2, hc2]
          exact .inr (.inr (.inr ⟨hk, hb⟩))
        · exact absurd e hk
end
end Go.Proofs.YtbagmmncjmbboaaGreat

/-
  A pool's Put, Pin, Unpin in plain words; steps; the pages on the disk are never ahead of the log. No walk.
-/
namespace Go.Proofs.YtbagmmncjmbboaaGreat
open Go.RowKit Go.Maps
set_option linter.unusedVariables false

section

variable {c : CP} {X : Nat} {q : Int}

/-- Pins of a frame that holds page n. -/
theorem Fine.pinTo (h : Fine c X q) (hu : Uniq c.fs) {i : Nat} {x : Fr × FrM} {n : Int} (hx : c.fs[i]? = some x) (hat : isAt n x = true) (p : Nat) :
    Fine { c with fs := c.fs.set i ({ x.1 with pins := p }, x.2) } X q ∧ (∀ m, CP.look { c with fs := c.fs.set i ({ x.1 with pins := p }, x.2) } m = c.look m) ∧
    (∀ a, pinsOf (c.fs.set i ({ x.1 with pins := p }, x.2)) a = if a = n then p else pinsOf c.fs a) ∧ (∀ a, dirtOf (c.fs.set i ({ x.1 with pins := p }, x.2)) a = dirtOf c.fs a) ∧ ∀ a, idx (c.fs.set i ({ x.1 with pins := p }, x.2)) a = idx c.fs a := by
  have hfr := fr_same hu (y := ({ x.1 with pins := p }, x.2)) hx rfl rfl
  have h2 := isAt_yes.1 hat
  have hu2 : Uniq (c.fs.set i ({ x.1 with pins := p }, x.2)) := hu.same hx (fun e => e) rfl
  refine ⟨⟨h.calm, h.dead, h.log, h.lay, h.len, ?_, h.sync⟩, ?_, ?_, ?_, ?_⟩
  · intro j y pg hy hyp hyd
    rcases set_at hx hy with ⟨rfl, rfl⟩ | ⟨-, hy⟩
    · exact h.same j x pg hx hyp hyd
    · exact h.same j y pg hy hyp hyd
  · intro m
    show lookF (c.fs.set i ({ x.1 with pins := p }, x.2)) _ m = lookF c.fs _ m
    unfold lookF
    rw [hfr]
    by_cases h1 : isAt (m : Int) x = true
    · rw [if_pos h1, fr_of hu hx h1]
    · rw [if_neg h1]
  · intro a
    unfold pinsOf
    rw [hfr]
    by_cases h1 : isAt a x = true
    · rw [if_pos h1, if_pos ((isAt_yes.1 h1).2.symm.trans h2.2)]; rfl
    · rw [if_neg h1, if_neg (fun e => h1 (by rw [e]; exact hat))]
  · intro a
    unfold dirtOf
    rw [hfr]
    by_cases h1 : isAt a x = true
    · rw [if_pos h1, fr_of hu hx h1]; rfl
    · rw [if_neg h1]
  · intro a
    rw [idx_set hu hx hu2]
    have e : isAt a (({ x.1 with pins := p }, x.2) : Fr × FrM) = isAt a x := rfl
    rw [e]
    by_cases h1 : isAt a x = true
    · rw [if_pos h1, idx_of hu hx h1]
    · rw [if_neg h1, if_neg h1]

/-- Put of a frame that holds page N. -/
theorem Fine.put (h : Fine c X q) (hu : Uniq c.fs) {i N : Nat} {x : Fr × FrM} (hx : c.fs[i]? = some x) (hat : isAt (N : Int) x = true) {pg : PG} (v : FrM) (hg : PgGood pg) :
    Fine (c.put i x pg v) X q ∧ (∀ m, (c.put i x pg v).look m = if m = N then pageL pg else c.look m) ∧
    (∀ a, pinsOf (c.put i x pg v).fs a = pinsOf c.fs a) ∧ (∀ a, dirtOf (c.put i x pg v).fs a = if a = (N : Int) then some ((dirtOf c.fs a).getD pg.lsn) else dirtOf c.fs a) ∧ ∀ a, idx (c.put i x pg v).fs a = idx c.fs a := by
  have h2 := isAt_yes.1 hat
  have hfr := fr_same hu (y := (frPut x.1 pg, v)) hx (by rw [h2.1]; rfl) rfl
  have hu2 : Uniq (c.fs.set i (frPut x.1 pg, v)) := hu.same hx (fun _ => h2.1) rfl
  refine ⟨⟨h.calm, h.dead, h.log, h.lay, h.len, ?_, h.sync⟩, ?_, ?_, ?_, ?_⟩
  · intro j y pg' hy hyp hyd
    rcases set_at hx hy with ⟨rfl, rfl⟩ | ⟨-, hy⟩
    · cases hyd
    · exact h.same j y pg' hy hyp hyd
  · intro m
    show lookF (c.fs.set i (frPut x.1 pg, v)) _ m = if m = N then pageL pg else lookF c.fs _ m
    unfold lookF
    rw [hfr]
    by_cases h1 : isAt (m : Int) x = true
    · have : m = N := by have := (isAt_yes.1 h1).2; omega
      rw [if_pos h1, if_pos this]
      rfl
    · rw [if_neg h1, if_neg (fun e => h1 (by rw [e]; exact hat))]
      rfl
  · intro a
    show pinsOf (c.fs.set i (frPut x.1 pg, v)) a = _
    unfold pinsOf
    rw [hfr]
    by_cases h1 : isAt a x = true
    · rw [if_pos h1, fr_of hu hx h1]; rfl
    · rw [if_neg h1]
  · intro a
    show dirtOf (c.fs.set i (frPut x.1 pg, v)) a = _
    unfold dirtOf
    rw [hfr]
    by_cases h1 : isAt a x = true
    · rw [if_pos h1, if_pos ((isAt_yes.1 h1).2.symm.trans h2.2), fr_of hu hx h1]
      unfold frPut
      dsimp only [Option.bind]
      cases x.1.dirty <;> rfl
    · rw [if_neg h1, if_neg (fun e => h1 (by rw [e]; exact hat))]
  · intro a
    show idx (c.fs.set i (frPut x.1 pg, v)) a = _
    rw [idx_set hu hx hu2]
    have e : isAt a ((frPut x.1 pg, v) : Fr × FrM) = isAt a x := by
      show ((some pg).isSome && decide (x.1.num = a)) = (x.1.page.isSome && decide (x.1.num = a))
      rw [h2.1]; rfl
    rw [e]
    by_cases h1 : isAt a x = true
    · rw [if_pos h1, idx_of hu hx h1]
    · rw [if_neg h1, if_neg h1]

/-! ### Steps -/

theorem clean_stepsM {c : CP} (hok : c.m.Ok) (i : Nat) : (c.clean i).1.s.steps ≤ c.s.steps + 4098 := by
  have hc := hok.count.2
  cases hx : c.fs[i]? with
  | none =>
    have e : c.clean i = (c, 0) := by unfold CP.clean; rw [hx]
    rw [e]; dsimp only; omega
  | some x =>
    cases hd : x.1.dirty with
    | false => rw [clean_not hx hd]; dsimp only; omega
    | true =>
      cases hp : x.1.page with
      | none => rw [clean_free hx hp]; dsimp only; omega
      | some pg =>
        rw [clean_yes hx hp hd]
        dsimp only
        have := cleanP_steps hok ((c.o.base : Int) + x.1.num) pg c.s
        omega

theorem take_steps {c c' : CP} (hok : c.m.Ok) {n : Nat} {k : Int} {a : Option Nat} (h : TakeOut c n k a c') : c'.s.steps ≤ c.s.steps + 4098 := by
  rcases h with ⟨-, -, -, h⟩ | ⟨j, y, -, -, ⟨-, -, -, h⟩ | ⟨-, -, -, -, h⟩ | ⟨-, -, -, -, -, h⟩ | ⟨-, -, pg, v, -, -, -, h⟩⟩
  · rw [h]; omega
  · rw [h]; exact clean_stepsM hok j
  · rw [h]; exact clean_stepsM hok j
  · rw [h]; exact clean_stepsM hok j
  · rw [h]; exact clean_stepsM hok j

theorem find_steps {c c' : CP} (hok : c.m.Ok) {n : Int} {k : Int} {a : Option Nat} (h : FindOut c n k a c') : c'.s.steps ≤ c.s.steps + 4098 := by
  rcases h with ⟨-, -, -, h⟩ | ⟨-, -, -, -, h⟩ | ⟨-, N, -, -, ⟨i, x, -, -, -, -, h⟩ | ⟨-, k1, a1, c1, ht, ⟨-, -, -, h⟩ | ⟨-, i, x, -, -, -, -, -, h⟩⟩⟩
  · rw [h]; omega
  · rw [h]; omega
  · rw [h]; show c.s.steps ≤ _; omega
  · rw [h]; exact take_steps hok ht
  · rw [h]; show c1.s.steps ≤ _; exact take_steps hok ht

end
end Go.Proofs.YtbagmmncjmbboaaGreat

/-
  The walk of cache's New: a pool with free frames.
-/
namespace Go.Proofs.YtbagmmncjmbboaaGreat
open Go.RowKit Go.Maps
set_option linter.unusedVariables false

/-- A free frame. -/
def frZ : Fr × FrM := (⟨0, none, 0, false, 0, 0⟩, ⟨0, .slice none 0 0, []⟩)

def zFr : Value := .agg #[.int .i64 0, .pointer none, .int .i64 0, .bool false, .int .i64 0, .int .i64 0]

theorem infoFr : (Tryz.prog.info? 108).map (fun i => (i.zero, i.size, i.bytes)) = some (some zFr, 6, 48) := by kernel_rfl

theorem made_frs (n : Nat) : madeCells zFr.cells (n * 6) = ((List.replicate n frZ).flatMap encFr).toArray := by
  have hl := flat_len6 (List.replicate n frZ)
  rw [List.length_replicate] at hl
  apply Array.ext
  · rw [size_madeCells, List.size_toArray, hl]
  · intro i h1 h2
    rw [size_madeCells] at h1
    have e : i = i / 6 * 6 + i % 6 := by omega
    have hi : i / 6 < n := by omega
    have hm : i % 6 < 6 := Nat.mod_lt _ (by omega)
    have h3 : (encFr frZ)[i % 6]? = zFr.cells[i % 6]? := by
      have : zFr.cells = (encFr frZ).toArray := rfl
      rw [this, List.getElem?_toArray]
    have hlt : i % 6 < (encFr frZ).length := by rw [encFr_len]; exact hm
    have h4 := flat_get encFr_len (List.replicate n frZ) (i / 6) frZ (by rw [List.getElem?_replicate, if_pos hi]) (i % 6) _ (List.getElem?_eq_getElem hlt)
    rw [← e, ← List.getElem?_toArray, Array.getElem?_eq_getElem h2] at h4
    injection h4 with h4
    rw [h4]
    have h5 : (madeCells zFr.cells (n * 6))[i] = zFr.cells[i % zFr.cells.size]! := by simp [madeCells]
    have h6 : zFr.cells.size = 6 := rfl
    rw [h5, h6, getElem!_def, ← h3, List.getElem?_eq_getElem hlt]

def newFs (nf : Nat) : List (Fr × FrM) := List.replicate nf frZ

theorem newFs_at {nf i : Nat} {x : Fr × FrM} (h : (newFs nf)[i]? = some x) : x = frZ := by
  unfold newFs at h
  rw [List.getElem?_replicate] at h
  split at h
  · injection h with h; exact h.symm
  · cases h

theorem newFs_idx (nf : Nat) (a : Int) : idx (newFs nf) a = none := idx_none.2 fun i x hx => by rw [newFs_at hx]; rfl

/-- As many frames as New takes. -/
def nfOf (frames : Int) : Nat := (min (max frames 1) 64).toNat

theorem nfOf_le (frames : Int) : 1 ≤ nfOf frames ∧ nfOf frames ≤ 64 := by unfold nfOf; omega

def newI (w : World) (p sb mb : Nat) (pl : Option Nat) (g B : Nat) (sv bv : Value) (nf : Nat) : PI := ⟨p, sb, mb, pl, g, B, sv, bv, w.heap.size + 2, w.heap.size, w.heap.size + 1, nf⟩

def newC (s : DS) (m : LG) (base count nf : Nat) : CP := ⟨s, m, ⟨base, count, 0, false, false⟩, newFs nf⟩

set_option maxRecDepth 100000 in
set_option maxHeartbeats 4000000 in
theorem New_pool (w : World) (p sb mb g B : Nat) (pl : Option Nat) (s : DS) (sv bv : Value) (m : LG) (hw : WalAt w p sb mb pl s g B sv bv m) (base count : Nat) (frames : Int) (hfit : base + count ≤ 4096) (Q : Nat → Prop)
    (hQ : ∀ k, Q k → k < w.heap.size ∧ ¬ (OwnW p sb mb g k ∨ OwnL g sv bv k ∨ pl = some k)) :
    Calls Tryz.prog 43 #[.pointer (some ⟨p, 0, none⟩), .pointer (some ⟨g, 0, none⟩), .int .i64 (base : Int), .int .i64 (count : Int), .int .i64 frames] w fun e w' =>
      e = .returned (.pointer (some ⟨w.heap.size + 2, 0, none⟩)) ∧ PoolAt w' (newI w p sb mb pl g B sv bv (nfOf frames)) Q (newC s m base count (nfOf frames)) ∧ Below w.heap.size w w' := by
  have hnf := nfOf_le frames
  obtain ⟨c, hc⟩ : ∃ c : Nat, c = nfOf frames := ⟨_, rfl⟩
  obtain ⟨x1, hx1⟩ : ∃ x1 : Int, x1 = max frames 1 := ⟨_, rfl⟩
  have hcx : (c : Int) = min x1 64 := by rw [hc, hx1]; unfold nfOf; omega
  rw [← hc] at hnf ⊢
  have hmax : ∀ W ty, (Builtin.max_ #[3, 3] ty #[.int .i64 frames, .int .i64 1]).run Tryz.prog W = .ok (.int .i64 x1) W := by
    intro W ty
    simp [Builtin.max_, Builtin.max2, List.foldlM, hx1]
    omega
  have hmin : ∀ W ty, (Builtin.min_ #[3, 3] ty #[.int .i64 x1, .int .i64 64]).run Tryz.prog W = .ok (.int .i64 (c : Int)) W := by
    intro W ty
    simp [Builtin.min_, Builtin.min2, List.foldlM]
    omega
  obtain ⟨i0, hi, hz0, hz1, hz2⟩ := info_parts infoFr
  have hmk : ∀ W : World, (Instr.makeSlice 110 (.int .i64 (c : Int)) (.int .i64 (c : Int))).run Tryz.prog W = .ok (.slice (some ⟨W.heap.size, 0, none⟩) c c) (W.alloc (.cells ((newFs c).flatMap encFr).toArray 108)) := by
    intro W
    have := run_make (P := Tryz.prog) W 110 108 i0 zFr Tryz.underlying110 hi hz0 .i64 .i64 (c : Int) (c : Int) (by omega) (by omega) (by rw [hz2]; omega) (by omega)
    rw [hz1] at this
    have e := made_frs c
    unfold newFs
    rw [← e]
    simpa using this
  have hmm := @run_makeMap Tryz.prog
  have HW := Lib.hid hw
  have HQ := Lib.hid hQ
  have HNF := Lib.hid hnf
  have HFIT := Lib.hid hfit
  clear hw hQ hi hz0 hz1 hz2 hx1 hcx hc hnf hfit
  go_enter Tryz.func43, Tryz.ntmps43
  go_wp2
  go_ret
  have hlt : ∀ k, (OwnW p sb mb g k ∨ OwnL g sv bv k ∨ pl = some k) → k < w.heap.size := by
    intro k hk
    have hd := HW.out.dk.lt
    rcases hk with (e | e) | e | e
    · unfold Own at e; omega
    · subst e; exact HW.out.lg.lt
    · exact (HW.out.lg.own k e).2
    · exact hd.2.2.2 k e
  have hap : ∀ k, w.heap.size ≤ k → Apart p sb mb g pl sv bv k := fun k hk => ⟨fun e => by have := hlt k (.inl (.inl e)); omega, fun e => by have := hlt k (.inr (.inl e)); omega, fun e => by have := hlt k (.inr (.inr e)); omega⟩
  have hbel : Below w.heap.size w (((w.alloc (.cells ((newFs c).flatMap encFr).toArray 108)).alloc (.map #[] 0)).alloc (.cells (poC p g w.heap.size (w.heap.size + 1) c ⟨base, count, 0, false, false⟩) 113)) := (((Below.refl _ _).alloc (Nat.le_refl _) _).alloc (by simp) _).alloc (by simp; omega) _
  refine ⟨by simp, ⟨HW.out.below hbel, ?_, ?_, by simp [newC, newI, newFs], HNF.out, ?_, ?_, ?_, ?_, ?_, ?_, HFIT.out, hap _ (by simp [newI]), hap _ (by simp [newI]), hap _ (by simp [newI]), by simp [newI], ?_⟩, hbel⟩
  · have := Blk.new ((w.alloc (.cells ((newFs c).flatMap encFr).toArray 108)).alloc (.map #[] 0)) 113 (poC p g w.heap.size (w.heap.size + 1) c ⟨base, count, 0, false, false⟩)
    simp only [size_alloc_] at this
    exact this
  · exact ((Blk.new w 108 ((newFs c).flatMap encFr).toArray).alloc _).alloc _
  · have h1 : MapG kI isPtr ((w.alloc (.cells ((newFs c).flatMap encFr).toArray 108)).alloc (.map #[] 0)) (w.heap.size + 1) 0 (fun _ => none) := by
      have := MapG.made (X := kI) (p := isPtr) (w.alloc (.cells ((newFs c).flatMap encFr).toArray 108))
      simpa using this
    refine ((h1.mod ((Mod.refl (fun _ => False) _).alloc _) id).cast fun a _ => ?_).mono (Nat.zero_le _)
    show none = holdF w.heap.size (newFs c) a
    unfold holdF; rw [newFs_idx]; rfl
  · intro i j x y hx hy h1
    rw [newFs_at hx] at h1; cases h1
  · intro i x pg hx hp
    rw [newFs_at hx] at hp; cases hp
  · intro i x hx hp
    rw [newFs_at hx] at hp; cases hp
  · intro i x hx _
    rw [newFs_at hx]; exact ⟨rfl, rfl⟩
  · intro i x hx
    rw [newFs_at hx]; exact ⟨Nat.le_refl _, Nat.le_refl _⟩
  · intro k hk
    obtain ⟨h1, h2⟩ := HQ.out k hk
    refine ⟨Nat.lt_of_lt_of_le h1 hbel.size, ?_⟩
    rintro (e | e | e | e | e | e)
    · exact h2 (.inl e)
    · exact h2 (.inr (.inl e))
    · exact h2 (.inr (.inr e))
    · simp only [newI] at e; omega
    · simp only [newI] at e; omega
    · simp only [newI] at e; omega
end Go.Proofs.YtbagmmncjmbboaaGreat
