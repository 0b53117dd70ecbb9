/-
  MvccFirst: what the law keeps, in plain words and in memory. No walk.
-/
import Derived.Test.YtgahkloldpjnkaaMV24
namespace Go.Proofs.Ytgahkloldpjnkaa
open Go.RowKit Go.Maps
set_option linter.unusedVariables false

/-- What one transaction has touched, as the law keeps it. -/
structure RowS where
  A : Option Addr
  n : Nat
  c : Nat
  rs : List Rf

instance : Inhabited RowS := ⟨⟨none, 0, 0, []⟩⟩

def RowS.v (r : RowS) : Value := .slice r.A r.n r.c

/-- A committed one. -/
structure SpanV where
  start : Int
  at_ : Int
  row : RowS

instance : Inhabited SpanV := ⟨⟨0, 0, default⟩⟩

def encS (r : RowS) : List Value := [r.v]

theorem encS_len (r : RowS) : (encS r).length = 1 := rfl

theorem encS_one (r : RowS) : ∀ u ∈ encS r, u.oneCell' = true := by
  intro u hu
  rw [encS, List.mem_singleton] at hu
  subst hu
  rfl

def encSp (s : SpanV) : List Value := [.int .i64 s.start, .int .i64 s.at_, s.row.v]

theorem encSp_len (s : SpanV) : (encSp s).length = 3 := rfl

theorem encSp_one (s : SpanV) : ∀ u ∈ encSp s, u.oneCell' = true := by
  intro u hu
  simp only [encSp, List.mem_cons, List.not_mem_nil, or_false] at hu
  rcases hu with rfl | rfl | rfl <;> rfl

/-- What ties the law's lists to the table. -/
structure Deeds (M : MV) (T : List RowS) (D : List SpanV) : Prop where
  tied : T.map RowS.rs = M.txns.map Tx.refs
  done : ∀ s ∈ D, ∃ (i : Nat) (x : Tx), M.txns[i]? = some x ∧ x.live = false ∧ x.start = s.start ∧ x.at_ = s.at_ ∧ T[i]? = some s.row
  pair : D.Pairwise fun a b => ¬ (b.start < a.at_ ∧ common a.row.rs b.row.rs = true)

theorem Deeds.len {M : MV} {T : List RowS} {D : List SpanV} (h : Deeds M T D) : T.length = M.txns.length := by
  have := congrArg List.length h.tied
  simpa using this

theorem Deeds.row {M : MV} {T : List RowS} {D : List SpanV} (h : Deeds M T D) {i : Nat} {x : Tx} (hx : M.txns[i]? = some x) : ∃ r, T[i]? = some r ∧ r.rs = x.refs := by
  have h1 := congrArg (fun l => l[i]?) h.tied
  simp only [List.getElem?_map, hx, Option.map_some] at h1
  cases hr : T[i]? with
  | none => rw [hr] at h1; cases h1
  | some r => rw [hr] at h1; exact ⟨r, rfl, Option.some.inj h1⟩

theorem deeds_new (last : Int) : Deeds (MV.new last) [] [] := ⟨rfl, (fun _ h => nomatch h), List.Pairwise.nil⟩

theorem deeds_add {M : MV} {T : List RowS} {D : List SpanV} (h : Deeds M T D) {r : RowS} (hr : r.rs = []) : Deeds M.add (T ++ [r]) D := by
  refine ⟨by simp [MV.add, h.tied, hr], fun s hs => ?_, h.pair⟩
  obtain ⟨i, x, h1, h2, h3, h4, h5⟩ := h.done s hs
  refine ⟨i, x, ?_, h2, h3, h4, ?_⟩
  · rw [MV.add, List.getElem?_append_left (List.getElem?_eq_some_iff.1 h1).1]; exact h1
  · rw [List.getElem?_append_left (List.getElem?_eq_some_iff.1 h5).1]; exact h5

theorem deeds_touch {M : MV} {T : List RowS} {D : List SpanV} (h : Deeds M T D) {n : Int} {x : Tx} (hl : M.live? n = some x) {rs : List Rf} {r : RowS} (hr : r.rs = x.refs ++ rs) : Deeds (M.touch n rs) (T.set (n - 1).toNat r) D := by
  obtain ⟨h1, h2, h3⟩ := live_iff.1 hl
  refine ⟨?_, fun s hs => ?_, h.pair⟩
  · rw [touch_eq hl]
    unfold MV.put
    dsimp only
    rw [List.map_set, List.map_set, h.tied, hr]
  · obtain ⟨i, y, g1, g2, g3, g4, g5⟩ := h.done s hs
    have hne : (n - 1).toNat ≠ i := by
      intro e
      rw [e, g1] at h2
      injection h2 with h2
      rw [← h2, g2] at h3
      cases h3
    refine ⟨i, y, ?_, g2, g3, g4, ?_⟩
    · rw [touch_eq hl]
      unfold MV.put
      dsimp only
      rw [List.getElem?_set_ne hne]
      exact g1
    · rw [List.getElem?_set_ne hne]
      exact g5

theorem deeds_over {M : MV} {T : List RowS} {D : List SpanV} (h : Deeds M T D) (n : Int) : Deeds (M.over n) T D := by
  cases hl : M.live? n with
  | none => rw [over_none hl]; exact h
  | some x =>
    obtain ⟨h1, h2, h3⟩ := live_iff.1 hl
    rw [over_eq hl]
    unfold MV.put
    refine ⟨?_, fun s hs => ?_, h.pair⟩
    · dsimp only
      rw [List.map_set, h.tied]
      apply List.ext_getElem?
      intro i
      by_cases e : (n - 1).toNat = i
      · subst e
        have hlt := (List.getElem?_eq_some_iff.1 h2).1
        rw [List.getElem?_set_self (by rw [List.length_map]; exact hlt), List.getElem?_map, h2]
        rfl
      · rw [List.getElem?_set_ne e]
    · obtain ⟨i, y, g1, g2, g3, g4, g5⟩ := h.done s hs
      have hne : (n - 1).toNat ≠ i := by
        intro e
        rw [e, g1] at h2
        injection h2 with h2
        rw [← h2, g2] at h3
        cases h3
      refine ⟨i, y, ?_, g2, g3, g4, g5⟩
      dsimp only
      rw [List.getElem?_set_ne hne]
      exact g1

theorem deeds_win {M : MV} {T : List RowS} {D : List SpanV} (h : Deeds M T D) {n : Int} {x : Tx} (hl : M.live? n = some x) (h0 : M.tryE n = 0) {r : RowS} (ht : T[(n - 1).toNat]? = some r) (hr : r.rs = x.refs) : Deeds ((M.win n).over n) T (D ++ [⟨x.start, M.last + 1, r⟩]) := by
  obtain ⟨h1, h2, h3⟩ := live_iff.1 hl
  have hlt := (List.getElem?_eq_some_iff.1 h2).1
  have hcl : M.clash x = false := by
    cases hc : M.clash x with
    | false => rfl
    | true => unfold MV.tryE at h0; rw [hl] at h0; dsimp only at h0; rw [if_pos hc] at h0; cases h0
  rw [over_win hl]
  refine ⟨?_, fun s hs => ?_, ?_⟩
  · dsimp only
    rw [List.map_set, h.tied]
    apply List.ext_getElem?
    intro i
    by_cases e : (n - 1).toNat = i
    · subst e
      rw [List.getElem?_set_self (by rw [List.length_map]; exact hlt), List.getElem?_map, h2]
      rfl
    · rw [List.getElem?_set_ne e]
  · rcases List.mem_append.1 hs with hs | hs
    · obtain ⟨i, y, g1, g2, g3, g4, g5⟩ := h.done s hs
      have hne : (n - 1).toNat ≠ i := by
        intro e
        rw [e, g1] at h2
        injection h2 with h2
        rw [← h2, g2] at h3
        cases h3
      refine ⟨i, y, ?_, g2, g3, g4, g5⟩
      dsimp only
      rw [List.getElem?_set_ne hne]
      exact g1
    · rw [List.mem_singleton.1 hs]
      exact ⟨(n - 1).toNat, { x with at_ := M.last + 1, live := false }, by dsimp only; rw [List.getElem?_set_self hlt], rfl, rfl, rfl, ht⟩
  · rw [List.pairwise_append]
    refine ⟨h.pair, List.pairwise_singleton _ _, fun a ha b hb => ?_⟩
    rw [List.mem_singleton.1 hb]
    rintro ⟨q1, q2⟩
    dsimp only at q1 q2
    obtain ⟨i, y, g1, g2, g3, g4, g5⟩ := h.done a ha
    obtain ⟨r2, g6, g7⟩ := h.row g1
    rw [g5] at g6
    injection g6 with g6
    rw [← g6] at g7
    have hcl2 : M.clash x = true := by
      unfold MV.clash
      rw [List.any_eq_true]
      exact ⟨y, List.mem_of_getElem? g1, by rw [Bool.and_eq_true, decide_eq_true_eq]; exact ⟨by omega, by rw [← g7, ← hr]; exact q2⟩⟩
    rw [hcl] at hcl2
    cases hcl2

/-! ### The horizon never falls -/
theorem over_hor (M : MV) (n : Int) : M.hor ≤ (M.over n).hor := by
  cases hl : M.live? n with
  | none => rw [over_none hl]; omega
  | some x => rw [over_eq hl]; exact (live_put' hl (y := { x with live := false }) rfl).2

theorem run_hor (M : MV) (o : OpM) : M.hor ≤ (M.run o).hor := by
  unfold MV.run
  split
  · unfold MV.begin
    split
    · exact add_hor M
    · omega
  · split
    · cases hl : M.live? o.n with
      | none => unfold MV.touch; rw [hl]; dsimp only; omega
      | some x => rw [touch_eq hl]; exact (live_put' hl (y := { x with refs := x.refs ++ o.refs }) rfl).2
    · split
      · unfold MV.commit
        split
        · rename_i hc
          cases hl : M.live? o.n with
          | none => unfold MV.refsOf at hc; rw [hl] at hc; exact absurd rfl hc.2
          | some x => exact Int.le_trans (win_hor hl) (over_hor _ _)
        · exact over_hor _ _
      · split
        · exact over_hor _ _
        · omega

/-! ### The rows of what was touched, in memory -/
theorem OK.still {α : Type} {enc : α → List Value} {k E : Nat} {w w' : World} {B : Nat} {v : Value} {xs : List α} (h : OK enc k E w B v xs) (hb : ∀ b, v.ownBlock = some b → w'.heap[b]? = w.heap[b]?) : OK enc k E w' B v xs := by
  obtain ⟨h1, h2, h3⟩ := h
  refine ⟨h1, h2, ?_⟩
  rcases h3 with h3 | ⟨g, cap, cur, e, hgB, hg, r⟩
  · exact .inl h3
  · exact .inr ⟨g, cap, cur, e, hgB, (hb g (by rw [e]; rfl)).trans hg, r⟩

structure TRows (B : Nat) (w : World) (T : List RowS) : Prop where
  ok : ∀ r ∈ T, OK encR 2 62 w B r.v r.rs
  apart : ∀ (i j : Nat) (r s : RowS), i ≠ j → T[i]? = some r → T[j]? = some s → ∀ b, r.v.ownBlock = some b → s.v.ownBlock ≠ some b

theorem TRows.nil (B : Nat) (w : World) : TRows B w [] := ⟨(fun _ h => nomatch h), fun i j r s _ h => by simp at h⟩

theorem TRows.still {B : Nat} {w w' : World} {T : List RowS} (h : TRows B w T) (hb : ∀ r ∈ T, ∀ b, r.v.ownBlock = some b → w'.heap[b]? = w.heap[b]?) : TRows B w' T := ⟨fun r hr => (h.ok r hr).still (hb r hr), h.apart⟩

theorem TRows.below {B : Nat} {w w' : World} {T : List RowS} (h : TRows B w T) (hb : Below w.heap.size w w') : TRows B w' T := h.still fun r hr b e => hb.block b ((h.ok r hr).lt b e).2

theorem TRows.tame {B B' : Nat} {w w' : World} {T : List RowS} (h : TRows B w T) (ht : Tame B' w w') : TRows B w' T := ⟨fun r hr => ht.row (by decide) (h.ok r hr), h.apart⟩

theorem TRows.push {B : Nat} {w : World} {T : List RowS} (h : TRows B w T) : TRows B w (T ++ [⟨none, 0, 0, []⟩]) := by
  refine ⟨fun r hr => ?_, fun i j r s hij hi hj b hb => ?_⟩
  · rcases List.mem_append.1 hr with hr | hr
    · exact h.ok r hr
    · rw [List.mem_singleton.1 hr]
      exact ⟨by simp, rfl, .inl ⟨rfl, rfl⟩⟩
  · have key : ∀ (k : Nat) (q : RowS), (T ++ [(⟨none, 0, 0, []⟩ : RowS)])[k]? = some q → T[k]? = some q ∨ q.v.ownBlock = none := by
      intro k q hq
      by_cases hk : k < T.length
      · rw [List.getElem?_append_left hk] at hq; exact .inl hq
      · rw [List.getElem?_append_right (by omega)] at hq
        right
        have hm := List.mem_of_getElem? hq
        rw [List.mem_singleton.1 hm]
        rfl
    rcases key i r hi with hi | hi
    · rcases key j s hj with hj | hj
      · exact h.apart i j r s hij hi hj b hb
      · rw [hj]; exact fun e => nomatch e
    · rw [hi] at hb; cases hb

theorem TRows.set {B : Nat} {w w' : World} {T : List RowS} (h : TRows B w T) {i : Nat} {r r' : RowS} (hi : T[i]? = some r) (hok : OK encR 2 62 w' B r'.v r'.rs) (hg : w.grownBy w' r.v.ownBlock) (hb : r'.v.ownBlock = r.v.ownBlock ∨ r'.v.ownBlock = some w.heap.size) : TRows B w' (T.set i r') := by
  have hlt := (List.getElem?_eq_some_iff.1 hi).1
  have old : ∀ (j : Nat) (s : RowS), j ≠ i → T[j]? = some s → OK encR 2 62 w' B s.v s.rs := by
    intro j s hji hj
    refine (h.ok s (List.mem_of_getElem? hj)).still fun b e => hg.block b ((h.ok s (List.mem_of_getElem? hj)).lt b e).2 fun e2 => ?_
    exact h.apart j i s r hji hj hi b e e2.symm
  refine ⟨fun s hs => ?_, fun a b r1 r2 hab ha hb2 k hk => ?_⟩
  · obtain ⟨j, hj, e⟩ := List.mem_iff_getElem.1 hs
    by_cases hji : j = i
    · subst hji
      rw [List.getElem_set_self] at e
      rw [← e]
      exact hok
    · rw [List.getElem_set_ne (Ne.symm hji)] at e
      exact old j s hji (by rw [List.getElem?_eq_getElem (by simpa using hj), e])
  · by_cases hai : a = i
    · subst hai
      rw [List.getElem?_set_self hlt] at ha
      injection ha with ha
      subst ha
      rw [List.getElem?_set_ne hab] at hb2
      intro e
      have hl2 := ((h.ok r2 (List.mem_of_getElem? hb2)).lt k e).2
      rcases hb with hb | hb
      · exact h.apart a b r r2 hab hi hb2 k (by rw [← hb]; exact hk) e
      · rw [hb] at hk; injection hk with hk; omega
    · rw [List.getElem?_set_ne (Ne.symm hai)] at ha
      by_cases hbi : b = i
      · subst hbi
        rw [List.getElem?_set_self hlt] at hb2
        injection hb2 with hb2
        subst hb2
        intro e
        have hl2 := ((h.ok r1 (List.mem_of_getElem? ha)).lt k hk).2
        rcases hb with hb | hb
        · exact h.apart a b r1 r hab ha hi k hk (by rw [← hb]; exact e)
        · rw [hb] at e; injection e with e; omega
      · rw [List.getElem?_set_ne (Ne.symm hbi)] at hb2
        exact h.apart a b r1 r2 hab ha hb2 k hk

end Go.Proofs.Ytgahkloldpjnkaa
