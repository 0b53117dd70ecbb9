/-
  Ways and being joined, in plain words; which edges are on the way between two vertices; what is told of them.
-/
import Derived.Test.YtlhkajlkapoabaaZLK36
namespace Go.Proofs.Ytlhkajlkapoabaa
open Go.RowKit Go.Maps
set_option linter.unusedVariables false

theorem nxt_snoc {l : List Nat} {b c x y : Nat} (h : Nxt (l ++ [b] ++ [c]) x y) : Nxt (l ++ [b]) x y ∨ (x = b ∧ y = c) := by
  obtain ⟨s, t, e⟩ := h
  rcases snoc_or (l := t) with rfl | ⟨k, d, rfl⟩
  · have e : (l ++ [b]) ++ [c] = (s ++ [x]) ++ [y] := by rw [e]; simp
    obtain ⟨e1, e2⟩ := List.append_inj' e rfl
    obtain ⟨e3, e4⟩ := List.append_inj' e1 rfl
    injection e2 with e2
    injection e4 with e4
    exact .inr ⟨e4.symm, e2.symm⟩
  · have e : (l ++ [b]) ++ [c] = (s ++ x :: y :: k) ++ [d] := by rw [e]; simp
    obtain ⟨e1, e2⟩ := List.append_inj' e rfl
    exact .inl ⟨s, k, e1⟩

/-- Whoever is joined has a way. -/
theorem con_way {R : Nat → Nat → Prop} {a b : Nat} (h : Con R a b) : ∃ L, Way R a b L ∧ ∀ x ∈ L, x = a ∨ ∃ y, R y x := by
  induction h with
  | refl => exact ⟨[a], ⟨by simp, ⟨[], rfl⟩, ⟨[], rfl⟩, fun x y hn => by
      obtain ⟨s, t, e⟩ := hn
      cases s with
      | nil => simp at e
      | cons z s => simp at e⟩, fun x hx => .inl (List.mem_singleton.1 hx)⟩
  | @step b c _ hbc ih =>
    obtain ⟨L, W, hm⟩ := ih
    by_cases hc : c ∈ L
    · obtain ⟨s, t, e⟩ := List.append_of_mem hc
      have hs : ∀ x ∈ s ++ [c], x ∈ L := fun x hx => by
        rw [e]
        rcases List.mem_append.1 hx with hx | hx
        · exact List.mem_append_left _ hx
        · rw [List.mem_singleton.1 hx]; simp
      refine ⟨s ++ [c], ⟨?_, ?_, ⟨s, rfl⟩, fun x y hxy => W.next x y ?_⟩, fun x hx => hm x (hs x hx)⟩
      · have hn := W.nodup
        have e : L = (s ++ [c]) ++ t := by rw [e]; simp
        rw [e] at hn
        exact (List.nodup_append.1 hn).1
      · obtain ⟨t', e'⟩ := W.first
        cases s with
        | nil =>
          rw [e'] at e
          injection e with e1 e2
          exact ⟨[], by rw [e1]; rfl⟩
        | cons z s =>
          rw [e'] at e
          injection e with e1 e2
          exact ⟨s ++ [c], by rw [e1]; rfl⟩
      · obtain ⟨p, q, e2⟩ := hxy
        exact ⟨p, q ++ t, by rw [e, show s ++ c :: t = (s ++ [c]) ++ t by simp, e2]; simp⟩
    · refine ⟨L ++ [c], ⟨?_, ?_, ⟨L, rfl⟩, fun x y hxy => ?_⟩, fun x hx => ?_⟩
      · exact List.nodup_append.2 ⟨W.nodup, by simp, fun x hx y hy e => hc (by rw [List.mem_singleton.1 hy] at e; exact e ▸ hx)⟩
      · obtain ⟨t, e⟩ := W.first
        exact ⟨t ++ [c], by rw [e]; rfl⟩
      · obtain ⟨s, e⟩ := W.last
        rw [e] at hxy
        rcases nxt_snoc hxy with h1 | ⟨rfl, rfl⟩
        · rw [← e] at h1; exact W.next x y h1
        · exact hbc
      · rcases List.mem_append.1 hx with hx | hx
        · exact hm x hx
        · rw [List.mem_singleton.1 hx]; exact .inr ⟨b, hbc⟩

theorem way_con_aux {R : Nat → Nat → Prop} {b : Nat} : ∀ (t : List Nat) (a : Nat), (∃ s, a :: t = s ++ [b]) → (∀ x y, Nxt (a :: t) x y → R x y) → Con (fun x y => R x y ∧ x ∈ a :: t ∧ y ∈ a :: t) a b
  | [], a, ⟨s, e⟩, _ => by
    cases s with
    | nil => injection e with e _; subst e; exact .refl _
    | cons z s => simp at e
  | c :: t, a, ⟨s, e⟩, h => by
    have h1 := h a c ⟨[], t, rfl⟩
    have e' : ∃ s, c :: t = s ++ [b] := by
      cases s with
      | nil => simp at e
      | cons z s => injection e with _ e; exact ⟨s, e⟩
    have ih := way_con_aux t c e' fun x y hxy => h x y (hxy.cons a)
    exact (Con.step (.refl _) ⟨h1, by simp, by simp⟩).trans (con_congr (fun x y hh => ⟨hh.1, List.mem_cons_of_mem _ hh.2.1, List.mem_cons_of_mem _ hh.2.2⟩) ih)

/-- A way joins its ends. -/
theorem Way.con {R : Nat → Nat → Prop} {a b : Nat} {L : List Nat} (W : Way R a b L) : Con (fun x y => R x y ∧ x ∈ L ∧ y ∈ L) a b := by
  obtain ⟨t, e⟩ := W.first
  have h1 := W.last
  have h2 := W.next
  rw [e] at h1 h2 ⊢
  exact way_con_aux t a h1 h2

/-- Without an edge. -/
def LF.less (F : LF) (id : Int) : LF := ⟨F.vs, F.es.filter fun x => x.id != id⟩

section

variable {S : Nat → Prop} {P : Nat → Option Nat} {N : Nat → NdL} {F : LF} {vs es : Int → Option Nat}

theorem Gd.joinLess (h : Gd S P N F vs es) {e : Eg} (he : e ∈ F.es) {k : Nat} (hk : es e.id = some k) {u v : Int} {a b : Nat} (ha : vs u = some a) (hb : vs v = some b) : Con (AdjS (fun x => S x ∧ x ≠ k) P) a b ↔ (F.less e.id).Join u v := by
  obtain ⟨h1, h2, -⟩ := h.ends e he
  obtain ⟨p, hp⟩ := (h.vk e.u).2 h1
  obtain ⟨q, hq⟩ := (h.vk e.v).2 h2
  have hg : Gd (fun x => S x ∧ x ≠ k) P (fun x => { N x with d := (N x).d - if x = p ∨ x = q then 1 else 0 }) (F.less e.id) vs (fun i => if i = e.id then none else es i) :=
    h.cut he hk hp hq (fun x y _ _ _ _ => Iff.rfl) (fun x _ _ => rfl) (fun x _ _ => by show (N x).d = (N x).d - (if x = p ∨ x = q then 1 else 0) + _; omega)
  exact hg.join ha hb

/-- An edge is on a way just if the two are not joined without it. -/
theorem Gd.onWay (h : Gd S P N F vs es) (hr : ∃ rk, Ranks P rk) {e : Eg} (he : e ∈ F.es) {k : Nat} (hk : es e.id = some k) {u v : Int} {a b : Nat} (ha : vs u = some a) (hb : vs v = some b) {L : List Nat} (W : Way (Adj P) a b L) (hL : ∀ x ∈ L, S x) : k ∈ L ↔ ¬ (F.less e.id).Join u v := by
  have hak : a ≠ k := fun e1 => h.apart _ _ a ha (e1 ▸ hk)
  constructor
  · intro hm hj
    obtain ⟨L', W', hm'⟩ := con_way ((h.joinLess he hk ha hb).2 hj)
    have W2 : Way (Adj P) a b L' := ⟨W'.nodup, W'.first, W'.last, fun x y hxy => (W'.next x y hxy).2.2⟩
    rw [way_one hr W W2] at hm
    rcases hm' k hm with e1 | ⟨y, hy⟩
    · exact hak e1.symm
    · exact hy.2.1.2 rfl
  · intro hn
    by_cases hm : k ∈ L
    · exact hm
    · exact absurd ((h.joinLess he hk ha hb).1 (con_congr (fun x y hxy => ⟨⟨hL x hxy.2.1, fun e1 => hm (e1 ▸ hxy.2.1)⟩, ⟨hL y hxy.2.2, fun e1 => hm (e1 ▸ hxy.2.2)⟩, hxy.1⟩) W.con)) hn

/-- An edge's ends are not joined without it. -/
theorem Gd.tree (h : Gd S P N F vs es) (hr : ∃ rk, Ranks P rk) {e : Eg} (he : e ∈ F.es) : ¬ (F.less e.id).Join e.u e.v := by
  obtain ⟨h1, h2, h3⟩ := h.ends e he
  obtain ⟨a, ha⟩ := (h.vk e.u).2 h1
  obtain ⟨b, hb⟩ := (h.vk e.v).2 h2
  obtain ⟨k, hk⟩ := (h.ek e.id).2 ⟨e, he, rfl⟩
  have haS : S a := (h.full a).2 (.inl ⟨_, ha⟩)
  have hbS : S b := (h.full b).2 (.inl ⟨_, hb⟩)
  have hkS : S k := (h.full k).2 (.inr ⟨_, hk⟩)
  have hak : a ≠ k := fun e1 => h.apart _ _ a ha (e1 ▸ hk)
  have hbk : b ≠ k := fun e1 => h.apart _ _ b hb (e1 ▸ hk)
  have hab : a ≠ b := fun e1 => h3 (h.vinj _ _ a ha (e1 ▸ hb))
  have W : Way (Adj P) a b [a, k, b] := by
    refine ⟨?_, ⟨_, rfl⟩, ⟨[a, k], rfl⟩, fun x y hxy => ?_⟩
    · simp [hak, hab, hbk.symm]
    · have e3 : [a, k, b] = [a] ++ [k] ++ [b] := rfl
      rw [e3] at hxy
      rcases nxt_snoc hxy with hxy | ⟨rfl, rfl⟩
      · have e2 : [a] ++ [k] = [] ++ [a] ++ [k] := rfl
        rw [e2] at hxy
        rcases nxt_snoc hxy with hxy | ⟨rfl, rfl⟩
        · obtain ⟨s, t, e⟩ := hxy
          cases s with
          | nil => simp at e
          | cons z s => simp at e
        · exact ((h.adj e he y hk x haS).2 (.inl ha)).symm
      · exact (h.adj e he x hk y hbS).2 (.inr hb)
  exact (h.onWay hr he hk ha hb W (fun x hx => by simp at hx; rcases hx with rfl | rfl | rfl <;> assumption)).1 (by simp)

end

end Go.Proofs.Ytlhkajlkapoabaa

/-
  What is told of a way is that of the edges without which its ends are not joined; the contract of Along.
-/
namespace Go.Proofs.Ytlhkajlkapoabaa
open Go.RowKit Go.Maps
set_option linter.unusedVariables false

open Classical in
/-- The edges between two vertices. -/
noncomputable def LF.path (F : LF) (u v : Int) : List Eg := if u ∈ F.vs ∧ v ∈ F.vs ∧ F.Join u v then F.es.filter fun e => decide (¬ (F.less e.id).Join u v) else []

open Classical in
theorem LF.path_yes {F : LF} {u v : Int} (h : u ∈ F.vs ∧ v ∈ F.vs ∧ F.Join u v) (e : Eg) : e ∈ F.path u v ↔ e ∈ F.es ∧ ¬ (F.less e.id).Join u v := by
  unfold LF.path
  rw [if_pos h, List.mem_filter, decide_eq_true_iff]

theorem LF.path_no {F : LF} {u v : Int} (h : ¬ (u ∈ F.vs ∧ v ∈ F.vs ∧ F.Join u v)) : F.path u v = [] := by
  unfold LF.path
  rw [if_neg h]

theorem LF.path_sub (F : LF) (u v : Int) : (F.path u v).Sublist F.es := by
  unfold LF.path
  split
  · exact List.filter_sublist
  · exact List.nil_sublist _

/-- The greatest of some edges; none is the zero edge. -/
def best : List Eg → Eg
  | [] => Eg.zero
  | e :: L => if e.above (best L) then e else best L

theorem isMax_one (e : Eg) : IsMax e [e] := ⟨List.mem_singleton.2 rfl, fun x hx => by rw [List.mem_singleton.1 hx]; exact (above_no _ _).2 (by omega)⟩

theorem best_max : ∀ L : List Eg, IsMax (best L) (Eg.zero :: L)
  | [] => isMax_one _
  | e :: L => by
    have k := isMax_pick (best_max L) (isMax_one e)
    refine k.perm ?_
    show (Eg.zero :: (L ++ [e])).Perm (Eg.zero :: e :: L)
    exact (List.perm_append_singleton e L).cons _

theorem IsMax.congr {m : Eg} {L L' : List Eg} (h : IsMax m L) (hm : ∀ x, x ∈ L' ↔ x ∈ L) : IsMax m L' := ⟨(hm m).2 h.1, fun e he => h.2 e ((hm e).1 he)⟩

theorem max_one {m m' : Eg} {L : List Eg} (h : IsMax m L) (h' : IsMax m' L) (hu : ∀ x ∈ L, ∀ y ∈ L, x.id = y.id → x = y) : m = m' := by
  have h1 := (above_no _ _).1 (h.2 m' h'.1)
  have h2 := (above_no _ _).1 (h'.2 m h.1)
  exact hu m h.1 m' h'.1 (by omega)

theorem sum_skip : ∀ L : List Eg, sumE L = sumE (L.filter fun e => decide (e ≠ Eg.zero)) ∧ cntE L = cntE (L.filter fun e => decide (e ≠ Eg.zero))
  | [] => ⟨rfl, rfl⟩
  | e :: L => by
    obtain ⟨h1, h2⟩ := sum_skip L
    by_cases h : e = Eg.zero
    · rw [List.filter_cons, if_neg (by simpa using h), sumE_cons, cntE_cons, h1, h2]
      unfold Eg.stepS Eg.stepK
      rw [if_pos h, if_pos h]
      omega
    · rw [List.filter_cons, if_pos (by simpa using h), sumE_cons, cntE_cons, sumE_cons, cntE_cons, h1, h2]
      exact ⟨rfl, rfl⟩

section

variable {w w' : World} {f bv be : Nat} {S : Nat → Prop} {P : Nat → Option Nat} {N : Nat → NdL} {K : List (ST × Option Nat)} {vs es : Int → Option Nat} {F : LF}

theorem LFAt.told (h : LFAt w f bv be S P N K vs es F) {u v : Int} {a b : Nat} (ha : vs u = some a) (hb : vs v = some b) {B A : ST} {P1 : Nat → Option Nat} {N' : Nat → NdL} {K' : List (ST × Option Nat)} (D : ToD S P w N K a b w' B P1 N' K' A) (hj : Anc P1 a b) :
    (N' b).m = best (F.path u v) ∧ (N' b).s = sumE (F.path u v) ∧ (N' b).k = cntE (F.path u v) := by
  obtain ⟨W, T⟩ := D.way (line_rev_nd h.at_.fs.rank D.line) hj
  have hL : ∀ x ∈ A.list ++ [b], S x := fun x hx => by
    refine (D.fs.part x).2 ?_
    rw [allK_cons]
    refine List.mem_append_left _ ?_
    have e : (ST.node A b false .nil).list = A.list ++ [b] := by simp [ST.list]
    rw [← e] at hx
    exact (ST.perm_flat _).mem_iff.1 hx
  obtain ⟨L, hLe⟩ : ∃ L, L = A.list ++ [b] := ⟨_, rfl⟩
  rw [← hLe] at W T hL
  have hj' : u ∈ F.vs ∧ v ∈ F.vs ∧ F.Join u v := ⟨(h.gd.vk u).1 ⟨a, ha⟩, (h.gd.vk v).1 ⟨b, hb⟩, (h.reach ha hb D).1 hj⟩
  have hmem := F.path_yes hj'
  have hez : ∀ e ∈ F.es, e ≠ Eg.zero := fun e he hz => by have := (h.eids e he).1; rw [hz] at this; exact absurd this (by decide)
  have hnode : ∀ x ∈ L, (N x).e ≠ Eg.zero → (N x).e ∈ F.es ∧ es (N x).e.id = some x := fun x hx hz => by
    rcases (h.gd.full x).1 (hL x hx) with ⟨y, hy⟩ | ⟨i, hi⟩
    · exact absurd (h.gd.vN y x hy).1 hz
    · obtain ⟨e, he, rfl⟩ := (h.gd.ek i).1 ⟨x, hi⟩
      rw [h.gd.eN e he x hi]
      exact ⟨he, hi⟩
  have hin : ∀ e, e ∈ F.path u v ↔ e ∈ eds N L ∧ e ≠ Eg.zero := fun e => by
    rw [hmem e]
    constructor
    · rintro ⟨he, hs⟩
      obtain ⟨k, hk⟩ := (h.gd.ek e.id).2 ⟨e, he, rfl⟩
      have hkL := (h.gd.onWay h.at_.fs.rank he hk ha hb W hL).2 hs
      exact ⟨List.mem_map.2 ⟨k, hkL, h.gd.eN e he k hk⟩, hez e he⟩
    · rintro ⟨he, hz⟩
      obtain ⟨x, hx, rfl⟩ := List.mem_map.1 he
      obtain ⟨h1, h2⟩ := hnode x hx hz
      exact ⟨h1, (h.gd.onWay h.at_.fs.rank h1 h2 ha hb W hL).1 hx⟩
  have hnd1 : ((eds N L).filter fun e => decide (e ≠ Eg.zero)).Nodup := by
    unfold eds
    rw [List.filter_map]
    refine List.pairwise_map.2 (List.Pairwise.imp_of_mem (fun {x y} hx hy hne e => hne ?_) (W.nodup.filter _))
    obtain ⟨hx1, hx2⟩ := List.mem_filter.1 hx
    obtain ⟨hy1, hy2⟩ := List.mem_filter.1 hy
    have hx2 : (N x).e ≠ Eg.zero := by simpa using hx2
    have hy2 : (N y).e ≠ Eg.zero := by simpa using hy2
    have k1 := (hnode x hx1 hx2).2
    have k2 := (hnode y hy1 hy2).2
    rw [e, k2] at k1
    injection k1 with k1
    exact k1.symm
  have hp : ((eds N L).filter fun e => decide (e ≠ Eg.zero)).Perm (F.path u v) := (List.perm_ext_iff_of_nodup hnd1 (h.gd.esnd.sublist (F.path_sub u v))).2 fun e => by
    rw [hin e, List.mem_filter, decide_eq_true_iff]
  refine ⟨?_, ?_, ?_⟩
  · refine max_one (T.max.congr (L' := Eg.zero :: F.path u v) fun x => ?_) (best_max _) (fun x hx y hy hxy => ?_)
    · rw [List.mem_cons, hin x]
      constructor
      · rintro (rfl | h1)
        · obtain ⟨t, e⟩ := W.first
          exact List.mem_map.2 ⟨a, by rw [e]; exact List.mem_cons_self .., (h.gd.vN u a ha).1⟩
        · exact h1.1
      · intro hx
        by_cases hz : x = Eg.zero
        · exact .inl hz
        · exact .inr ⟨hx, hz⟩
    · have hid : ∀ z ∈ F.path u v, z ∈ F.es ∧ z.id ≠ 0 := fun z hz => ⟨((hmem z).1 hz).1, by have := (h.eids z ((hmem z).1 hz).1).1; omega⟩
      rcases List.mem_cons.1 hx with rfl | hx <;> rcases List.mem_cons.1 hy with rfl | hy
      · rfl
      · exact absurd hxy.symm (hid y hy).2
      · exact absurd hxy (hid x hx).2
      · exact one_of_nodup h.gd.idnd x (hid x hx).1 y (hid y hy).1 hxy
  · rw [T.s, (sum_skip _).1, sumE_perm hp]
  · rw [T.k, (sum_skip _).2, cntE_perm hp]

open Classical in
noncomputable def LF.alongX (F : LF) (u v : Int) : Int := if u ∈ F.vs ∧ v ∈ F.vs then (if F.Join u v then 0 else 61) else 51

/-- What is told of a way. -/
noncomputable def LF.alongV (F : LF) (u v : Int) : Value := .agg (agC (best (F.path u v)) (fl (sumE (F.path u v))) (fl (cntE (F.path u v))))

theorem LF.alongV_no {F : LF} {u v : Int} (h : ¬ (u ∈ F.vs ∧ v ∈ F.vs ∧ F.Join u v)) : F.alongV u v = .agg (agC Eg.zero 0 0) := by
  unfold LF.alongV
  rw [F.path_no h]
  show Value.agg (agC Eg.zero (fl 0) (fl 0)) = _
  rw [fl_zero']

theorem along_any (h : LFAt w f bv be S P N K vs es F) (u v : Int) (hu : I64 u) (hv : I64 v) :
    Calls Try.prog 16 #[.pointer (some ⟨f, 0, none⟩), .int .i64 u, .int .i64 v] w fun e w' => e = .returned (.tuple #[F.alongV u v, .int .i64 (F.alongX u v)]) ∧ LTurn w f bv be S vs es F w' := by
  by_cases hm : u ∈ F.vs ∧ v ∈ F.vs
  · obtain ⟨a, ha⟩ := (h.gd.vk u).2 hm.1
    obtain ⟨b, hb⟩ := (h.gd.vk v).2 hm.2
    refine (along_yes h.at_ u v hu hv a b ha hb).mono ?_
    rintro e w' ⟨B, P1, N', K', A, D, hh⟩
    have hr := h.reach ha hb D
    rcases hh with ⟨h1, rfl⟩ | ⟨h1, rfl⟩
    · have hj : ¬ F.Join u v := fun hj => h1 (hr.2 hj)
      have e2 : F.alongX u v = 61 := by unfold LF.alongX; rw [if_pos hm, if_neg hj]
      rw [e2, LF.alongV_no fun hh => hj hh.2.2]
      exact ⟨rfl, _, _, _, h.toD D, D.mod⟩
    · have hj := hr.1 h1
      have e2 : F.alongX u v = 0 := by unfold LF.alongX; rw [if_pos hm, if_pos hj]
      obtain ⟨t1, t2, t3⟩ := h.told ha hb D h1
      rw [e2, t1, t2, t3]
      exact ⟨rfl, _, _, _, h.toD D, D.mod⟩
  · have hn : vs u = none ∨ vs v = none := by
      by_cases h1 : u ∈ F.vs
      · exact .inr (h.vNone fun h2 => hm ⟨h1, h2⟩)
      · exact .inl (h.vNone h1)
    refine (along_no h.at_ u v hu hv hn).mono ?_
    rintro e w' ⟨rfl, hb⟩
    have e2 : F.alongX u v = 51 := by unfold LF.alongX; rw [if_neg hm]
    rw [e2, LF.alongV_no fun hh => hm ⟨hh.1, hh.2.1⟩]
    exact ⟨rfl, _, _, _, h.below hb, Mod.of_below hb _⟩

end

end Go.Proofs.Ytlhkajlkapoabaa
