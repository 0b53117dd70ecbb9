/-
  What link and cut need of a forest, in plain words: no way to a node, a neighbour above, joined by edges, how many edges.
-/
import Derived.Test.YtlhkajlkapoabaaLK29
namespace Go.Proofs.Ytlhkajlkapoabaa
open Go.RowKit Go.Maps
set_option linter.unusedVariables false

theorem line_nd {P : Nat → Option Nat} {rk : Nat → Nat} (hr : Ranks P rk) : ∀ {l : List Nat} {u : Option Nat}, Line P u l → l.Nodup
  | [], _, _ => List.nodup_nil
  | v :: l, u, ⟨h1, h2⟩ => List.nodup_cons.2 ⟨fun hm => Nat.lt_irrefl _ (line_rank hr h2 v hm), line_nd hr h2⟩

theorem line_rev_nd {P : Nat → Option Nat} (hr : ∃ rk, Ranks P rk) {l : List Nat} (h : Line P none l.reverse) : l.Nodup := by
  obtain ⟨rk, hr⟩ := hr
  exact (List.reverse_perm l).nodup_iff.1 (line_nd hr h)

/-- What is above a node of S is one of S. -/
def Shut (S : Nat → Prop) (P : Nat → Option Nat) : Prop := ∀ b g, S b → P b = some g → S g

theorem Fs.shut {S : Nat → Prop} {P : Nat → Option Nat} {N : Nat → NdL} {K : List (ST × Option Nat)} (h : Fs S P N K) : Shut S P := fun _ _ hb hg => h.up_in hb hg

theorem line_shut {S : Nat → Prop} {P : Nat → Option Nat} (hs : Shut S P) : ∀ (t : List Nat) (n : Nat), Line P none (n :: t).reverse → S n → ∀ b ∈ n :: t, S b
  | [], n, _, hn, b, hb => by rw [List.mem_singleton.1 hb]; exact hn
  | c :: t, n, h, hn, b, hb => by
    have e : (n :: c :: t).reverse = t.reverse ++ c :: [n] := by simp
    rw [e] at h
    obtain ⟨h1, h2⟩ := line_append.1 h
    have hc : S c := hs n c hn h2.1
    rcases List.mem_cons.1 hb with rfl | hb
    · exact hn
    · exact line_shut hs t c (by rw [List.reverse_cons]; exact h1) hc b hb

theorem lineP_shut {S : Nat → Prop} {P : Nat → Option Nat} (hs : Shut S P) {l : List Nat} (hn : l.Nodup) (hl : ∀ b ∈ l, S b) : Shut S (lineP P none l) := by
  intro b g hb hg
  by_cases hm : b ∈ l
  · rcases nxt_line (lineP_line (P := P) (u := none) hn) hm hg with h | h
    · exact hl g (nxt_mem h).1
    · cases h
  · rw [lineP_off hm] at hg
    exact hs b g hb hg

/-- Next to one another within S. -/
def AdjS (S : Nat → Prop) (P : Nat → Option Nat) (x y : Nat) : Prop := S x ∧ S y ∧ Adj P x y

theorem anc_conS {S : Nat → Prop} {P : Nat → Option Nat} (hs : Shut S P) {a z : Nat} (h : Anc P a z) : S z → S a ∧ Con (AdjS S P) a z := by
  induction h with
  | refl a => exact fun hz => ⟨hz, .refl _⟩
  | step _ e ih =>
    intro hz
    obtain ⟨h1, h2⟩ := ih hz
    have hg := hs _ _ h1 e
    exact ⟨hg, (Con.step (.refl _) ⟨hg, h1, .inr e⟩).trans h2⟩

theorem con_inv {R : Nat → Nat → Prop} {T : Nat → Prop} {a : Nat} (h0 : T a) (hstep : ∀ x y, R x y → T x → T y) {b : Nat} (h : Con R a b) : T b := by
  induction h with
  | refl => exact h0
  | step _ e ih => exact hstep _ _ e ih

/-- Where what is next to T is in T, no way leads out of it. -/
theorem no_reach {S : Nat → Prop} {P : Nat → Option Nat} {k z : Nat} (hs : Shut S P) (hr : ∃ rk, Ranks P rk) (hk : S k) (hz : S z) (T : Nat → Prop) (hT : T k) (hstep : ∀ x y, S x → S y → Adj P x y → T x → T y) (hnz : ¬ T z) (B : ST) (hB : Line P none (k :: B.list).reverse) : ¬ Anc (lineP P none (k :: B.list)) k z := by
  intro ha
  have hnd := line_rev_nd hr hB
  have hs' := lineP_shut hs hnd (line_shut hs B.list k hB hk)
  exact hnz (con_inv hT (fun x y e => hstep x y e.1 e.2.1 ((adj_lead hnd hB x y).1 e.2.2)) (anc_conS hs' ha hz).2)

/-- A neighbour of what has become the root hangs on it. -/
theorem is_above {P : Nat → Option Nat} {n z : Nat} (hr : ∃ rk, Ranks P rk) (h : Adj P n z) (B : ST) (hB : Line P none (n :: B.list).reverse) : lineP P none (n :: B.list) z = some n := by
  have hnd := line_rev_nd hr hB
  rcases (adj_lead hnd hB n z).2 h with e | e
  · have h0 : lineP P none (n :: B.list) n = none := (lineP_line (P := P) (u := none) hnd).1
    rw [h0] at e
    cases e
  · exact e

/-- What reaches tells, within S. -/
theorem reach_conS {S : Nat → Prop} {P : Nat → Option Nat} (hs : Shut S P) (hr : ∃ rk, Ranks P rk) {n z : Nat} (hn : S n) (hz : S z) (B : ST) (hB : Line P none (n :: B.list).reverse) : Anc (lineP P none (n :: B.list)) n z ↔ Con (AdjS S P) n z := by
  have hnd := line_rev_nd hr hB
  have hs' := lineP_shut hs hnd (line_shut hs B.list n hB hn)
  constructor
  · intro ha
    exact con_congr (fun a b e => ⟨e.1, e.2.1, (adj_lead hnd hB a b).1 e.2.2⟩) (anc_conS hs' ha hz).2
  · intro hc
    exact (reach_con hnd hB).2 (con_congr (fun a b e => e.2.2) hc)

/-- An edge lies between two vertices. -/
def LF.nx (F : LF) (x y : Int) : Prop := ∃ e ∈ F.es, (e.u = x ∧ e.v = y) ∨ (e.u = y ∧ e.v = x)

/-- Two vertices are joined. -/
inductive LF.Join (F : LF) (u : Int) : Int → Prop
  | refl : LF.Join F u u
  | step {x y : Int} : LF.Join F u x → F.nx x y → LF.Join F u y

theorem Gd.join {S : Nat → Prop} {P : Nat → Option Nat} {N : Nat → NdL} {F : LF} {vs es : Int → Option Nat} (h : Gd S P N F vs es) {u v : Int} {a b : Nat} (ha : vs u = some a) (hb : vs v = some b) : Con (AdjS S P) a b ↔ F.Join u v := by
  have hSv : ∀ u x, vs u = some x → S x := fun u x e => (h.full x).2 (.inl ⟨u, e⟩)
  have hSe : ∀ i x, es i = some x → S x := fun i x e => (h.full x).2 (.inr ⟨i, e⟩)
  constructor
  · intro hc
    have key := con_inv (T := fun x => (∃ x', vs x' = some x ∧ F.Join u x') ∨ ∃ e ∈ F.es, es e.id = some x ∧ F.Join u e.u ∧ F.Join u e.v) (.inl ⟨u, ha, .refl⟩) (fun x y hxy ht => by
      obtain ⟨hx, hy, hadj⟩ := hxy
      rcases ht with ⟨x', h1, h2⟩ | ⟨e, he, h1, h2, h3⟩
      · obtain ⟨i, hi⟩ := h.vadj x' x h1 y hy hadj
        obtain ⟨e, he, rfl⟩ := (h.ek i).1 ⟨y, hi⟩
        refine .inr ⟨e, he, hi, ?_⟩
        rcases (h.adj e he y hi x hx).1 hadj.symm with e1 | e1
        · have := h.vinj _ _ x e1 h1
          subst this
          exact ⟨h2, .step h2 ⟨e, he, .inl ⟨rfl, rfl⟩⟩⟩
        · have := h.vinj _ _ x e1 h1
          subst this
          exact ⟨.step h2 ⟨e, he, .inr ⟨rfl, rfl⟩⟩, h2⟩
      · rcases (h.adj e he x h1 y hy).1 hadj with e1 | e1
        · exact .inl ⟨e.u, e1, h2⟩
        · exact .inl ⟨e.v, e1, h3⟩) hc
    rcases key with ⟨x', h1, h2⟩ | ⟨e, he, h1, -⟩
    · have := h.vinj _ _ b h1 hb
      subst this
      exact h2
    · exact absurd h1 (h.apart v e.id b hb)
  · intro hj
    have key : ∀ y, F.Join u y → ∃ q, vs y = some q ∧ Con (AdjS S P) a q := by
      intro y hy
      induction hy with
      | refl => exact ⟨a, ha, .refl _⟩
      | @step x y _ hxy ih =>
        obtain ⟨q, hq, hc⟩ := ih
        obtain ⟨e, he, hxy⟩ := hxy
        obtain ⟨k, hk⟩ := (h.ek e.id).2 ⟨e, he, rfl⟩
        obtain ⟨h1, h2, -⟩ := h.ends e he
        have hkS := hSe _ _ hk
        have hqS := hSv _ _ hq
        rcases hxy with ⟨rfl, rfl⟩ | ⟨rfl, rfl⟩
        · obtain ⟨p, hp⟩ := (h.vk e.v).2 h2
          have hpS := hSv _ _ hp
          exact ⟨p, hp, .step (.step hc ⟨hqS, hkS, ((h.adj e he k hk q hqS).2 (.inl hq)).symm⟩) ⟨hkS, hpS, (h.adj e he k hk p hpS).2 (.inr hp)⟩⟩
        · obtain ⟨p, hp⟩ := (h.vk e.u).2 h1
          have hpS := hSv _ _ hp
          exact ⟨p, hp, .step (.step hc ⟨hqS, hkS, ((h.adj e he k hk q hqS).2 (.inr hq)).symm⟩) ⟨hkS, hpS, (h.adj e he k hk p hpS).2 (.inl hp)⟩⟩
    obtain ⟨q, hq, hc⟩ := key v hj
    rw [hb] at hq
    injection hq with hq
    exact hq ▸ hc

theorem inj_len {α β : Type} {R : α → β → Prop} : ∀ (E : List α) (V : List β), E.Nodup → (∀ e ∈ E, ∃ v ∈ V, R e v) → (∀ e ∈ E, ∀ e' ∈ E, ∀ v, R e v → R e' v → e = e') → E.length ≤ V.length
  | [], _, _, _, _ => Nat.zero_le _
  | e :: E, V, hn, h, hi => by
    obtain ⟨n1, n2⟩ := List.nodup_cons.1 hn
    obtain ⟨v, hv, hr⟩ := h e (List.mem_cons_self ..)
    obtain ⟨s, t, rfl⟩ := List.append_of_mem hv
    have := inj_len E (s ++ t) n2 (fun x hx => by
      obtain ⟨y, hy, hxy⟩ := h x (List.mem_cons_of_mem _ hx)
      refine ⟨y, ?_, hxy⟩
      rcases List.mem_append.1 hy with hy | hy
      · exact List.mem_append_left _ hy
      · rcases List.mem_cons.1 hy with e1 | hy
        · subst e1
          have := hi e (List.mem_cons_self ..) x (List.mem_cons_of_mem _ hx) y hr hxy
          exact absurd (this ▸ hx) n1
        · exact List.mem_append_right _ hy) (fun x hx y hy => hi x (List.mem_cons_of_mem _ hx) y (List.mem_cons_of_mem _ hy))
    simp only [List.length_append, List.length_cons] at this ⊢
    omega

theorem Gd.esnd {S : Nat → Prop} {P : Nat → Option Nat} {N : Nat → NdL} {F : LF} {vs es : Int → Option Nat} (h : Gd S P N F vs es) : F.es.Nodup := (List.pairwise_map.1 h.idnd).imp fun hne e => hne (by rw [e])

theorem Gd.fewE {S : Nat → Prop} {P : Nat → Option Nat} {N : Nat → NdL} {F : LF} {vs es : Int → Option Nat} (h : Gd S P N F vs es) : F.es.length ≤ F.vs.length := by
  have hSv : ∀ u x, vs u = some x → S x := fun u x e => (h.full x).2 (.inl ⟨u, e⟩)
  refine inj_len (R := fun e v => ∃ x k, vs v = some x ∧ es e.id = some k ∧ P x = some k) _ _ h.esnd (fun e he => ?_) (fun e he e' he' v hr hr' => ?_)
  · obtain ⟨k, hk⟩ := (h.ek e.id).2 ⟨e, he, rfl⟩
    obtain ⟨h1, h2, h3⟩ := h.ends e he
    obtain ⟨a, ha⟩ := (h.vk e.u).2 h1
    obtain ⟨b, hb⟩ := (h.vk e.v).2 h2
    have hka := (h.adj e he k hk a (hSv _ _ ha)).2 (.inl ha)
    have hkb := (h.adj e he k hk b (hSv _ _ hb)).2 (.inr hb)
    rcases hka with e1 | e1
    · rcases hkb with e2 | e2
      · rw [e1] at e2
        injection e2 with e2
        subst e2
        exact absurd (h.vinj _ _ a ha hb) h3
      · exact ⟨e.v, h2, b, k, hb, hk, e2⟩
    · exact ⟨e.u, h1, a, k, ha, hk, e1⟩
  · obtain ⟨x, k, h1, h2, h3⟩ := hr
    obtain ⟨x', k', h1', h2', h3'⟩ := hr'
    rw [h1] at h1'
    injection h1' with h1'
    subst h1'
    rw [h3] at h3'
    injection h3' with h3'
    subst h3'
    exact one_of_nodup h.idnd e he e' he' (h.einj _ _ k h2 h2')

theorem cnt_filter (N : Nat → NdL) : ∀ l : List Nat, cntE (eds N l) = (l.filter fun x => decide ((N x).e ≠ Eg.zero)).length
  | [] => rfl
  | x :: l => by
    have e : eds N (x :: l) = (N x).e :: eds N l := rfl
    rw [e, cntE_cons, cnt_filter N l]
    unfold Eg.stepK
    by_cases h : (N x).e = Eg.zero
    · rw [if_pos h, List.filter_cons, if_neg (by simpa using h)]; omega
    · rw [if_neg h, List.filter_cons, if_pos (by simpa using h), List.length_cons]; omega

theorem sum_cnt (N : Nat → NdL) : ∀ l : List Nat, (∀ x ∈ l, (N x).e.w ≤ 1099511627776) → sumE (eds N l) ≤ 1099511627776 * cntE (eds N l)
  | [], _ => Nat.le_refl _
  | x :: l, h => by
    have e : eds N (x :: l) = (N x).e :: eds N l := rfl
    have := sum_cnt N l fun y hy => h y (List.mem_cons_of_mem _ hy)
    have h1 := h x (List.mem_cons_self ..)
    rw [e, cntE_cons, sumE_cons]
    unfold Eg.stepK Eg.stepS
    by_cases h : (N x).e = Eg.zero
    · rw [if_pos h, if_pos h]; omega
    · rw [if_neg h, if_neg h]; omega

theorem LFAt.bounds {w : World} {f bv be : Nat} {S : Nat → Prop} {P : Nat → Option Nat} {N : Nat → NdL} {K : List (ST × Option Nat)} {vs es : Int → Option Nat} {F : LF} (h : LFAt w f bv be S P N K vs es F) : F.es.length ≤ 2048 ∧ cntE (eds N (allK K)) ≤ 2048 ∧ sumE (eds N (allK K)) ≤ 2048 * 1099511627776 := by
  have h1 := h.gd.fewE
  have h2 := h.few
  have hw : ∀ x ∈ allK K, (N x).e.w ≤ 1099511627776 := fun x hx => by
    rcases (h.gd.full x).1 ((h.at_.fs.part x).2 hx) with ⟨v, hv⟩ | ⟨i, hi⟩
    · rw [(h.gd.vN v x hv).1]; exact Nat.zero_le _
    · obtain ⟨e, he, rfl⟩ := (h.gd.ek i).1 ⟨x, hi⟩
      rw [h.gd.eN e he x hi]
      exact (h.eids e he).2.2
  have h3 : cntE (eds N (allK K)) ≤ F.es.length := by
    rw [cnt_filter]
    refine inj_len (R := fun x e => es e.id = some x) _ _ (h.at_.fs.nodup.filter _) (fun x hx => ?_) (fun x _ x' _ e h1 h2 => ?_)
    · obtain ⟨hx, hne⟩ := List.mem_filter.1 hx
      have hne : (N x).e ≠ Eg.zero := by simpa using hne
      rcases (h.gd.full x).1 ((h.at_.fs.part x).2 hx) with ⟨v, hv⟩ | ⟨i, hi⟩
      · exact absurd (h.gd.vN v x hv).1 hne
      · obtain ⟨e, he, rfl⟩ := (h.gd.ek i).1 ⟨x, hi⟩
        exact ⟨e, he, hi⟩
    · rw [h1] at h2
      injection h2
  have h4 := sum_cnt N (allK K) hw
  refine ⟨by omega, by omega, by omega⟩

end Go.Proofs.Ytlhkajlkapoabaa

/-
  The forest behind Joined; where Link refuses.
-/
namespace Go.Proofs.Ytlhkajlkapoabaa
open Go.RowKit Go.Maps
set_option linter.unusedVariables false

theorem Gd.same {S : Nat → Prop} {P P' : Nat → Option Nat} {N N' : Nat → NdL} {F : LF} {vs es : Int → Option Nat} (h : Gd S P N F vs es) (ha : ∀ x y, Adj P' x y ↔ Adj P x y) (he : ∀ b, (N' b).e = (N b).e ∧ (N' b).d = (N b).d) : Gd S P' N' F vs es where
  vk := h.vk
  ek := h.ek
  vnd := h.vnd
  idnd := h.idnd
  vinj := h.vinj
  einj := h.einj
  apart := h.apart
  full := h.full
  vN v a hv := ⟨(he a).1.trans (h.vN v a hv).1, (he a).2.trans (h.vN v a hv).2⟩
  eN e hm k hk := (he k).1.trans (h.eN e hm k hk)
  ends := h.ends
  adj e hm k hk x hx := (ha k x).trans (h.adj e hm k hk x hx)
  vadj v a hv x hx hh := h.vadj v a hv x hx ((ha a x).1 hh)

/-- The same forest, its nodes turned. -/
def LTurn (w : World) (f bv be : Nat) (S : Nat → Prop) (vs es : Int → Option Nat) (F : LF) (w' : World) : Prop :=
  ∃ P N K, LFAt w' f bv be S P N K vs es F ∧ Mod S w w'

open Classical in
noncomputable def LF.joinB (F : LF) (u v : Int) : Bool := decide (u ∈ F.vs ∧ v ∈ F.vs ∧ F.Join u v)

open Classical in
noncomputable def LF.joinX (F : LF) (u v : Int) : Int := if u ∈ F.vs ∧ v ∈ F.vs then 0 else 51

open Classical in
theorem LF.joinB_no (F : LF) {u v : Int} (h : ¬ (u ∈ F.vs ∧ v ∈ F.vs ∧ F.Join u v)) : F.joinB u v = false := decide_eq_false h

open Classical in
theorem LF.joinB_yes (F : LF) {u v : Int} (h : u ∈ F.vs ∧ v ∈ F.vs ∧ F.Join u v) : F.joinB u v = true := decide_eq_true h

section

variable {w w' : World} {f bv be : Nat} {S : Nat → Prop} {P : Nat → Option Nat} {N : Nat → NdL} {K : List (ST × Option Nat)} {vs es : Int → Option Nat} {F : LF}

theorem LFAt.below (h : LFAt w f bv be S P N K vs es F) (hb : Below w.heap.size w w') : LFAt w' f bv be S P N K vs es F := ⟨h.at_.below hb, h.gd, h.few, h.ids, h.eids⟩

theorem LFAt.vNone (h : LFAt w f bv be S P N K vs es F) {u : Int} (hu : u ∉ F.vs) : vs u = none := by
  cases hk : vs u with
  | none => rfl
  | some a => exact absurd ((h.gd.vk u).1 ⟨a, hk⟩) hu

theorem LFAt.eNone (h : LFAt w f bv be S P N K vs es F) {i : Int} (hu : i ∉ F.es.map Eg.id) : es i = none := by
  cases hk : es i with
  | none => rfl
  | some a =>
    obtain ⟨e, he, h1⟩ := (h.gd.ek i).1 ⟨a, hk⟩
    exact absurd (List.mem_map.2 ⟨e, he, h1⟩) hu

/-- What reaches leaves behind, as a forest. -/
theorem LFAt.toD (h : LFAt w f bv be S P N K vs es F) {a b : Nat} {B A : ST} {P1 : Nat → Option Nat} {N' : Nat → NdL} {K' : List (ST × Option Nat)} (D : ToD S P w N K a b w' B P1 N' K' A) : LFAt w' f bv be S P1 N' ((.node A b false .nil, none) :: K') vs es F :=
  ⟨h.at_.turn D.at_ D.mod D.fs, h.gd.same (fun x y => by rw [D.turn]; exact adj_lead (line_rev_nd h.at_.fs.rank D.line) D.line x y) D.same, h.few, h.ids, h.eids⟩

theorem LFAt.reach (h : LFAt w f bv be S P N K vs es F) {u v : Int} {a b : Nat} (ha : vs u = some a) (hb : vs v = some b) {B A : ST} {P1 : Nat → Option Nat} {N' : Nat → NdL} {K' : List (ST × Option Nat)} (D : ToD S P w N K a b w' B P1 N' K' A) : Anc P1 a b ↔ F.Join u v := by
  rw [D.turn, reach_conS h.at_.fs.shut h.at_.fs.rank (h.at_.vS _ _ ha) (h.at_.vS _ _ hb) B D.line]
  exact h.gd.join ha hb

theorem joined_any (h : LFAt w f bv be S P N K vs es F) (u v : Int) (hu : I64 u) (hv : I64 v) :
    Calls Try.prog 24 #[.pointer (some ⟨f, 0, none⟩), .int .i64 u, .int .i64 v] w fun e w' => e = .returned (.tuple #[.bool (F.joinB u v), .int .i64 (F.joinX u v)]) ∧ LTurn w f bv be S vs es F w' := by
  by_cases hm : u ∈ F.vs ∧ v ∈ F.vs
  · obtain ⟨a, ha⟩ := (h.gd.vk u).2 hm.1
    obtain ⟨b, hb⟩ := (h.gd.vk v).2 hm.2
    refine (joined_yes h.at_ u v hu hv a b ha hb).mono ?_
    rintro e w' ⟨r, rfl, B, P1, N', K', A, hr, D⟩
    have e2 : F.joinX u v = 0 := by unfold LF.joinX; rw [if_pos hm]
    have e1 : F.joinB u v = r := by
      rw [h.reach ha hb D] at hr
      by_cases hj : F.Join u v
      · rw [F.joinB_yes ⟨hm.1, hm.2, hj⟩, hr.2 hj]
      · rw [F.joinB_no fun hh => hj hh.2.2]
        cases hx : r
        · rfl
        · exact absurd (hr.1 hx) hj
    rw [e1, e2]
    exact ⟨rfl, _, _, _, h.toD D, D.mod⟩
  · have hn : vs u = none ∨ vs v = none := by
      by_cases h1 : u ∈ F.vs
      · exact .inr (h.vNone fun h2 => hm ⟨h1, h2⟩)
      · exact .inl (h.vNone h1)
    refine (joined_no h.at_ u v hu hv hn).mono ?_
    rintro e w' ⟨rfl, rfl⟩
    have e2 : F.joinX u v = 51 := by unfold LF.joinX; rw [if_neg hm]
    have e1 : F.joinB u v = false := F.joinB_no fun hh => hm ⟨hh.1, hh.2.1⟩
    rw [e1, e2]
    exact ⟨rfl, _, _, _, h, Mod.refl _ _⟩

def okId (v : Int) : Prop := 1 ≤ v ∧ v ≤ 2147483647

open Classical in
noncomputable def LF.linkE (F : LF) (id u v wt : Int) : Int := if okId id ∧ okId u ∧ okId v then (if wt < 0 ∨ 1099511627776 < wt then 53 else if id ∈ F.es.map Eg.id then 50 else if u ∈ F.vs ∧ v ∈ F.vs then (if F.Join u v then 151 else 0) else 51) else 1

theorem LTurn.of_below {W : World} (hb : Below w.heap.size w W) (h : LTurn W f bv be S vs es F w') : LTurn w f bv be S vs es F w' := by
  obtain ⟨P, N, K, h1, h2⟩ := h
  exact ⟨P, N, K, h1, (Mod.of_below hb _).trans' h2⟩

theorem LFAt.stays (h : LFAt w f bv be S P N K vs es F) (hb : Below w.heap.size w w') : LTurn w f bv be S vs es F w' := ⟨P, N, K, h.below hb, Mod.of_below hb _⟩

set_option maxRecDepth 100000 in
set_option maxHeartbeats 4000000 in
/-- Link refuses at once. -/
theorem link_no1 (h : LFAt w f bv be S P N K vs es F) (id u v wt : Int) (hi : I64 id) (hu : I64 u) (hv : I64 v) (hw : I64 wt) (hne : ¬ (okId id ∧ okId u ∧ okId v)) :
    Calls Try.prog 17 #[.pointer (some ⟨f, 0, none⟩), .agg #[.int .i64 id, .int .i64 u, .int .i64 v, .int .i64 wt]] w fun e w' => e = .returned (.int .i64 1) ∧ LTurn w f bv be S vs es F w' := by
  have k1 := fun w => isId_any id w
  have k2 := fun w => isId_any u w
  have k3 := fun w => isId_any v w
  have hb : Below w.heap.size w (w.alloc (.cells #[.int .i64 id, .int .i64 u, .int .i64 v, .int .i64 wt] 33)) := (Below.refl _ _).alloc (Nat.le_refl _) _
  have HT := Lib.hid (h.stays hb)
  by_cases h1 : okId id
  · rw [isIdI_yes h1] at k1
    by_cases h2 : okId u
    · rw [isIdI_yes h2] at k2
      have h3 : ¬ okId v := fun h3 => hne ⟨h1, h2, h3⟩
      rw [isIdI_no h3] at k3
      have K1 := Lib.hid k1
      have K2 := Lib.hid k2
      have K3 := Lib.hid k3
      clear h k1 k2 k3 h1 h2 h3 hne hb
      go_enter Try.func17, Try.ntmps17
      go_wp2_with fail
      refine (K1.out _).mono ?_
      rintro e w1 ⟨rfl, rfl⟩
      go_wp2_with fail
      refine (K2.out _).mono ?_
      rintro e w1 ⟨rfl, rfl⟩
      go_wp2_with fail
      refine (K3.out _).mono ?_
      rintro e w1 ⟨rfl, rfl⟩
      go_wp2_with fail
      go_ret
      exact ⟨rfl, HT.out⟩
    · rw [isIdI_no h2] at k2
      have K1 := Lib.hid k1
      have K2 := Lib.hid k2
      clear h k1 k2 k3 h1 h2 hne hb
      go_enter Try.func17, Try.ntmps17
      go_wp2_with fail
      refine (K1.out _).mono ?_
      rintro e w1 ⟨rfl, rfl⟩
      go_wp2_with fail
      refine (K2.out _).mono ?_
      rintro e w1 ⟨rfl, rfl⟩
      go_wp2_with fail
      go_ret
      exact ⟨rfl, HT.out⟩
  · rw [isIdI_no h1] at k1
    have K1 := Lib.hid k1
    clear h k1 k2 k3 h1 hne hb
    go_enter Try.func17, Try.ntmps17
    go_wp2_with fail
    refine (K1.out _).mono ?_
    rintro e w1 ⟨rfl, rfl⟩
    go_wp2_with fail
    go_ret
    exact ⟨rfl, HT.out⟩

end

end Go.Proofs.Ytlhkajlkapoabaa

/-
  Where Link refuses behind its ids.
-/
namespace Go.Proofs.Ytlhkajlkapoabaa
open Go.RowKit Go.Maps
set_option linter.unusedVariables false

section

variable {w w' : World} {f bv be : Nat} {S : Nat → Prop} {P : Nat → Option Nat} {N : Nat → NdL} {K : List (ST × Option Nat)} {vs es : Int → Option Nat} {F : LF}

set_option maxRecDepth 100000 in
set_option maxHeartbeats 4000000 in
theorem link_no2a (h : LFAt w f bv be S P N K vs es F) (id u v wt : Int) (hi : I64 id) (hu : I64 u) (hv : I64 v) (hw : I64 wt) (h1 : okId id) (h2 : okId u) (h3 : okId v) (h4 : wt < 0) :
    Calls Try.prog 17 #[.pointer (some ⟨f, 0, none⟩), .agg #[.int .i64 id, .int .i64 u, .int .i64 v, .int .i64 wt]] w fun e w' => e = .returned (.int .i64 53) ∧ LTurn w f bv be S vs es F w' := by
  have k1 := fun w => isId_any id w
  have k2 := fun w => isId_any u w
  have k3 := fun w => isId_any v w
  rw [isIdI_yes h1] at k1
  rw [isIdI_yes h2] at k2
  rw [isIdI_yes h3] at k3
  have hb : Below w.heap.size w (w.alloc (.cells #[.int .i64 id, .int .i64 u, .int .i64 v, .int .i64 wt] 33)) := (Below.refl _ _).alloc (Nat.le_refl _) _
  have HT := Lib.hid (h.stays hb)
  have d0 : decide (wt < 0) = true := by simpa using h4
  have K1 := Lib.hid k1
  have K2 := Lib.hid k2
  have K3 := Lib.hid k3
  clear h k1 k2 k3 h1 h2 h3 hb h4
  go_enter Try.func17, Try.ntmps17
  go_wp2_with fail
  refine (K1.out _).mono ?_
  rintro e w1 ⟨rfl, rfl⟩
  go_wp2_with fail
  refine (K2.out _).mono ?_
  rintro e w1 ⟨rfl, rfl⟩
  go_wp2_with fail
  refine (K3.out _).mono ?_
  rintro e w1 ⟨rfl, rfl⟩
  go_wp2_with fail
  go_ret
  exact ⟨rfl, HT.out⟩

set_option maxRecDepth 100000 in
set_option maxHeartbeats 4000000 in
theorem link_no2b (h : LFAt w f bv be S P N K vs es F) (id u v wt : Int) (hi : I64 id) (hu : I64 u) (hv : I64 v) (hw : I64 wt) (h1 : okId id) (h2 : okId u) (h3 : okId v) (h4 : ¬ wt < 0) (h5 : 1099511627776 < wt) :
    Calls Try.prog 17 #[.pointer (some ⟨f, 0, none⟩), .agg #[.int .i64 id, .int .i64 u, .int .i64 v, .int .i64 wt]] w fun e w' => e = .returned (.int .i64 53) ∧ LTurn w f bv be S vs es F w' := by
  have k1 := fun w => isId_any id w
  have k2 := fun w => isId_any u w
  have k3 := fun w => isId_any v w
  rw [isIdI_yes h1] at k1
  rw [isIdI_yes h2] at k2
  rw [isIdI_yes h3] at k3
  have hb : Below w.heap.size w (w.alloc (.cells #[.int .i64 id, .int .i64 u, .int .i64 v, .int .i64 wt] 33)) := (Below.refl _ _).alloc (Nat.le_refl _) _
  have HT := Lib.hid (h.stays hb)
  have d0 : decide (wt < 0) = false := by simpa using h4
  have d1 : decide (wt > 1099511627776) = true := by simpa using h5
  have K1 := Lib.hid k1
  have K2 := Lib.hid k2
  have K3 := Lib.hid k3
  clear h k1 k2 k3 h1 h2 h3 hb h4 h5
  go_enter Try.func17, Try.ntmps17
  go_wp2_with fail
  refine (K1.out _).mono ?_
  rintro e w1 ⟨rfl, rfl⟩
  go_wp2_with fail
  refine (K2.out _).mono ?_
  rintro e w1 ⟨rfl, rfl⟩
  go_wp2_with fail
  refine (K3.out _).mono ?_
  rintro e w1 ⟨rfl, rfl⟩
  go_wp2_with fail
  go_ret
  exact ⟨rfl, HT.out⟩

set_option maxRecDepth 100000 in
set_option maxHeartbeats 4000000 in
theorem link_no3 (h : LFAt w f bv be S P N K vs es F) (id u v wt : Int) (hi : I64 id) (hu : I64 u) (hv : I64 v) (hw : I64 wt) (h1 : okId id) (h2 : okId u) (h3 : okId v) (h4 : ¬ wt < 0) (h5 : ¬ 1099511627776 < wt) (h6 : id ∈ F.es.map Eg.id) :
    Calls Try.prog 17 #[.pointer (some ⟨f, 0, none⟩), .agg #[.int .i64 id, .int .i64 u, .int .i64 v, .int .i64 wt]] w fun e w' => e = .returned (.int .i64 50) ∧ LTurn w f bv be S vs es F w' := by
  have k1 := fun w => isId_any id w
  have k2 := fun w => isId_any u w
  have k3 := fun w => isId_any v w
  rw [isIdI_yes h1] at k1
  rw [isIdI_yes h2] at k2
  rw [isIdI_yes h3] at k3
  have hb : Below w.heap.size w (w.alloc (.cells #[.int .i64 id, .int .i64 u, .int .i64 v, .int .i64 wt] 33)) := (Below.refl _ _).alloc (Nat.le_refl _) _
  have d0 : decide (wt < 0) = false := by simpa using h4
  have d1 : decide (wt > 1099511627776) = false := by simpa using h5
  obtain ⟨W, hW⟩ : ∃ W, W = (w.alloc (.cells #[.int .i64 id, .int .i64 u, .int .i64 v, .int .i64 wt] 33)) := ⟨_, rfl⟩
  obtain ⟨g, hg⟩ : ∃ g, g = w.heap.size := ⟨_, rfl⟩
  have kW : Blk W g 33 #[.int .i64 id, .int .i64 u, .int .i64 v, .int .i64 wt] := by rw [hW, hg]; exact Blk.new _ _ _
  rw [← hW] at hb
  have HW := Lib.hid hW
  have HGG := Lib.hid hg
  have f1 : W.cell? ⟨f, 1, none⟩ = some (.map (some be)) := (h.at_.blk.below hb h.at_.blk.lt).cell 1
  have b0 : W.cell? ⟨g, 0, none⟩ = some (.int .i64 id) := kW.cell 0
  have b1 : W.cell? ⟨g, 1, none⟩ = some (.int .i64 u) := kW.cell 1
  have b2 : W.cell? ⟨g, 2, none⟩ = some (.int .i64 v) := kW.cell 2
  have b3 : W.cell? ⟨g, 3, none⟩ = some (.int .i64 wt) := kW.cell 3
  have hbd := hb.drew
  have hlk := (MapG.look_ok (X := kI) (h.at_.edges.same (hbd.block be h.at_.edges.lt)) Try.underlying62 (zeroQ _) pQ_zero (a := id) hi).1
  clear hW hg kW
  obtain ⟨k, hk⟩ := (h.gd.ek id).2 (List.mem_map.1 h6)
  rw [hk] at hlk
  have hl : (Instr.lookup 62 (.map (some be)) (.int .i64 id) true).run Try.prog W.drew = .ok (.tuple #[.pointer (some ⟨k, 0, none⟩), .bool true]) W.drew := hlk
  have HT := Lib.hid (h.stays hbd)
  have K1 := Lib.hid k1
  have K2 := Lib.hid k2
  have K3 := Lib.hid k3
  clear h k1 k2 k3 h1 h2 h3 hb h4 h5 h6 hk hlk hbd 
  go_enter Try.func17, Try.ntmps17
  go_wp2_with fail
  refine (K1.out _).mono ?_
  rintro e w1 ⟨rfl, rfl⟩
  go_wp2_with fail
  refine (K2.out _).mono ?_
  rintro e w1 ⟨rfl, rfl⟩
  go_wp2_with fail
  refine (K3.out _).mono ?_
  rintro e w1 ⟨rfl, rfl⟩
  go_wp2_with fail
  rw [← HW.out, ← HGG.out]
  go_region
  go_wp2_with fail
  go_ret
  exact ⟨rfl, HT.out⟩

set_option maxRecDepth 100000 in
set_option maxHeartbeats 4000000 in
theorem link_no4 (h : LFAt w f bv be S P N K vs es F) (id u v wt : Int) (hi : I64 id) (hu : I64 u) (hv : I64 v) (hw : I64 wt) (h1 : okId id) (h2 : okId u) (h3 : okId v) (h4 : ¬ wt < 0) (h5 : ¬ 1099511627776 < wt) (h6 : id ∉ F.es.map Eg.id) (h7 : ¬ (u ∈ F.vs ∧ v ∈ F.vs)) :
    Calls Try.prog 17 #[.pointer (some ⟨f, 0, none⟩), .agg #[.int .i64 id, .int .i64 u, .int .i64 v, .int .i64 wt]] w fun e w' => e = .returned (.int .i64 51) ∧ LTurn w f bv be S vs es F w' := by
  have k1 := fun w => isId_any id w
  have k2 := fun w => isId_any u w
  have k3 := fun w => isId_any v w
  rw [isIdI_yes h1] at k1
  rw [isIdI_yes h2] at k2
  rw [isIdI_yes h3] at k3
  have hb : Below w.heap.size w (w.alloc (.cells #[.int .i64 id, .int .i64 u, .int .i64 v, .int .i64 wt] 33)) := (Below.refl _ _).alloc (Nat.le_refl _) _
  have d0 : decide (wt < 0) = false := by simpa using h4
  have d1 : decide (wt > 1099511627776) = false := by simpa using h5
  obtain ⟨W, hW⟩ : ∃ W, W = (w.alloc (.cells #[.int .i64 id, .int .i64 u, .int .i64 v, .int .i64 wt] 33)) := ⟨_, rfl⟩
  obtain ⟨g, hg⟩ : ∃ g, g = w.heap.size := ⟨_, rfl⟩
  have kW : Blk W g 33 #[.int .i64 id, .int .i64 u, .int .i64 v, .int .i64 wt] := by rw [hW, hg]; exact Blk.new _ _ _
  rw [← hW] at hb
  have HW := Lib.hid hW
  have HGG := Lib.hid hg
  have f1 : W.cell? ⟨f, 1, none⟩ = some (.map (some be)) := (h.at_.blk.below hb h.at_.blk.lt).cell 1
  have b0 : W.cell? ⟨g, 0, none⟩ = some (.int .i64 id) := kW.cell 0
  have b1 : W.cell? ⟨g, 1, none⟩ = some (.int .i64 u) := kW.cell 1
  have b2 : W.cell? ⟨g, 2, none⟩ = some (.int .i64 v) := kW.cell 2
  have b3 : W.cell? ⟨g, 3, none⟩ = some (.int .i64 wt) := kW.cell 3
  have hbd := hb.drew
  have hlk := (MapG.look_ok (X := kI) (h.at_.edges.same (hbd.block be h.at_.edges.lt)) Try.underlying62 (zeroQ _) pQ_zero (a := id) hi).1
  clear hW hg kW
  rw [h.eNone h6] at hlk
  have hl : (Instr.lookup 62 (.map (some be)) (.int .i64 id) true).run Try.prog W.drew = .ok (.tuple #[.pointer none, .bool false]) W.drew := hlk
  have hj := joined_any (h.below hbd) u v hu hv
  have e2 : F.joinX u v = 51 := by unfold LF.joinX; rw [if_neg h7]
  have e1 : F.joinB u v = false := F.joinB_no fun hh => h7 ⟨hh.1, hh.2.1⟩
  rw [e1, e2] at hj
  have HJ := Lib.hid hj
  have HB := Lib.hid hbd
  have K1 := Lib.hid k1
  have K2 := Lib.hid k2
  have K3 := Lib.hid k3
  clear h k1 k2 k3 h1 h2 h3 hb h4 h5 h6 h7 hj e1 e2 hlk hbd 
  go_enter Try.func17, Try.ntmps17
  go_wp2_with fail
  refine (K1.out _).mono ?_
  rintro e w1 ⟨rfl, rfl⟩
  go_wp2_with fail
  refine (K2.out _).mono ?_
  rintro e w1 ⟨rfl, rfl⟩
  go_wp2_with fail
  refine (K3.out _).mono ?_
  rintro e w1 ⟨rfl, rfl⟩
  go_wp2_with fail
  rw [← HW.out, ← HGG.out]
  go_region
  go_wp2_with fail
  refine HJ.out.mono ?_
  rintro e w1 ⟨rfl, t1⟩
  have HT := Lib.hid (LTurn.of_below HB.out t1)
  clear t1
  go_wp2_with fail
  go_ret
  exact ⟨rfl, HT.out⟩

set_option maxRecDepth 100000 in
set_option maxHeartbeats 4000000 in
theorem link_no5 (h : LFAt w f bv be S P N K vs es F) (id u v wt : Int) (hi : I64 id) (hu : I64 u) (hv : I64 v) (hw : I64 wt) (h1 : okId id) (h2 : okId u) (h3 : okId v) (h4 : ¬ wt < 0) (h5 : ¬ 1099511627776 < wt) (h6 : id ∉ F.es.map Eg.id) (h7 : u ∈ F.vs ∧ v ∈ F.vs) (h8 : F.Join u v) :
    Calls Try.prog 17 #[.pointer (some ⟨f, 0, none⟩), .agg #[.int .i64 id, .int .i64 u, .int .i64 v, .int .i64 wt]] w fun e w' => e = .returned (.int .i64 151) ∧ LTurn w f bv be S vs es F w' := by
  have k1 := fun w => isId_any id w
  have k2 := fun w => isId_any u w
  have k3 := fun w => isId_any v w
  rw [isIdI_yes h1] at k1
  rw [isIdI_yes h2] at k2
  rw [isIdI_yes h3] at k3
  have hb : Below w.heap.size w (w.alloc (.cells #[.int .i64 id, .int .i64 u, .int .i64 v, .int .i64 wt] 33)) := (Below.refl _ _).alloc (Nat.le_refl _) _
  have d0 : decide (wt < 0) = false := by simpa using h4
  have d1 : decide (wt > 1099511627776) = false := by simpa using h5
  obtain ⟨W, hW⟩ : ∃ W, W = (w.alloc (.cells #[.int .i64 id, .int .i64 u, .int .i64 v, .int .i64 wt] 33)) := ⟨_, rfl⟩
  obtain ⟨g, hg⟩ : ∃ g, g = w.heap.size := ⟨_, rfl⟩
  have kW : Blk W g 33 #[.int .i64 id, .int .i64 u, .int .i64 v, .int .i64 wt] := by rw [hW, hg]; exact Blk.new _ _ _
  rw [← hW] at hb
  have HW := Lib.hid hW
  have HGG := Lib.hid hg
  have f1 : W.cell? ⟨f, 1, none⟩ = some (.map (some be)) := (h.at_.blk.below hb h.at_.blk.lt).cell 1
  have b0 : W.cell? ⟨g, 0, none⟩ = some (.int .i64 id) := kW.cell 0
  have b1 : W.cell? ⟨g, 1, none⟩ = some (.int .i64 u) := kW.cell 1
  have b2 : W.cell? ⟨g, 2, none⟩ = some (.int .i64 v) := kW.cell 2
  have b3 : W.cell? ⟨g, 3, none⟩ = some (.int .i64 wt) := kW.cell 3
  have hbd := hb.drew
  have hlk := (MapG.look_ok (X := kI) (h.at_.edges.same (hbd.block be h.at_.edges.lt)) Try.underlying62 (zeroQ _) pQ_zero (a := id) hi).1
  clear hW hg kW
  rw [h.eNone h6] at hlk
  have hl : (Instr.lookup 62 (.map (some be)) (.int .i64 id) true).run Try.prog W.drew = .ok (.tuple #[.pointer none, .bool false]) W.drew := hlk
  have hj := joined_any (h.below hbd) u v hu hv
  have e2 : F.joinX u v = 0 := by unfold LF.joinX; rw [if_pos h7]
  have e1 : F.joinB u v = true := F.joinB_yes ⟨h7.1, h7.2, h8⟩
  rw [e1, e2] at hj
  have HJ := Lib.hid hj
  have HB := Lib.hid hbd
  have K1 := Lib.hid k1
  have K2 := Lib.hid k2
  have K3 := Lib.hid k3
  clear h k1 k2 k3 h1 h2 h3 hb h4 h5 h6 h7 h8 hj e1 e2 hlk hbd 
  go_enter Try.func17, Try.ntmps17
  go_wp2_with fail
  refine (K1.out _).mono ?_
  rintro e w1 ⟨rfl, rfl⟩
  go_wp2_with fail
  refine (K2.out _).mono ?_
  rintro e w1 ⟨rfl, rfl⟩
  go_wp2_with fail
  refine (K3.out _).mono ?_
  rintro e w1 ⟨rfl, rfl⟩
  go_wp2_with fail
  rw [← HW.out, ← HGG.out]
  go_region
  go_wp2_with fail
  refine HJ.out.mono ?_
  rintro e w1 ⟨rfl, t1⟩
  have HT := Lib.hid (LTurn.of_below HB.out t1)
  clear t1
  go_wp2_with fail
  go_ret
  exact ⟨rfl, HT.out⟩

theorem link_no (h : LFAt w f bv be S P N K vs es F) (id u v wt : Int) (hi : I64 id) (hu : I64 u) (hv : I64 v) (hw : I64 wt) (hne : F.linkE id u v wt ≠ 0) :
    Calls Try.prog 17 #[.pointer (some ⟨f, 0, none⟩), .agg #[.int .i64 id, .int .i64 u, .int .i64 v, .int .i64 wt]] w fun e w' => e = .returned (.int .i64 (F.linkE id u v wt)) ∧ LTurn w f bv be S vs es F w' := by
  by_cases h0 : okId id ∧ okId u ∧ okId v
  · obtain ⟨h1, h2, h3⟩ := h0
    by_cases h4 : wt < 0
    · have e : F.linkE id u v wt = 53 := by unfold LF.linkE; rw [if_pos ⟨h1, h2, h3⟩, if_pos (.inl h4)]
      rw [e]; exact link_no2a h id u v wt hi hu hv hw h1 h2 h3 h4
    by_cases h5 : 1099511627776 < wt
    · have e : F.linkE id u v wt = 53 := by unfold LF.linkE; rw [if_pos ⟨h1, h2, h3⟩, if_pos (.inr h5)]
      rw [e]; exact link_no2b h id u v wt hi hu hv hw h1 h2 h3 h4 h5
    have hw' : ¬ (wt < 0 ∨ 1099511627776 < wt) := fun hh => hh.elim h4 h5
    by_cases h6 : id ∈ F.es.map Eg.id
    · have e : F.linkE id u v wt = 50 := by unfold LF.linkE; rw [if_pos ⟨h1, h2, h3⟩, if_neg hw', if_pos h6]
      rw [e]; exact link_no3 h id u v wt hi hu hv hw h1 h2 h3 h4 h5 h6
    by_cases h7 : u ∈ F.vs ∧ v ∈ F.vs
    · by_cases h8 : F.Join u v
      · have e : F.linkE id u v wt = 151 := by unfold LF.linkE; rw [if_pos ⟨h1, h2, h3⟩, if_neg hw', if_neg h6, if_pos h7, if_pos h8]
        rw [e]; exact link_no5 h id u v wt hi hu hv hw h1 h2 h3 h4 h5 h6 h7 h8
      · exact absurd (by unfold LF.linkE; rw [if_pos ⟨h1, h2, h3⟩, if_neg hw', if_neg h6, if_pos h7, if_neg h8]) hne
    · have e : F.linkE id u v wt = 51 := by unfold LF.linkE; rw [if_pos ⟨h1, h2, h3⟩, if_neg hw', if_neg h6, if_neg h7]
      rw [e]; exact link_no4 h id u v wt hi hu hv hw h1 h2 h3 h4 h5 h6 h7
  · have e : F.linkE id u v wt = 1 := by unfold LF.linkE; rw [if_neg h0]
    rw [e]; exact link_no1 h id u v wt hi hu hv hw h0

end

end Go.Proofs.Ytlhkajlkapoabaa
