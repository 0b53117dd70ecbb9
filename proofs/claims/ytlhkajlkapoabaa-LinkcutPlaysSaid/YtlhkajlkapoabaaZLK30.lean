/-
  What link and cut need of a forest, in plain words: no way to a node, a neighbour above, joined by edges, how many edges.
-/
import Derived.Test.YtlhkajlkapoabaaLK29
namespace Go.Proofs.Ytlhkajlkapoabaa
open Go.RowKit Go.Maps
set_option linter.unusedVariables false

theorem line_nd {P : Nat → Option Nat} {rk : Nat → Nat} (hr : Ranks P rk) : ∀ {l : List Nat} {u : Option Nat}, Line P u l → l.Nodup
  | [], _, _ => List.nodup_nil
  | v :: l, u, ⟨h1, h2⟩ => List.nodup_cons.2 ⟨fun hm => Nat.lt_irrefl _ (line_rank hr h2 v hm), line_nd hr h2⟩

theorem line_rev_nd {P : Nat → Option Nat} (hr : ∃ rk, Ranks P rk) {l : List Nat} (h : Line P none l.reverse) : l.Nodup := by
  obtain ⟨rk, hr⟩ := hr
  exact (List.reverse_perm l).nodup_iff.1 (line_nd hr h)

/-- What is above a node of S is one of S. -/
def Shut (S : Nat → Prop) (P : Nat → Option Nat) : Prop := ∀ b g, S b → P b = some g → S g

theorem Fs.shut {S : Nat → Prop} {P : Nat → Option Nat} {N : Nat → NdL} {K : List (ST × Option Nat)} (h : Fs S P N K) : Shut S P := fun _ _ hb hg => h.up_in hb hg

theorem line_shut {S : Nat → Prop} {P : Nat → Option Nat} (hs : Shut S P) : ∀ (t : List Nat) (n : Nat), Line P none (n :: t).reverse → S n → ∀ b ∈ n :: t, S b
  | [], n, _, hn, b, hb => by rw [List.mem_singleton.1 hb]; exact hn
  | c :: t, n, h, hn, b, hb => by
    have e : (n :: c :: t).reverse = t.reverse ++ c :: [n] := by simp
    rw [e] at h
    obtain ⟨h1, h2⟩ := line_append.1 h
    have hc : S c := hs n c hn h2.1
    rcases List.mem_cons.1 hb with rfl | hb
    · exact hn
    · exact line_shut hs t c (by rw [List.reverse_cons]; exact h1) hc b hb

theorem lineP_shut {S : Nat → Prop} {P : Nat → Option Nat} (hs : Shut S P) {l : List Nat} (hn : l.Nodup) (hl : ∀ b ∈ l, S b) : Shut S (lineP P none l) := by
  intro b g hb hg
  by_cases hm : b ∈ l
  · rcases nxt_line (lineP_line (P := P) (u := none) hn) hm hg with h | h
    · exact hl g (nxt_mem h).1
    · cases h
  · rw [lineP_off hm] at hg
    exact hs b g hb hg

/-- Next to one another within S. -/
def AdjS (S : Nat → Prop) (P : Nat → Option Nat) (x y : Nat) : Prop := S x ∧ S y ∧ Adj P x y

theorem anc_conS {S : Nat → Prop} {P : Nat → Option Nat} (hs : Shut S P) {a z : Nat} (h : Anc P a z) : S z → S a ∧ Con (AdjS S P) a z := by
  induction h with
  | refl a => exact fun hz => ⟨hz, .refl _⟩
  | step _ e ih =>
    intro hz
    obtain ⟨h1, h2⟩ := ih hz
    have hg := hs _ _ h1 e
    exact ⟨hg, (Con.step (.refl _) ⟨hg, h1, .inr e⟩).trans h2⟩

theorem con_inv {R : Nat → Nat → Prop} {T : Nat → Prop} {a : Nat} (h0 : T a) (hstep : ∀ x y, R x y → T x → T y) {b : Nat} (h : Con R a b) : T b := by
  induction h with
  | refl => exact h0
  | step _ e ih => exact hstep _ _ e ih

/-- Where what is next to T is in T, no way leads out of it. -/
theorem no_reach {S : Nat → Prop} {P : Nat → Option Nat} {k z : Nat} (hs : Shut S P) (hr : ∃ rk, Ranks P rk) (hk : S k) (hz : S z) (T : Nat → Prop) (hT : T k) (hstep : ∀ x y, S x → S y → Adj P x y → T x → T y) (hnz : ¬ T z) (B : ST) (hB : Line P none (k :: B.list).reverse) : ¬ Anc (lineP P none (k :: B.list)) k z := by
  intro ha
  have hnd := line_rev_nd hr hB
  have hs' := lineP_shut hs hnd (line_shut hs B.list k hB hk)
  exact hnz (con_inv hT (fun x y e => hstep x y e.1 e.2.1 ((adj_lead hnd hB x y).1 e.2.2)) (anc_conS hs' ha hz).2)

/-- A neighbour of what has become the root hangs on it. -/
theorem is_above {P : Nat → Option Nat} {n z : Nat} (hr : ∃ rk, Ranks P rk) (h : Adj P n z) (B : ST) (hB : Line P none (n :: B.list).reverse) : lineP P none (n :: B.list) z = some n := by
  have hnd := line_rev_nd hr hB
  rcases (adj_lead hnd hB n z).2 h with e | e
  · have h0 : lineP P none (n :: B.list) n = none := (lineP_line (P := P) (u := none) hnd).1
    rw [h0] at e
    cases e
  · exact e

/-- What reaches tells, within S. -/
theorem reach_conS {S : Nat → Prop} {P : Nat → Option Nat} (hs : Shut S P) (hr : ∃ rk, Ranks P rk) {n z : Nat} (hn : S n) (hz : S z) (B : ST) (hB : Line P none (n :: B.list).reverse) : Anc (lineP P none (n :: B.list)) n z ↔ Con (AdjS S P) n z := by
  have hnd := line_rev_nd hr hB
  have hs' := lineP_shut hs hnd (line_shut hs B.list n hB hn)
  constructor
  · intro ha
    exact con_congr (fun a b e => ⟨e.1, e.2.1, (adj_lead hnd hB a b).1 e.2.2⟩) (anc_conS hs' ha hz).2
  · intro hc
    exact (reach_con hnd hB).2 (con_congr (fun a b e => e.2.2) hc)

/-- An edge lies between two vertices. -/
def LF.nx (F : LF) (x y : Int) : Prop := ∃ e ∈ F.es, (e.u = x ∧ e.v = y) ∨ (e.u = y ∧ e.v = x)

/-- Two vertices are joined. -/
inductive LF.Join (F : LF) (u : Int) : Int → Prop
  | refl : LF.Join F u u
  | step {x y : Int} : LF.Join F u x → F.nx x y → LF.Join F u y

theorem Gd.join {S : Nat → Prop} {P : Nat → Option Nat} {N : Nat → NdL} {F : LF} {vs es : Int → Option Nat} (h : Gd S P N F vs es) {u v : Int} {a b : Nat} (ha : vs u = some a) (hb : vs v = some b) : Con (AdjS S P) a b ↔ F.Join u v := by
  have hSv : ∀ u x, vs u = some x → S x := fun u x e => (h.full x).2 (.inl ⟨u, e⟩)
  have hSe : ∀ i x, es i = some x → S x := fun i x e => (h.full x).2 (.inr ⟨i, e⟩)
  constructor
  · intro hc
    have key := con_inv (T := fun x => (∃ x', vs x' = some x ∧ F.Join u x') ∨ ∃ e ∈ F.es, es e.id = some x ∧ F.Join u e.u ∧ F.Join u e.v) (.inl ⟨u, ha, .refl⟩) (fun x y hxy ht => by
      obtain ⟨hx, hy, hadj⟩ := hxy
      rcases ht with ⟨x', h1, h2⟩ | ⟨e, he, h1, h2, h3⟩
      · obtain ⟨i, hi⟩ := h.vadj x' x h1 y hy hadj
        obtain ⟨e, he, rfl⟩ := (h.ek i).1 ⟨y, hi⟩
        refine .inr ⟨e, he, hi, ?_⟩
        rcases (h.adj e he y hi x hx).1 hadj.symm with e1 | e1
        · have := h.vinj _ _ x e1 h1
          subst this
          exact ⟨h2, .step h2 ⟨e, he, .inl ⟨rfl, rfl⟩⟩⟩
        · have := h.vinj _ _ x e1 h1
          subst this
          exact ⟨.step h2 ⟨e, he, .inr ⟨rfl, rfl⟩⟩, h2⟩
      · rcases (h.adj e he x h1 y hy).1 hadj with e1 | e1
        · exact .inl ⟨e.u, e1, h2⟩
        · exact .inl ⟨e.v, e1, h3⟩) hc
    rcases key with ⟨x', h1, h2⟩ | ⟨e, he, h1, -⟩
    · have := h.vinj _ _ b h1 hb
      subst this
      exact h2
    · exact absurd h1 (h.apart v e.id b hb)
  · intro hj
    have key : ∀ y, F.Join u y → ∃ q, vs y = some q ∧ Con (AdjS S P) a q := by
      intro y hy
      induction hy with
      | refl => exact ⟨a, ha, .refl _⟩
      | @step x y _ hxy ih =>
        obtain ⟨q, hq, hc⟩ := ih
        obtain ⟨e, he, hxy⟩ := hxy
        obtain ⟨k, hk⟩ := (h.ek e.id).2 ⟨e, he, rfl⟩
        obtain ⟨h1, h2, -⟩ := h.ends e he
        have hkS := hSe _ _ hk
        have hqS := hSv _ _ hq
        rcases hxy with ⟨rfl, rfl⟩ | ⟨rfl, rfl⟩
        · obtain ⟨p, hp⟩ := (h.vk e.v).2 h2
          have hpS := hSv _ _ hp
          exact ⟨p, hp, .step (.step hc ⟨hqS, hkS, ((h.adj e he k hk q hqS).2 (.inl hq)).symm⟩) ⟨hkS, hpS, (h.adj e he k hk p hpS).2 (.inr hp)⟩⟩
        · obtain ⟨p, hp⟩ := (h.vk e.u).2 h1
          have hpS := hSv _ _ hp
          exact ⟨p, hp, .step (.step hc ⟨hqS, hkS, ((h.adj e he k hk q hqS).2 (.inr hq)).symm⟩) ⟨hkS, hpS, (h.adj e he k hk p hpS).2 (.inl hp)⟩⟩
    obtain ⟨q, hq, hc⟩ := key v hj
    rw [hb] at hq
    injection hq with hq
    exact hq ▸ hc

theorem inj_len {α β : Type} {R : α → β → Prop} : ∀ (E : List α) (V : List β), E.Nodup → (∀ e ∈ E, ∃ v ∈ V, R e v) → (∀ e ∈ E, ∀ e' ∈ E, ∀ v, R e v → R e' v → e = e') → E.length ≤ V.length
  | [], _, _, _, _ => Nat.zero_le _
  | e :: E, V, hn, h, hi => by
    obtain ⟨n1, n2⟩ := List.nodup_cons.1 hn
    obtain ⟨v, hv, hr⟩ := h e (List.mem_cons_self ..)
    obtain ⟨s, t, rfl⟩ := List.append_of_mem hv
    have := inj_len E (s ++ t) n2 (fun x hx => by
      obtain ⟨y, hy, hxy⟩ := h x (List.mem_cons_of_mem _ hx)
      refine ⟨y, ?_, hxy⟩
      rcases List.mem_append.1 hy with hy | hy
      · exact List.mem_append_left _ hy
      · rcases List.mem_cons.1 hy with e1 | hy
        · subst e1
          have := hi e (List.mem_cons_self ..) x (List.mem_cons_of_mem _ hx) y hr hxy
          exact absurd (this ▸ hx) n1
        · exact List.mem_append_right _ hy) (fun x hx y hy => hi x (List.mem_cons_of_mem _ hx) y (List.mem_cons_of_mem _ hy))
    simp only [List.length_append, List.length_cons] at this ⊢
    omega

theorem Gd.esnd {S : Nat → Prop} {P : Nat → Option Nat} {N : Nat → NdL} {F : LF} {vs es : Int → Option Nat} (h : Gd S P N F vs es) : F.es.Nodup := (List.pairwise_map.1 h.idnd).imp fun hne e => hne (by rw [e])

theorem Gd.fewE {S : Nat → Prop} {P : Nat → Option Nat} {N : Nat → NdL} {F : LF} {vs es : Int → Option Nat} (h : Gd S P N F vs es) : F.es.length ≤ F.vs.length := by
  have hSv : ∀ u x, vs u = some x → S x := fun u x e => (h.full x).2 (.inl ⟨u, e⟩)
  refine inj_len (R := fun e v => ∃ x k, vs v = some x ∧ es e.id = some k ∧ P x = some k) _ _ h.esnd (fun e he => ?_) (fun e he e' he' v hr hr' => ?_)
  · obtain ⟨k, hk⟩ := (h.ek e.id).2 ⟨e, he, rfl⟩
    obtain ⟨h1, h2, h3⟩ := h.ends e he
    obtain ⟨a, ha⟩ := (h.vk e.u).2 h1
    obtain ⟨b, hb⟩ := (h.vk e.v).2 h2
    have hka := (h.adj e he k hk a (hSv _ _ ha)).2 (.inl ha)
    have hkb := (h.adj e he k hk b (hSv _ _ hb)).2 (.inr hb)
    rcases hka with e1 | e1
    · rcases hkb with e2 | e2
      · rw [e1] at e2
        injection e2 with e2
        subst e2
        exact absurd (h.vinj _ _ a ha hb) h3
      · exact ⟨e.v, h2, b, k, hb, hk, e2⟩
    · exact ⟨e.u, h1, a, k, ha, hk, e1⟩
  · obtain ⟨x, k, h1, h2, h3⟩ := hr
    obtain ⟨x', k', h1', h2', h3'⟩ := hr'
    rw [h1] at h1'
    injection h1' with h1'
    subst h1'
    rw [h3] at h3'
    injection h3' with h3'
    subst h3'
    exact one_of_nodup h.idnd e he e' he' (h.einj _ _ k h2 h2')

theorem cnt_filter (N : Nat → NdL) : ∀ l : List Nat, cntE (eds N l) = (l.filter fun x => decide ((N x).e ≠ Eg.zero)).length
  | [] => rfl
  | x :: l => by
    have e : eds N (x :: l) = (N x).e :: eds N l := rfl
    rw [e, cntE_cons, cnt_filter N l]
    unfold Eg.stepK
    by_cases h : (N x).e = Eg.zero
    · rw [if_pos h, List.filter_cons, if_neg (by simpa using h)]; omega
    · rw [if_neg h, List.filter_cons, if_pos (by simpa using h), List.length_cons]; omega

theorem sum_cnt (N : Nat → NdL) : ∀ l : List Nat, (∀ x ∈ l, (N x).e.w ≤ 1099511627776) → sumE (eds N l) ≤ 1099511627776 * cntE (eds N l)
  | [], _ => Nat.le_refl _
  | x :: l, h => by
    have e : eds N (x :: l) = (N x).e :: eds N l := rfl
    have := sum_cnt N l fun y hy => h y (List.mem_cons_of_mem _ hy)
    have h1 := h x (List.mem_cons_self ..)
    rw [e, cntE_cons, sumE_cons]
    unfold Eg.stepK Eg.stepS
    by_cases h : (N x).e = Eg.zero
    · rw [if_pos h, if_pos h]; omega
    · rw [if_neg h, if_neg h]; omega

theorem LFAt.bounds {w : World} {f bv be : Nat} {S : Nat → Prop} {P : Nat → Option Nat} {N : Nat → NdL} {K : List (ST × Option Nat)} {vs es : Int → Option Nat} {F : LF} (h : LFAt w f bv be S P N K vs es F) : F.es.length ≤ 2048 ∧ cntE (eds N (allK K)) ≤ 2048 ∧ sumE (eds N (allK K)) ≤ 2048 * 1099511627776 := by
  have h1 := h.gd.fewE
  have h2 := h.few
  have hw : ∀ x ∈ allK K, (N x).e.w ≤ 1099511627776 := fun x hx => by
    rcases (h.gd.full x).1 ((h.at_.fs.part x).2 hx) with ⟨v, hv⟩ | ⟨i, hi⟩
    · rw [(h.gd.vN v x hv).1]; exact Nat.zero_le _
    · obtain ⟨e, he, rfl⟩ := (h.gd.ek i).1 ⟨x, hi⟩
      rw [h.gd.eN e he x hi]
      exact (h.eids e he).2.2
  have h3 : cntE (eds N (allK K)) ≤ F.es.length := by
    rw [cnt_filter]
    refine inj_len (R := fun x e => es e.id = some x) _ _ (h.at_.fs.nodup.filter _) (fun x hx => ?_) (fun x _ x' _ e h1 h2 => ?_)
    · obtain ⟨hx, hne⟩ := List.mem_filter.1 hx
      have hne : (N x).e ≠ Eg.zero := by simpa using hne
      rcases (h.gd.full x).1 ((h.at_.fs.part x).2 hx) with ⟨v, hv⟩ | ⟨i, hi⟩
      · exact absurd (h.gd.vN v x hv).1 hne
      · obtain ⟨e, he, rfl⟩ := (h.gd.ek i).1 ⟨x, hi⟩
        exact ⟨e, he, hi⟩
    · rw [h1] at h2
      injection h2
  have h4 := sum_cnt N (allK K) hw
  refine ⟨by omega, by omega, by omega⟩

end Go.Proofs.Ytlhkajlkapoabaa

/-
  The forest behind Joined; where Link refuses.
-/
namespace Go.Proofs.Ytlhkajlkapoabaa
open Go.RowKit Go.Maps
set_option linter.unusedVariables false

theorem Gd.same {S : Nat → Prop} {P P' : Nat → Option Nat} {N N' : Nat → NdL} {F : LF} {vs es : Int → Option Nat} (h : Gd S P N F vs es) (ha : ∀ x y, Adj P' x y ↔ Adj P x y) (he : ∀ b, (N' b).e = (N b).e ∧ (N' b).d = (N b).d) : Gd S P' N' F vs es where
  vk := h.vk
  ek := h.ek
  vnd := h.vnd
  idnd := h.idnd
  vinj := h.vinj
  einj := h.einj
  apart := h.apart
  full := h.full
  vN v a hv := ⟨(he a).1.trans (h.vN v a hv).1, (he a).2.trans (h.vN v a hv).2⟩
  eN e hm k hk := (he k).1.trans (h.eN e hm k hk)
  ends := h.ends
  adj e hm k hk x hx := (ha k x).trans (h.adj e hm k hk x hx)
  vadj v a hv x hx hh := h.vadj v a hv x hx ((ha a x).1 hh)

/-- The same forest, its nodes turned. -/
def LTurn (w : World) (f bv be : Nat) (S : Nat → Prop) (vs es : Int → Option Nat) (F : LF) (w' : World) : Prop :=
  ∃ P N K, LFAt w' f bv be S P N K vs es F ∧ Mod S w w'

open Classical in
noncomputable def LF.joinB (F : LF) (u v : Int) : Bool := decide (u ∈ F.vs ∧ v ∈ F.vs ∧ F.Join u v)

open Classical in
noncomputable def LF.joinX (F : LF) (u v : Int) : Int := if u ∈ F.vs ∧ v ∈ F.vs then 0 else 51

open Classical in
theorem LF.joinB_no (F : LF) {u v : Int} (h : ¬ (u ∈ F.vs ∧ v ∈ F.vs ∧ F.Join u v)) : F.joinB u v = false := decide_eq_false h

open Classical in
theorem LF.joinB_yes (F : LF) {u v : Int} (h : u ∈ F.vs ∧ v ∈ F.vs ∧ F.Join u v) : F.joinB u v = true := decide_eq_true h

section

variable {w w' : World} {f bv be : Nat} {S : Nat → Prop} {P : Nat → Option Nat} {N : Nat → NdL} {K : List (ST × Option Nat)} {vs es : Int → Option Nat} {F : LF}

theorem LFAt.below (h : LFAt w f bv be S P N K vs es F) (hb : Below w.heap.size w w') : LFAt w' f bv be S P N K vs es F := ⟨h.at_.below hb, h.gd, h.few, h.ids, h.eids⟩

theorem LFAt.vNone (h : LFAt w f bv be S P N K vs es F) {u : Int} (hu : u ∉ F.vs) : vs u = none := by
  cases hk : vs u with
  | none => rfl
  | some a => exact absurd ((h.gd.vk u).1 ⟨a, hk⟩) hu

theorem LFAt.eNone (h : LFAt w f bv be S P N K vs es F) {i : Int} (hu : i ∉ F.es.map Eg.id) : es i = none := by
  cases hk : es i with
  | none => rfl
  | some a =>
    obtain ⟨e, he, h1⟩ := (h.gd.ek i).1 ⟨a, hk⟩
    exact absurd (List.mem_map.2 ⟨e, he, h1⟩) hu

/-- What reaches leaves behind, as a forest. -/
theorem LFAt.toD (h : LFAt w f bv be S P N K vs es F) {a b : Nat} {B A : ST} {P1 : Nat → Option Nat} {N' : Nat → NdL} {K' : List (ST × Option Nat)} (D : ToD S P w N K a b w' B P1 N' K' A) : LFAt w' f bv be S P1 N' ((.node A b false .nil, none) :: K') vs es F :=
  ⟨h.at_.turn D.at_ D.mod D.fs, h.gd.same (fun x y => by rw [D.turn]; exact adj_lead (line_rev_nd h.at_.fs.rank D.line) D.line x y) D.same, h.few, h.ids, h.eids⟩

theorem LFAt.reach (h : LFAt w f bv be S P N K vs es F) {u v : Int} {a b : Nat} (ha : vs u = some a) (hb : vs v = some b) {B A : ST} {P1 : Nat → Option Nat} {N' : Nat → NdL} {K' : List (ST × Option Nat)} (D : ToD S P w N K a b w' B P1 N' K' A) : Anc P1 a b ↔ F.Join u v := by
  rw [D.turn, reach_conS h.at_.fs.shut h.at_.fs.rank (h.at_.vS _ _ ha) (h.at_.vS _ _ hb) B D.line]
  exact h.gd.join ha hb

theorem joined_any (h : LFAt w f bv be S P N K vs es F) (u v : Int) (hu : I64 u) (hv : I64 v) :
    Calls Try.prog 24 #[.pointer (some ⟨f, 0, none⟩), .int .i64 u, .int .i64 v] w fun e w' => e = .returned (.tuple #[.bool (F.joinB u v), .int .i64 (F.joinX u v)]) ∧ LTurn w f bv be S vs es F w' := by
  by_cases hm : u ∈ F.vs ∧ v ∈ F.vs
  · obtain ⟨a, ha⟩ := (h.gd.vk u).2 hm.1
    obtain ⟨b, hb⟩ := (h.gd.vk v).2 hm.2
    refine (joined_yes h.at_ u v hu hv a b ha hb).mono ?_
    rintro e w' ⟨r, rfl, B, P1, N', K', A, hr, D⟩
    have e2 : F.joinX u v = 0 := by unfold LF.joinX; rw [if_pos hm]
    have e1 : F.joinB u v = r := by
      rw [h.reach ha hb D] at hr
      by_cases hj : F.Join u v
      · rw [F.joinB_yes ⟨hm.1, hm.2, hj⟩, hr.2 hj]
      · rw [F.joinB_no fun hh => hj hh.2.2]
        cases hx : r
        · rfl
        · exact absurd (hr.1 hx) hj
    rw [e1, e2]
    exact ⟨rfl, _, _, _, h.toD D, D.mod⟩
  · have hn : vs u = none ∨ vs v = none := by
      by_cases h1 : u ∈ F.vs
      · exact .inr (h.vNone fun h2 => hm ⟨h1, h2⟩)
      · exact .inl (h.vNone h1)
    refine (joined_no h.at_ u v hu hv hn).mono ?_
    rintro e w' ⟨rfl, rfl⟩
    have e2 : F.joinX u v = 51 := by unfold LF.joinX; rw [if_neg hm]
    have e1 : F.joinB u v = false := F.joinB_no fun hh => hm ⟨hh.1, hh.2.1⟩
    rw [e1, e2]
    exact ⟨rfl, _, _, _, h, Mod.refl _ _⟩

def okId (v : Int) : Prop := 1 ≤ v ∧ v ≤ 2147483647

open Classical in
noncomputable def LF.linkE (F : LF) (id u v wt : Int) : Int := if okId id ∧ okId u ∧ okId v then (if wt < 0 ∨ 1099511627776 < wt then 53 else if id ∈ F.es.map Eg.id then 50 else if u ∈ F.vs ∧ v ∈ F.vs then (if F.Join u v then 151 else 0) else 51) else 1

theorem LTurn.of_below {W : World} (hb : Below w.heap.size w W) (h : LTurn W f bv be S vs es F w') : LTurn w f bv be S vs es F w' := by
  obtain ⟨P, N, K, h1, h2⟩ := h
  exact ⟨P, N, K, h1, (Mod.of_below hb _).trans' h2⟩

theorem LFAt.stays (h : LFAt w f bv be S P N K vs es F) (hb : Below w.heap.size w w') : LTurn w f bv be S vs es F w' := ⟨P, N, K, h.below hb, Mod.of_below hb _⟩

set_option maxRecDepth 100000 in
set_option maxHeartbeats 4000000 in
/-- Link refuses at once. -/
theorem link_no1 (h : LFAt w f bv be S P N K vs es F) (id u v wt : Int) (hi : I64 id) (hu : I64 u) (hv : I64 v) (hw : I64 wt) (hne : ¬ (okId id ∧ okId u ∧ okId v)) :
    Calls Try.prog 17 #[.pointer (some ⟨f, 0, none⟩), .agg #[.int .i64 id, .int .i64 u, .int .i64 v, .int .i64 wt]] w fun e w' => e = .returned (.int .i64 1) ∧ LTurn w f bv be S vs es F w' := by
  have k1 := fun w => isId_any id w
  have k2 := fun w => isId_any u w
  have k3 := fun w => isId_any v w
  have hb : Below w.heap.size w (w.alloc (.cells #[.int .i64 id, .int .i64 u, .int .i64 v, .int .i64 wt] 33)) := (Below.refl _ _).alloc (Nat.le_refl _) _
  have HT := Lib.hid (h.stays hb)
  by_cases h1 : okId id
  · rw [isIdI_yes h1] at k1
    by_cases h2 : okId u
    · rw [isIdI_yes h2] at k2
      have h3 : ¬ okId v := fun h3 => hne ⟨h1, h2, h3⟩
      rw [isIdI_no h3] at k3
      have K1 := Lib.hid k1
      have K2 := Lib.hid k2
      have K3 := Lib.hid k3
      clear h k1 k2 k3 h1 h2 h3 hne hb
      go_enter Try.func17, Try.ntmps17
      go_wp2_with fail
      refine (K1.out _).mono ?_
      rintro e w1 ⟨rfl, rfl⟩
      go_wp2_with fail
      refine (K2.out _).mono ?_
      rintro e w1 ⟨rfl, rfl⟩
      go_wp2_with fail
      refine (K3.out _).mono ?_
      rintro e w1 ⟨rfl, rfl⟩
      go_wp2_with fail
      go_ret
      exact ⟨rfl, HT.out⟩
    · rw [isIdI_no h2] at k2
      have K1 := Lib.hid k1
      have K2 := Lib.hid k2
      clear h k1 k2 k3 h1 h2 hne hb
      go_enter Try.func17, Try.ntmps17
      go_wp2_with fail
      refine (K1.out _).mono ?_
      rintro e w1 ⟨rfl, rfl⟩
      go_wp2_with fail
      refine (K2.out _).mono ?_
      rintro e w1 ⟨rfl, rfl⟩
      go_wp2_with fail
      go_ret
      exact ⟨rfl, HT.out⟩
  · rw [isIdI_no h1] at k1
    have K1 := Lib.hid k1
    clear h k1 k2 k3 h1 hne hb
    go_enter Try.func17, Try.ntmps17
    go_wp2_with fail
    refine (K1.out _).mono ?_
    rintro e w1 ⟨rfl, rfl⟩
    go_wp2_with fail
    go_ret
    exact ⟨rfl, HT.out⟩

end

end Go.Proofs.Ytlhkajlkapoabaa

/-
  Where Link refuses behind its ids.
-/
namespace Go.Proofs.Ytlhkajlkapoabaa
open Go.RowKit Go.Maps
set_option linter.unusedVariables false

section

variable {w w' : World} {f bv be : Nat} {S : Nat → Prop} {P : Nat → Option Nat} {N : Nat → NdL} {K : List (ST × Option Nat)} {vs es : Int → Option Nat} {F : LF}

set_option maxRecDepth 100000 in
set_option maxHeartbeats 4000000 in
theorem link_no2a (h : LFAt w f bv be S P N K vs es F) (id u v wt : Int) (hi : I64 id) (hu : I64 u) (hv : I64 v) (hw : I64 wt) (h1 : okId id) (h2 : okId u) (h3 : okId v) (h4 : wt < 0) :
    Calls Try.prog 17 #[.pointer (some ⟨f, 0, none⟩), .agg #[.int .i64 id, .int .i64 u, .int .i64 v, .int .i64 wt]] w fun e w' => e = .returned (.int .i64 53) ∧ LTurn w f bv be S vs es F w' := by
  have k1 := fun w => isId_any id w
  have k2 := fun w => isId_any u w
  have k3 := fun w => isId_any v w
  rw [isIdI_yes h1] at k1
  rw [isIdI_yes h2] at k2
  rw [isIdI_yes h3] at k3
  have hb : Below w.heap.size w (w.alloc (.cells #[.int .i64 id, .int .i64 u, .int .i64 v, .int .i64 wt] 33)) := (Below.refl _ _).alloc (Nat.le_refl _) _
  have HT := Lib.hid (h.stays hb)
  have d0 : decide (wt < 0) = true := by simpa using h4
  have K1 := Lib.hid k1
  have K2 := Lib.hid k2
  have K3 := Lib.hid k3
  clear h k1 k2 k3 h1 h2 h3 hb h4
  go_enter Try.func17, Try.ntmps17
  go_wp2_with fail
  refine (K1.out _).mono ?_
  rintro e w1 ⟨rfl, rfl⟩
  go_wp2_with fail
  refine (K2.out _).mono ?_
  rintro e w1 ⟨rfl, rfl⟩
  go_wp2_with fail
  refine (K3.out _).mono ?_
  rintro e w1 ⟨rfl, rfl⟩
  go_wp2_with fail
  go_ret
  exact ⟨rfl, HT.out⟩

set_option maxRecDepth 100000 in
set_option maxHeartbeats 4000000 in
theorem link_no2b (h : LFAt w f bv be S P N K vs es F) (id u v wt : Int) (hi : I64 id) (hu : I64 u) (hv : I64 v) (hw : I64 wt) (h1 : okId id) (h2 : okId u) (h3 : okId v) (h4 : ¬ wt < 0) (h5 : 1099511627776 < wt) :
    Calls Try.prog 17 #[.pointer (some ⟨f, 0, none⟩), .agg #[.int .i64 id, .int .i64 u, .int .i64 v, .int .i64 wt]] w fun e w' => e = .returned (.int .i64 53) ∧ LTurn w f bv be S vs es F w' := by
  have k1 := fun w => isId_any id w
  have k2 := fun w => isId_any u w
  have k3 := fun w => isId_any v w
  rw [isIdI_yes h1] at k1
  rw [isIdI_yes h2] at k2
  rw [isIdI_yes h3] at k3
  have hb : Below w.heap.size w (w.alloc (.cells #[.int .i64 id, .int .i64 u, .int .i64 v, .int .i64 wt] 33)) := (Below.refl _ _).alloc (Nat.le_refl _) _
  have HT := Lib.hid (h.stays hb)
  have d0 : decide (wt < 0) = false := by simpa using h4
  have d1 : decide (wt > 1099511627776) = true := by simpa using h5
  have K1 := Lib.hid k1
  have K2 := Lib.hid k2
  have K3 := Lib.hid k3
  clear h k1 k2 k3 h1 h2 h3 hb h4 h5
  go_enter Try.func17, Try.ntmps17
  go_wp2_with fail
  refine (K1.out _).mono ?_
  rintro e w1 ⟨rfl, rfl⟩
  go_wp2_with fail
  refine (K2.out _).mono ?_
  rintro e w1 ⟨rfl, rfl⟩
  go_wp2_with fail
  refine (K3.out _).mono ?_
  rintro e w1 ⟨rfl, rfl⟩
  go_wp2_with fail
  go_ret
  exact ⟨rfl, HT.out⟩

set_option maxRecDepth 100000 in
set_option maxHeartbeats 4000000 in
theorem link_no3 (h : LFAt w f bv be S P N K vs es F) (id u v wt : Int) (hi : I64 id) (hu : I64 u) (hv : I64 v) (hw : I64 wt) (h1 : okId id) (h2 : okId u) (h3 : okId v) (h4 : ¬ wt < 0) (h5 : ¬ 1099511627776 < wt) (h6 : id ∈ F.es.map Eg.id) :
    Calls Try.prog 17 #[.pointer (some ⟨f, 0, none⟩), .agg #[.int .i64 id, .int .i64 u, .int .i64 v, .int .i64 wt]] w fun e w' => e = .returned (.int .i64 50) ∧ LTurn w f bv be S vs es F w' := by
  have k1 := fun w => isId_any id w
  have k2 := fun w => isId_any u w
  have k3 := fun w => isId_any v w
  rw [isIdI_yes h1] at k1
  rw [isIdI_yes h2] at k2
  rw [isIdI_yes h3] at k3
  have hb : Below w.heap.size w (w.alloc (.cells #[.int .i64 id, .int .i64 u, .int .i64 v, .int .i64 wt] 33)) := (Below.refl _ _).alloc (Nat.le_refl _) _
  have d0 : decide (wt < 0) = false := by simpa using h4
  have d1 : decide (wt > 1099511627776) = false := by simpa using h5
  obtain ⟨W, hW⟩ : ∃ W, W = (w.alloc (.cells #[.int .i64 id, .int .i64 u, .int .i64 v, .int .i64 wt] 33)) := ⟨_, rfl⟩
  obtain ⟨g, hg⟩ : ∃ g, g = w.heap.size := ⟨_, rfl⟩
  have kW : Blk W g 33 #[.int .i64 id, .int .i64 u, .int .i64 v, .int .i64 wt] := by rw [hW, hg]; exact Blk.new _ _ _
  rw [← hW] at hb
  have HW := Lib.hid hW
  have HGG := Lib.hid hg
  have f1 : W.cell? ⟨f, 1, none⟩ = some (.map (some be)) := (h.at_.blk.below hb h.at_.blk.lt).cell 1
  have b0 : W.cell? ⟨g, 0, none⟩ = some (.int .i64 id) := kW.cell 0
  have b1 : W.cell? ⟨g, 1, none⟩ = some (.int .i64 u) := kW.cell 1
  have b2 : W.cell? ⟨g, 2, none⟩ = some (.int .i64 v) := kW.cell 2
  have b3 : W.cell? ⟨g, 3, none⟩ = some (.int .i64 wt) := kW.cell 3
  have hbd := hb.drew
  have hlk := (MapG.look_ok (X := kI) (h.at_.edges.same (hbd.block be h.at_.edges.lt)) Try.underlying62 (zeroQ _) pQ_zero (a := id) hi).1
  clear hW hg kW
  obtain ⟨k, hk⟩ := (h.gd.ek id).2 (List.mem_map.1 h6)
  rw [hk] at hlk
  have hl : (Instr.lookup 62 (.map (some be)) (.int .i64 id) true).run Try.prog W.drew = .ok (.tuple #[.pointer (some ⟨k, 0, none⟩), .bool true]) W.drew := hlk
  have HT := Lib.hid (h.stays hbd)
  have K1 := Lib.hid k1
  have K2 := Lib.hid k2
  have K3 := Lib.hid k3
  clear h k1 k2 k3 h1 h2 h3 hb h4 h5 h6 hk hlk hbd 
  go_enter Try.func17, Try.ntmps17
  go_wp2_with fail
  refine (K1.out _).mono ?_
  rintro e w1 ⟨rfl, rfl⟩
  go_wp2_with fail
  refine (K2.out _).mono ?_
  rintro e w1 ⟨rfl, rfl⟩
  go_wp2_with fail
  refine (K3.out _).mono ?_
  rintro e w1 ⟨rfl, rfl⟩
  go_wp2_with fail
  rw [← HW.out, ← HGG.out]
  go_region
  go_wp2_with fail
  go_ret
  exact ⟨rfl, HT.out⟩

set_option maxRecDepth 100000 in
set_option maxHeartbeats 4000000 in
theorem link_no4 (h : LFAt w f bv be S P N K vs es F) (id u v wt : Int) (hi : I64 id) (hu : I64 u) (hv : I64 v) (hw : I64 wt) (h1 : okId id) (h2 : okId u) (h3 : okId v) (h4 : ¬ wt < 0) (h5 : ¬ 1099511627776 < wt) (h6 : id ∉ F.es.map Eg.id) (h7 : ¬ (u ∈ F.vs ∧ v ∈ F.vs)) :
    Calls Try.prog 17 #[.pointer (some ⟨f, 0, none⟩), .agg #[.int .i64 id, .int .i64 u, .int .i64 v, .int .i64 wt]] w fun e w' => e = .returned (.int .i64 51) ∧ LTurn w f bv be S vs es F w' := by
  have k1 := fun w => isId_any id w
  have k2 := fun w => isId_any u w
  have k3 := fun w => isId_any v w
  rw [isIdI_yes h1] at k1
  rw [isIdI_yes h2] at k2
  rw [isIdI_yes h3] at k3
  have hb : Below w.heap.size w (w.alloc (.cells #[.int .i64 id, .int .i64 u, .int .i64 v, .int .i64 wt] 33)) := (Below.refl _ _).alloc (Nat.le_refl _) _
  have d0 : decide (wt < 0) = false := by simpa using h4
  have d1 : decide (wt > 1099511627776) = false := by simpa using h5
  obtain ⟨W, hW⟩ : ∃ W, W = (w.alloc (.cells #[.int .i64 id, .int .i64 u, .int .i64 v, .int .i64 wt] 33)) := ⟨_, rfl⟩
  obtain ⟨g, hg⟩ : ∃ g, g = w.heap.size := ⟨_, rfl⟩
  have kW : Blk W g 33 #[.int .i64 id, .int .i64 u, .int .i64 v, .int .i64 wt] := by rw [hW, hg]; exact Blk.new _ _ _
  rw [← hW] at hb
  have HW := Lib.hid hW
  have HGG := Lib.hid hg
  have f1 : W.cell? ⟨f, 1, none⟩ = some (.map (some be)) := (h.at_.blk.below hb h.at_.blk.lt).cell 1
  have b0 : W.cell? ⟨g, 0, none⟩ = some (.int .i64 id) := kW.cell 0
  have b1 : W.cell? ⟨g, 1, none⟩ = some (.int .i64 u) := kW.cell 1
  have b2 : W.cell? ⟨g, 2, none⟩ = some (.int .i64 v) := kW.cell 2
  have b3 : W.cell? ⟨g, 3, none⟩ = some (.int .i64 wt) := kW.cell 3
  have hbd := hb.drew
  have hlk := (MapG.look_ok (X := kI) (h.at_.edges.same (hbd.block be h.at_.edges.lt)) Try.underlying62 (zeroQ _) pQ_zero (a := id) hi).1
  clear hW hg kW
  rw [h.eNone h6] at hlk
  have hl : (Instr.lookup 62 (.map (some be)) (.int .i64 id) true).run Try.prog W.drew = .ok (.tuple #[.pointer none, .bool false]) W.drew := hlk
  have hj := joined_any (h.below hbd) u v hu hv
  have e2 : F.joinX u v = 51 := by unfold LF.joinX; rw [if_neg h7]
  have e1 : F.joinB u v = false := F.joinB_no fun hh => h7 ⟨hh.1, hh.2.1⟩
  rw [e1, e2] at hj
  have HJ := Lib.hid hj
  have HB := Lib.hid hbd
  have K1 := Lib.hid k1
  have K2 := Lib.hid k2
  have K3 := Lib.hid k3
  clear h k1 k2 k3 h1 h2 h3 hb h4 h5 h6 h7 hj e1 e2 hlk hbd 
  go_enter Try.func17, Try.ntmps17
  go_wp2_with fail
  refine (K1.out _).mono ?_
  rintro e w1 ⟨rfl, rfl⟩
  go_wp2_with fail
  refine (K2.out _).mono ?_
  rintro e w1 ⟨rfl, rfl⟩
  go_wp2_with fail
  refine (K3.out _).mono ?_
  rintro e w1 ⟨rfl, rfl⟩
  go_wp2_with fail
  rw [← HW.out, ← HGG.out]
  go_region
  go_wp2_with fail
  refine HJ.out.mono ?_
  rintro e w1 ⟨rfl, t1⟩
  have HT := Lib.hid (LTurn.of_below HB.out t1)
  clear t1
  go_wp2_with fail
  go_ret
  exact ⟨rfl, HT.out⟩

set_option maxRecDepth 100000 in
set_option maxHeartbeats 4000000 in
theorem link_no5 (h : LFAt w f bv be S P N K vs es F) (id u v wt : Int) (hi : I64 id) (hu : I64 u) (hv : I64 v) (hw : I64 wt) (h1 : okId id) (h2 : okId u) (h3 : okId v) (h4 : ¬ wt < 0) (h5 : ¬ 1099511627776 < wt) (h6 : id ∉ F.es.map Eg.id) (h7 : u ∈ F.vs ∧ v ∈ F.vs) (h8 : F.Join u v) :
    Calls Try.prog 17 #[.pointer (some ⟨f, 0, none⟩), .agg #[.int .i64 id, .int .i64 u, .int .i64 v, .int .i64 wt]] w fun e w' => e = .returned (.int .i64 151) ∧ LTurn w f bv be S vs es F w' := by
  have k1 := fun w => isId_any id w
  have k2 := fun w => isId_any u w
  have k3 := fun w => isId_any v w
  rw [isIdI_yes h1] at k1
  rw [isIdI_yes h2] at k2
  rw [isIdI_yes h3] at k3
  have hb : Below w.heap.size w (w.alloc (.cells #[.int .i64 id, .int .i64 u, .int .i64 v, .int .i64 wt] 33)) := (Below.refl _ _).alloc (Nat.le_refl _) _
  have d0 : decide (wt < 0) = false := by simpa using h4
  have d1 : decide (wt > 1099511627776) = false := by simpa using h5
  obtain ⟨W, hW⟩ : ∃ W, W = (w.alloc (.cells #[.int .i64 id, .int .i64 u, .int .i64 v, .int .i64 wt] 33)) := ⟨_, rfl⟩
  obtain ⟨g, hg⟩ : ∃ g, g = w.heap.size := ⟨_, rfl⟩
  have kW : Blk W g 33 #[.int .i64 id, .int .i64 u, .int .i64 v, .int .i64 wt] := by rw [hW, hg]; exact Blk.new _ _ _
  rw [← hW] at hb
  have HW := Lib.hid hW
  have HGG := Lib.hid hg
  have f1 : W.cell? ⟨f, 1, none⟩ = some (.map (some be)) := (h.at_.blk.below hb h.at_.blk.lt).cell 1
  have b0 : W.cell? ⟨g, 0, none⟩ = some (.int .i64 id) := kW.cell 0
  have b1 : W.cell? ⟨g, 1, none⟩ = some (.int .i64 u) := kW.cell 1
  have b2 : W.cell? ⟨g, 2, none⟩ = some (.int .i64 v) := kW.cell 2
  have b3 : W.cell? ⟨g, 3, none⟩ = some (.int .i64 wt) := kW.cell 3
  have hbd := hb.drew
  have hlk := (MapG.look_ok (X := kI) (h.at_.edges.same (hbd.block be h.at_.edges.lt)) Try.underlying62 (zeroQ _) pQ_zero (a := id) hi).1
  clear hW hg kW
  rw [h.eNone h6] at hlk
  have hl : (Instr.lookup 62 (.map (some be)) (.int .i64 id) true).run Try.prog W.drew = .ok (.tuple #[.pointer none, .bool false]) W.drew := hlk
  have hj := joined_any (h.below hbd) u v hu hv
  have e2 : F.joinX u v = 0 := by unfold LF.joinX; rw [if_pos h7]
  have e1 : F.joinB u v = true := F.joinB_yes ⟨h7.1, h7.2, h8⟩
  rw [e1, e2] at hj
  have HJ := Lib.hid hj
  have HB := Lib.hid hbd
  have K1 := Lib.hid k1
  have K2 := Lib.hid k2
  have K3 := Lib.hid k3
  clear h k1 k2 k3 h1 h2 h3 hb h4 h5 h6 h7 h8 hj e1 e2 hlk hbd 
  go_enter Try.func17, Try.ntmps17
  go_wp2_with fail
  refine (K1.out _).mono ?_
  rintro e w1 ⟨rfl, rfl⟩
  go_wp2_with fail
  refine (K2.out _).mono ?_
  rintro e w1 ⟨rfl, rfl⟩
  go_wp2_with fail
  refine (K3.out _).mono ?_
  rintro e w1 ⟨rfl, rfl⟩
  go_wp2_with fail
  rw [← HW.out, ← HGG.out]
  go_region
  go_wp2_with fail
  refine HJ.out.mono ?_
  rintro e w1 ⟨rfl, t1⟩
  have HT := Lib.hid (LTurn.of_below HB.out t1)
  clear t1
  go_wp2_with fail
  go_ret
  exact ⟨rfl, HT.out⟩

theorem link_no (h : LFAt w f bv be S P N K vs es F) (id u v wt : Int) (hi : I64 id) (hu : I64 u) (hv : I64 v) (hw : I64 wt) (hne : F.linkE id u v wt ≠ 0) :
    Calls Try.prog 17 #[.pointer (some ⟨f, 0, none⟩), .agg #[.int .i64 id, .int .i64 u, .int .i64 v, .int .i64 wt]] w fun e w' => e = .returned (.int .i64 (F.linkE id u v wt)) ∧ LTurn w f bv be S vs es F w' := by
  by_cases h0 : okId id ∧ okId u ∧ okId v
  · obtain ⟨h1, h2, h3⟩ := h0
    by_cases h4 : wt < 0
    · have e : F.linkE id u v wt = 53 := by unfold LF.linkE; rw [if_pos ⟨h1, h2, h3⟩, if_pos (.inl h4)]
      rw [e]; exact link_no2a h id u v wt hi hu hv hw h1 h2 h3 h4
    by_cases h5 : 1099511627776 < wt
    · have e : F.linkE id u v wt = 53 := by unfold LF.linkE; rw [if_pos ⟨h1, h2, h3⟩, if_pos (.inr h5)]
      rw [e]; exact link_no2b h id u v wt hi hu hv hw h1 h2 h3 h4 h5
    have hw' : ¬ (wt < 0 ∨ 1099511627776 < wt) := fun hh => hh.elim h4 h5
    by_cases h6 : id ∈ F.es.map Eg.id
    · have e : F.linkE id u v wt = 50 := by unfold LF.linkE; rw [if_pos ⟨h1, h2, h3⟩, if_neg hw', if_pos h6]
      rw [e]; exact link_no3 h id u v wt hi hu hv hw h1 h2 h3 h4 h5 h6
    by_cases h7 : u ∈ F.vs ∧ v ∈ F.vs
    · by_cases h8 : F.Join u v
      · have e : F.linkE id u v wt = 151 := by unfold LF.linkE; rw [if_pos ⟨h1, h2, h3⟩, if_neg hw', if_neg h6, if_pos h7, if_pos h8]
        rw [e]; exact link_no5 h id u v wt hi hu hv hw h1 h2 h3 h4 h5 h6 h7 h8
      · exact absurd (by unfold LF.linkE; rw [if_pos ⟨h1, h2, h3⟩, if_neg hw', if_neg h6, if_pos h7, if_neg h8]) hne
    · have e : F.linkE id u v wt = 51 := by unfold LF.linkE; rw [if_pos ⟨h1, h2, h3⟩, if_neg hw', if_neg h6, if_neg h7]
      rw [e]; exact link_no4 h id u v wt hi hu hv hw h1 h2 h3 h4 h5 h6 h7
  · have e : F.linkE id u v wt = 1 := by unfold LF.linkE; rw [if_neg h0]
    rw [e]; exact link_no1 h id u v wt hi hu hv hw h0

end

end Go.Proofs.Ytlhkajlkapoabaa

/-
  A forest on its way: what link, cut and the counts at the vertices make of it.
-/
namespace Go.Proofs.Ytlhkajlkapoabaa
open Go.RowKit Go.Maps
set_option linter.unusedVariables false

/-- Only counts have changed. -/
theorem Fs.count {S : Nat → Prop} {P : Nat → Option Nat} {N N' : Nat → NdL} {K : List (ST × Option Nat)} (h : Fs S P N K) (hs : ∀ b, (N' b).n = (N b).n ∧ Alk (N' b) (N b)) : Fs S P N' K := by
  have hn : nOf N' = nOf N := by funext b; exact (hs b).1
  refine ⟨h.full, h.part, h.nodup, fun c hc => ?_, fun c hc => told_far (h.told c hc) fun b _ => (hs b).2, h.hang, h.line, h.rank, ?_, ?_⟩
  · rw [hn]; exact h.laid c hc
  · rw [eds_far (N := N) fun b _ => (hs b).2.1]; exact h.bs
  · rw [eds_far (N := N) fun b _ => (hs b).2.1]; exact h.bk

theorem NAt.setD {w w0 : World} {S : Nat → Prop} {N : Nat → NdL} {c : Nat} (h : NAt w S N) (hc : S c) (d : Int) (hm : Mod S w0 w) : NAt (w.setCell ⟨c, 4, none⟩ (.int .i64 d)) S (updL N c { N c with d := d }) ∧ Mod S w0 (w.setCell ⟨c, 4, none⟩ (.int .i64 d)) :=
  ⟨h.upd (mod_set (Mod.refl _ _) _) ((h c hc).set_ 4 _), mod_setS hm hc _ _⟩

/-- The forest's blocks but its nodes. -/
structure LBox (w : World) (f bv be : Nat) (S : Nat → Prop) (vs es : Int → Option Nat) : Prop where
  blk : Blk w f 64 #[.map (some bv), .map (some be)]
  verts : MapG kI pQ w bv 4096 fun v => ptrO (vs v)
  edges : MapG kI pQ w be 4096 fun i => ptrO (es i)
  vS : ∀ v a, vs v = some a → S a
  eS : ∀ i a, es i = some a → S a
  fS : ¬ S f
  bvS : ¬ S bv
  beS : ¬ S be
  ne : bv ≠ be

theorem LBox.mod {w w' : World} {f bv be : Nat} {S : Nat → Prop} {vs es : Int → Option Nat} (h : LBox w f bv be S vs es) (hm : Mod S w w') : LBox w' f bv be S vs es :=
  ⟨h.blk.mod hm h.fS, h.verts.mod hm h.bvS, h.edges.mod hm h.beS, h.vS, h.eS, h.fS, h.bvS, h.beS, h.ne⟩

theorem LAt.box {w : World} {f bv be : Nat} {S : Nat → Prop} {P : Nat → Option Nat} {N : Nat → NdL} {K : List (ST × Option Nat)} {vs es : Int → Option Nat} (h : LAt w f bv be S P N K vs es) : LBox w f bv be S vs es :=
  ⟨h.blk, h.verts, h.edges, h.vS, h.eS, h.fS, h.bvS, h.beS, h.ne⟩

theorem LBox.at_ {w : World} {f bv be : Nat} {S : Nat → Prop} {P : Nat → Option Nat} {N : Nat → NdL} {K : List (ST × Option Nat)} {vs es : Int → Option Nat} (h : LBox w f bv be S vs es) (hN : NAt w S N) (hf : Fs S P N K) : LAt w f bv be S P N K vs es :=
  ⟨h.blk, h.verts, h.edges, hN, hf, h.vS, h.eS, h.bvS, h.beS, h.ne⟩

/-- Who is next to whom, which edge stands at a node, and its count. -/
structure LkM (f bv be : Nat) (S : Nat → Prop) (vs es : Int → Option Nat) (R : Nat → Nat → Prop) (E : Nat → Eg) (D : Nat → Int) (w : World) (P : Nat → Option Nat) (N : Nat → NdL) (K : List (ST × Option Nat)) : Prop where
  at_ : LAt w f bv be S P N K vs es
  adj : ∀ x y, Adj P x y ↔ R x y
  nod : ∀ x, (N x).e = E x ∧ (N x).d = D x

/-- The two are next to one another, either way. -/
def Two (k z x y : Nat) : Prop := (x = k ∧ y = z) ∨ (x = z ∧ y = k)

section

variable {w : World} {f bv be : Nat} {S : Nat → Prop} {P : Nat → Option Nat} {N : Nat → NdL} {K : List (ST × Option Nat)} {vs es : Int → Option Nat} {R : Nat → Nat → Prop} {E : Nat → Eg} {D : Nat → Int} {k z : Nat}

theorem LkM.count (h : LkM f bv be S vs es R E D w P N K) (hz : S z) (d : Int) : LkM f bv be S vs es R E (fun x => if x = z then d else D x) (w.setCell ⟨z, 4, none⟩ (.int .i64 d)) P (updL N z { N z with d := d }) K ∧ Mod S w (w.setCell ⟨z, 4, none⟩ (.int .i64 d)) := by
  obtain ⟨h1, h2⟩ := NAt.setD h.at_.at_ hz d (Mod.refl S w)
  refine ⟨⟨(h.at_.box.mod h2).at_ h1 (h.at_.fs.count fun b => ?_), h.adj, fun x => ?_⟩, h2⟩
  · by_cases hb : b = z
    · subst hb; rw [updL_same]; exact ⟨rfl, rfl, rfl, rfl, rfl⟩
    · rw [updL_ne N _ hb]; exact ⟨rfl, rfl, rfl, rfl, rfl⟩
  · by_cases hb : x = z
    · subst hb; rw [updL_same, if_pos rfl]; exact ⟨(h.nod x).1, rfl⟩
    · rw [updL_ne N _ hb, if_neg hb]; exact h.nod x

theorem LkD.next {w' : World} {P1 : Nat → Option Nat} {N' : Nat → NdL} {K' : List (ST × Option Nat)} (L : LkD S P w N k z w' P1 N' K') (hb : LBox w f bv be S vs es) (hr : ∃ rk, Ranks P rk) (hR : ∀ x y, Adj P x y ↔ R x y) (hn : ∀ x, (N x).e = E x ∧ (N x).d = D x) : LkM f bv be S vs es (fun x y => R x y ∨ Two k z x y) E D w' (setP P1 k (some z)) N' K' := by
  obtain ⟨B, hB, hl⟩ := L.turn
  have hnd := line_rev_nd hr hl
  have h0 : P1 k = none := by rw [hB]; exact (lineP_line (P := P) (u := none) hnd).1
  refine ⟨(hb.mod L.mod).at_ L.at_ L.fs, fun x y => ?_, fun x => ⟨(L.same x).1.trans (hn x).1, (L.same x).2.trans (hn x).2⟩⟩
  rw [adj_graft h0, ← hR]
  have := adj_lead hnd hl x y
  rw [← hB] at this
  rw [this]
  rfl

/-- A node hangs on another tree's. -/
theorem LkM.link (h : LkM f bv be S vs es R E D w P N K) (hk : S k) (hz : S z) (T : Nat → Prop) (hT : T k) (hstep : ∀ x y, S x → S y → R x y → T x → T y) (hnz : ¬ T z) :
    Calls Try.prog 30 #[.pointer (some ⟨k, 0, none⟩), .pointer (some ⟨z, 0, none⟩)] w fun e w' => e = .returned (.tuple #[]) ∧ ∃ P2 N2 K2, LkM f bv be S vs es (fun x y => R x y ∨ Two k z x y) E D w' P2 N2 K2 ∧ Mod S w w' := by
  refine (link_any w S P N K h.at_.fs h.at_.at_ k z hk hz (no_reach h.at_.fs.shut h.at_.fs.rank hk hz T hT (fun x y sx sy e => hstep x y sx sy ((h.adj x y).1 e)) hnz)).mono ?_
  rintro e w' ⟨rfl, P1, N', K', L⟩
  exact ⟨rfl, _, _, _, L.next h.at_.box h.at_.fs.rank h.adj h.nod, L.mod⟩

/-- A node that has not told of itself yet hangs on another tree's. -/
theorem link_first {e : Eg} (hbx : LBox w f bv be S vs es) (hN : NAt w S (updL N k (madeL e))) (hf : Fs S P N ((.node .nil k false .nil, none) :: K)) (hnk : N k = toldL e 0) (hR : ∀ x y, Adj P x y ↔ R x y) (hn : ∀ x, (N x).e = E x ∧ (N x).d = D x) (hk : S k) (hz : S z) (T : Nat → Prop) (hT : T k) (hstep : ∀ x y, S x → S y → R x y → T x → T y) (hnz : ¬ T z) :
    Calls Try.prog 30 #[.pointer (some ⟨k, 0, none⟩), .pointer (some ⟨z, 0, none⟩)] w fun e w' => e = .returned (.tuple #[]) ∧ ∃ P2 N2 K2, LkM f bv be S vs es (fun x y => R x y ∨ Two k z x y) E D w' P2 N2 K2 ∧ Mod S w w' := by
  refine (link_of w S P N _ k z hk hz (no_reach hf.shut hf.rank hk hz T hT (fun x y sx sy e => hstep x y sx sy ((hR x y).1 e)) hnz) (lead_of w S P N _ k hk (expose_new w S P N K k e 0 (madeL e) hf hnk ⟨rfl, rfl, rfl⟩ hN))).mono ?_
  rintro e w' ⟨rfl, P1, N', K', L⟩
  exact ⟨rfl, _, _, _, L.next hbx hf.rank hR hn, L.mod⟩

/-- Two neighbours part. -/
theorem LkM.cut (h : LkM f bv be S vs es R E D w P N K) (hk : S k) (hz : S z) (hkz : R k z) :
    Calls Try.prog 31 #[.pointer (some ⟨k, 0, none⟩), .pointer (some ⟨z, 0, none⟩)] w fun e w' => e = .returned (.tuple #[]) ∧ ∃ P2 N2 K2, LkM f bv be S vs es (fun x y => R x y ∧ ¬ Two k z x y) E D w' P2 N2 K2 ∧ Mod S w w' := by
  have hup := fun B hB => is_above h.at_.fs.rank ((h.adj k z).2 hkz) B hB
  refine (cut_any w S P N K h.at_.fs h.at_.at_ k z hk hz hup).mono ?_
  rintro e w' ⟨rfl, P1, N', K', C⟩
  obtain ⟨B, hB, hl⟩ := C.turn
  have hnd := line_rev_nd h.at_.fs.rank hl
  have h0 : P1 k = none := by rw [hB]; exact (lineP_line (P := P) (u := none) hnd).1
  have h1 : P1 z = some k := by rw [hB]; exact hup B hl
  refine ⟨rfl, _, _, _, ⟨(h.at_.box.mod C.mod).at_ C.at_ C.fs, fun x y => ?_, fun x => ⟨(C.same x).1.trans (h.nod x).1, (C.same x).2.trans (h.nod x).2⟩⟩, C.mod⟩
  rw [adj_snip h0 h1, ← h.adj]
  have := adj_lead hnd hl x y
  rw [← hB] at this
  rw [this]
  rfl

end

end Go.Proofs.Ytlhkajlkapoabaa

/-
  An edge's node is made and stands alone, known to the map: where Link's loop begins.
-/
namespace Go.Proofs.Ytlhkajlkapoabaa
open Go.RowKit Go.Maps
set_option linter.unusedVariables false

theorem linkE_ok {F : LF} {id u v wt : Int} (h : F.linkE id u v wt = 0) : okId id ∧ okId u ∧ okId v ∧ ¬ wt < 0 ∧ ¬ 1099511627776 < wt ∧ id ∉ F.es.map Eg.id ∧ u ∈ F.vs ∧ v ∈ F.vs ∧ ¬ F.Join u v := by
  unfold LF.linkE at h
  split at h
  · rename_i h1
    split at h
    · cases h
    · rename_i h2
      split at h
      · cases h
      · rename_i h3
        split at h
        · rename_i h4
          split at h
          · cases h
          · rename_i h5
            exact ⟨h1.1, h1.2.1, h1.2.2, fun hh => h2 (.inl hh), fun hh => h2 (.inr hh), h3, h4.1, h4.2, h5⟩
        · cases h
  · cases h

theorem made_cells (e : Eg) : encL (madeL e) = #[.pointer none, .pointer none, .pointer none, .bool false, .int .i64 0, .int .i64 e.id, .int .i64 e.u, .int .i64 e.v, .int .i64 (e.w : Int), .int .i64 0, .int .i64 0, .int .i64 0, .int .i64 0, .complex .f64 0 0] := by
  unfold encL madeL
  dsimp only
  rw [fl_zero']
  rfl

theorem updL_twice (N : Nat → NdL) (a : Nat) (x y : NdL) : updL (updL N a x) a y = updL N a y := by
  funext b
  by_cases hb : b = a
  · subst hb; rw [updL_same, updL_same]
  · rw [updL_ne _ _ hb, updL_ne _ _ hb, updL_ne _ _ hb]

section

variable {w : World} {f bv be : Nat} {S : Nat → Prop} {P : Nat → Option Nat} {N : Nat → NdL} {K : List (ST × Option Nat)} {vs es : Int → Option Nat} {F : LF}

/-- Where the loop begins. -/
structure LkB (w : World) (f bv be : Nat) (S : Nat → Prop) (P : Nat → Option Nat) (N : Nat → NdL) (K : List (ST × Option Nat)) (vs es : Int → Option Nat) (k : Nat) (e : Eg) : Prop where
  box : LBox w f bv be (fun x => S x ∨ x = k) vs (fun i => if i = e.id then some k else es i)
  nat : NAt w (fun x => S x ∨ x = k) (updL N k (madeL e))
  fs : Fs (fun x => S x ∨ x = k) (setP P k none) (updL N k (toldL e 0)) ((.node .nil k false .nil, none) :: K)

theorem LkB.mod {w' : World} {k : Nat} {e : Eg} (h : LkB w f bv be S P N K vs es k e) (hb : Below w.heap.size w w') : LkB w' f bv be S P N K vs es k e :=
  ⟨h.box.mod (Mod.of_below hb _), h.nat.below hb, h.fs⟩

theorem link_start (h : LFAt w f bv be S P N K vs es F) (e : Eg) (hid : okId e.id) (hnew : e.id ∉ F.es.map Eg.id) (hw : e.w ≤ 1099511627776) {W : World} {k : Nat} (hk : k = w.heap.size) (hW : W = (w.alloc (.cells (encL (madeL e)) 71)).drew) :
    ∃ w', (Instr.mapUpdate 62 (.map (some be)) (.int .i64 e.id) (.pointer (some ⟨k, 0, none⟩))).run Try.prog W = .ok () w' ∧ LkB w' f bv be S P N K vs es k e ∧ Mod (fun x => x = be) w w' := by
  obtain ⟨b1, b2, b3⟩ := h.bounds
  have hbW : Below w.heap.size w W := by rw [hW]; exact ((Below.refl _ _).alloc (Nat.le_refl _) _).drew
  have kW : Blk W k 71 (encL (madeL e)) := by rw [hW, hk]; exact (Blk.new _ _ _).drew
  have hS : ¬ S k := fun hs => by rw [hk] at hs; exact Nat.lt_irrefl _ (h.at_.at_ _ hs).lt
  have hi : I64 e.id := I64_of hid
  have hbe : be ≠ k := by rw [hk]; exact Nat.ne_of_lt h.at_.edges.lt
  have hbv : bv ≠ k := by rw [hk]; exact Nat.ne_of_lt h.at_.verts.lt
  have hfk : f ≠ k := by rw [hk]; exact Nat.ne_of_lt h.at_.blk.lt
  have hfe : f ≠ be := fun e => h.at_.edges.notBlk h.at_.blk e.symm
  obtain ⟨w2, hrun, m2, t2⟩ := MapG.store (X := kI) (h.at_.edges.same (hbW.block _ h.at_.edges.lt)) Try.underlying62 (by omega) (a := e.id) hi (v := .pointer (some ⟨k, 0, none⟩)) ⟨_, rfl⟩
  have hm2 : Mod (fun x => x = be) W w2 := (Mod.refl _ W).turned t2 (fun _ => rfl)
  have hmw : Mod (fun x => x = be) w w2 := (Mod.of_below hbW _).trans' hm2
  have hfs := h.at_.fs.add hS e 0 (by have : e.stepS ≤ 1099511627776 := by { unfold Eg.stepS; split <;> omega }; omega) (by have : e.stepK ≤ 1 := by { unfold Eg.stepK; split <;> omega }; omega)
  refine ⟨w2, hrun, ⟨⟨h.at_.blk.mod hmw hfe, h.at_.verts.mod hmw h.at_.ne, ?_, fun v a hv => .inl (h.at_.vS v a hv), fun i a hia => ?_, ?_, ?_, ?_, h.at_.ne⟩, ?_, hfs⟩, hmw⟩
  · have hkk := MapG.cast (X := kI) m2 (f' := fun i => ptrO (if i = e.id then some k else es i)) (fun i _ => by
      by_cases hu : i = e.id
      · rw [if_pos hu, if_pos hu]; rfl
      · rw [if_neg hu, if_neg hu])
    refine hkk.bound (L := F.es.map Eg.id ++ [e.id]) ?_ (fun i => ?_) |>.mono (by rw [List.length_append, List.length_map]; simp; omega)
    · refine List.nodup_append.2 ⟨h.gd.idnd, by simp, fun x hx y hy hh => ?_⟩
      have hy : y = e.id := by simpa using hy
      exact hnew (by rw [← hy, ← hh]; exact hx)
    · rw [List.mem_append, h.ekeys i, List.mem_singleton]
      constructor
      · rintro (⟨h1, h2⟩ | h1)
        · refine ⟨h1, ?_⟩
          by_cases hu : i = e.id
          · rw [if_pos hu]; rfl
          · rw [if_neg hu]; exact h2
        · refine ⟨by rw [h1]; exact hi, ?_⟩
          rw [if_pos h1]; rfl
      · rintro ⟨h1, h2⟩
        by_cases hu : i = e.id
        · exact .inr hu
        · rw [if_neg hu] at h2; exact .inl ⟨h1, h2⟩
  · have hia : (if i = e.id then some k else es i) = some a := hia
    by_cases hu : i = e.id
    · rw [if_pos hu] at hia; injection hia with hia; exact .inr hia.symm
    · rw [if_neg hu] at hia; exact .inl (h.at_.eS i a hia)
  · rintro (hs | hs)
    · exact h.at_.fS hs
    · exact hfk hs
  · rintro (hs | hs)
    · exact h.at_.bvS hs
    · exact hbv hs
  · rintro (hs | hs)
    · exact h.at_.beS hs
    · exact hbe hs
  · rintro x (hx | hx)
    · rw [updL_ne N _ (fun e : x = k => hS (e ▸ hx))]
      exact (h.at_.at_ x hx).mod hmw (fun e => h.at_.beS (e ▸ hx))
    · subst hx
      rw [updL_same]
      exact kW.mod hm2 (fun e => hbe e.symm)

/-- What the loop's first call finds. -/
theorem LkB.first {k a : Nat} {e : Eg} (h : LkB w f bv be S P N K vs es k e) (hk : ¬ S k) (hP : Shut S P) (ha : S a) :
    Calls Try.prog 30 #[.pointer (some ⟨k, 0, none⟩), .pointer (some ⟨a, 0, none⟩)] w fun r w' => r = .returned (.tuple #[]) ∧ ∃ P2 N2 K2, LkM f bv be (fun x => S x ∨ x = k) vs (fun i => if i = e.id then some k else es i) (fun x y => Adj (setP P k none) x y ∨ Two k a x y) (fun x => (updL N k (toldL e 0) x).e) (fun x => (updL N k (toldL e 0) x).d) w' P2 N2 K2 ∧ Mod (fun x => S x ∨ x = k) w w' := by
  refine link_first (e := e) h.box (by rw [updL_twice]; exact h.nat) h.fs (updL_same _ _ _) (fun x y => Iff.rfl) (fun x => ⟨rfl, rfl⟩) (.inr rfl) (.inl ha) (fun x => ¬ S x) hk ?_ (fun hn => hn ha)
  rintro x y sx sy hxy hx hy
  have hxk : x = k := by rcases sx with h | h; exact absurd h hx; exact h
  subst hxk
  rcases hxy with e1 | e1
  · rw [setP_same] at e1; cases e1
  · rw [setP_ne (fun e : y = x => hk (e ▸ hy))] at e1
    exact hk (hP y x hy e1)

/-- A neighbour of the new edge's node. -/
theorem new_adj {k : Nat} (hk : ¬ S k) (hP : Shut S P) {x y : Nat} (sx : S x ∨ x = k) (sy : S y ∨ y = k) : Adj (setP P k none) x y ↔ S x ∧ S y ∧ Adj P x y := by
  have hno : ∀ x, S x → ¬ Adj (setP P k none) k x := fun x hx hh => by
    rcases hh with e | e
    · rw [setP_same] at e; cases e
    · rw [setP_ne (fun e : x = k => hk (e ▸ hx))] at e
      exact hk (hP x k hx e)
  constructor
  · intro hh
    rcases sx with hx | hx
    · rcases sy with hy | hy
      · refine ⟨hx, hy, ?_⟩
        unfold Adj at hh ⊢
        rwa [setP_ne (fun e : x = k => hk (e ▸ hx)), setP_ne (fun e : y = k => hk (e ▸ hy))] at hh
      · subst hy; exact absurd hh.symm (hno x hx)
    · subst hx
      rcases sy with hy | hy
      · exact absurd hh (hno y hy)
      · subst hy
        rcases hh with e | e <;> (rw [setP_same] at e; cases e)
  · rintro ⟨hx, hy, hh⟩
    unfold Adj at hh ⊢
    rwa [setP_ne (fun e : x = k => hk (e ▸ hx)), setP_ne (fun e : y = k => hk (e ▸ hy))]

end

end Go.Proofs.Ytlhkajlkapoabaa

/-
  Link's loop of two, laid out ahead of its walk.
-/
namespace Go.Proofs.Ytlhkajlkapoabaa
open Go.RowKit Go.Maps
set_option linter.unusedVariables false

/-- What the loop reads of the forest. -/
def See (w : World) (f bv : Nat) (vs : Int → Option Nat) : Prop := w.cell? ⟨f, 0, none⟩ = some (.map (some bv)) ∧ MapG kI pQ w bv 4096 fun v => ptrO (vs v)

theorem LBox.see {w : World} {f bv be : Nat} {S : Nat → Prop} {vs es : Int → Option Nat} (h : LBox w f bv be S vs es) : See w f bv vs := ⟨h.blk.cell 0, h.verts⟩

/-- A vertex' count, and what storing another one makes. -/
structure Cnt (w : World) (f bv : Nat) (vs : Int → Option Nat) (a : Nat) (d d' : Int) (St : World → Prop) : Prop where
  see : See w f bv vs
  cell : w.cell? ⟨a, 4, none⟩ = some (.int .i64 d)
  frozen : w.frozen? ⟨a, 4, none⟩ = false
  st : St (w.setCell ⟨a, 4, none⟩ (.int .i64 d'))

theorem LkM.cnt {w0 w : World} {f bv be : Nat} {S T : Nat → Prop} {P : Nat → Option Nat} {N : Nat → NdL} {K : List (ST × Option Nat)} {vs es : Int → Option Nat} {R : Nat → Nat → Prop} {E : Nat → Eg} {D : Nat → Int} {z : Nat} (h : LkM f bv be S vs es R E D w P N K) (hz : S z) {d d' : Int} (hd : D z = d) (hm : Mod T w0 w) (hT : ∀ x, x < w0.heap.size → S x → T x) {St : World → Prop} (hs : ∀ w' N', LkM f bv be S vs es R E (fun x => if x = z then d' else D x) w' P N' K → Mod T w0 w' → St w') : Cnt w f bv vs z d d' St := by
  obtain ⟨h1, h2⟩ := h.count hz d'
  refine ⟨h.at_.box.see, ?_, (h.at_.at_ z hz).frozen 4, hs _ _ h1 (hm.trans h2 hT)⟩
  have k : w.cell? ⟨z, 4, none⟩ = some (.int .i64 (N z).d) := (h.at_.at_ z hz).cell 4
  rw [k, (h.nod z).2, hd]

/-- The loop's plan. -/
structure LkPlan (f bv : Nat) (vs : Int → Option Nat) (k a b : Nat) (du dv : Int) (St0 Q1 St1 Q2 St2 : World → Prop) : Prop where
  s0 : ∀ w, St0 w → See w f bv vs
  c1 : ∀ w, St0 w → Calls Try.prog 30 #[.pointer (some ⟨k, 0, none⟩), .pointer (some ⟨a, 0, none⟩)] w fun r w' => r = .returned (.tuple #[]) ∧ Q1 w'
  n1 : ∀ w, Q1 w → Cnt w f bv vs a du (du + 1) St1
  s1 : ∀ w, St1 w → See w f bv vs
  c2 : ∀ w, St1 w → Calls Try.prog 30 #[.pointer (some ⟨k, 0, none⟩), .pointer (some ⟨b, 0, none⟩)] w fun r w' => r = .returned (.tuple #[]) ∧ Q2 w'
  n2 : ∀ w, Q2 w → Cnt w f bv vs b dv (dv + 1) St2

section

variable {w : World} {f bv be : Nat} {S : Nat → Prop} {P : Nat → Option Nat} {N : Nat → NdL} {K : List (ST × Option Nat)} {vs es : Int → Option Nat} {F : LF}

/-- A forest that an edge has come to. -/
def Linked (w0 : World) (f bv be : Nat) (S : Nat → Prop) (vs es : Int → Option Nat) (F : LF) (e : Eg) (k : Nat) (w' : World) : Prop :=
  ∃ P N K, LFAt w' f bv be (fun x => S x ∨ x = k) P N K vs (fun i => if i = e.id then some k else es i) ⟨F.vs, F.es ++ [e]⟩ ∧ Mod (fun x => S x ∨ x = be) w0 w'

theorem link_plan (h : LFAt w f bv be S P N K vs es F) (e : Eg) (hz : F.linkE e.id e.u e.v (e.w : Int) = 0) {a b : Nat} (ha : vs e.u = some a) (hb : vs e.v = some b) {W : World} {k : Nat} (hk : k = w.heap.size) (hW : W = (w.alloc (.cells (encL (madeL e)) 71)).drew) :
    ∃ St0 Q1 St1 Q2 : World → Prop, LkPlan f bv vs k a b (F.deg e.u) (F.deg e.v) St0 Q1 St1 Q2 (Linked w f bv be S vs es F e k) ∧
      ∃ w', (Instr.mapUpdate 62 (.map (some be)) (.int .i64 e.id) (.pointer (some ⟨k, 0, none⟩))).run Try.prog W = .ok () w' ∧ Mod (fun x => x = be) w w' ∧ ∀ w2, Below w'.heap.size w' w2 → St0 w2 := by
  obtain ⟨i1, i2, i3, -, h4, h5, h6, h7, h8⟩ := linkE_ok hz
  have hew : e.w ≤ 1099511627776 := by omega
  obtain ⟨w', hrun, hB, hM⟩ := link_start h e i1 h5 hew hk hW
  have hS : ¬ S k := fun hs => by rw [hk] at hs; exact Nat.lt_irrefl _ (h.at_.at_ _ hs).lt
  have hshut := h.at_.fs.shut
  have haS := h.at_.vS _ _ ha
  have hbS := h.at_.vS _ _ hb
  have hab : a ≠ b := fun e1 => h8 (by rw [h.gd.vinj _ _ a ha (e1 ▸ hb)]; exact .refl)
  have hak : a ≠ k := fun e1 => hS (e1 ▸ haS)
  have hbk : b ≠ k := fun e1 => hS (e1 ▸ hbS)
  have hT : ∀ x, x < w.heap.size → (S x ∨ x = k) → S x ∨ x = be := fun x hx hs => by
    rcases hs with hs | hs
    · exact .inl hs
    · omega
  have hda : (updL N k (toldL e 0) a).d = F.deg e.u := by rw [updL_ne N _ hak]; exact (h.gd.vN _ a ha).2
  have hdb : (updL N k (toldL e 0) b).d = F.deg e.v := by rw [updL_ne N _ hbk]; exact (h.gd.vN _ b hb).2
  refine ⟨fun w2 => LkB w2 f bv be S P N K vs es k e ∧ Mod (fun x => S x ∨ x = be) w w2,
    fun w2 => ∃ P2 N2 K2, LkM f bv be (fun x => S x ∨ x = k) vs (fun i => if i = e.id then some k else es i) (fun x y => Adj (setP P k none) x y ∨ Two k a x y) (fun x => (updL N k (toldL e 0) x).e) (fun x => (updL N k (toldL e 0) x).d) w2 P2 N2 K2 ∧ Mod (fun x => S x ∨ x = be) w w2,
    fun w2 => ∃ P2 N2 K2, LkM f bv be (fun x => S x ∨ x = k) vs (fun i => if i = e.id then some k else es i) (fun x y => Adj (setP P k none) x y ∨ Two k a x y) (fun x => (updL N k (toldL e 0) x).e) (fun x => if x = a then F.deg e.u + 1 else (updL N k (toldL e 0) x).d) w2 P2 N2 K2 ∧ Mod (fun x => S x ∨ x = be) w w2,
    fun w2 => ∃ P2 N2 K2, LkM f bv be (fun x => S x ∨ x = k) vs (fun i => if i = e.id then some k else es i) (fun x y => (Adj (setP P k none) x y ∨ Two k a x y) ∨ Two k b x y) (fun x => (updL N k (toldL e 0) x).e) (fun x => if x = a then F.deg e.u + 1 else (updL N k (toldL e 0) x).d) w2 P2 N2 K2 ∧ Mod (fun x => S x ∨ x = be) w w2,
    ⟨fun w2 h2 => h2.1.box.see, fun w2 h2 => ?_, fun w2 h2 => ?_, fun w2 h2 => ?_, fun w2 h2 => ?_, fun w2 h2 => ?_⟩, w', hrun, hM, fun w2 hb2 => ⟨hB.mod hb2, (hM.mono fun x _ hx => .inr hx).trans' (Mod.of_below hb2 _)⟩⟩
  · refine (h2.1.first hS hshut haS).mono ?_
    rintro r w3 ⟨rfl, P2, N2, K2, L, m⟩
    exact ⟨rfl, P2, N2, K2, L, h2.2.trans m hT⟩
  · obtain ⟨P2, N2, K2, L, m⟩ := h2
    exact L.cnt (.inl haS) hda m hT fun w3 N3 L3 m3 => ⟨P2, N3, K2, L3, m3⟩
  · obtain ⟨P2, N2, K2, L, m⟩ := h2
    exact L.at_.box.see
  · obtain ⟨P2, N2, K2, L, m⟩ := h2
    have hnj : ¬ Con (AdjS S P) a b := fun hc => h8 ((h.gd.join ha hb).1 hc)
    refine (L.link (.inr rfl) (.inl hbS) (fun x => x = k ∨ Con (AdjS S P) a x) (.inl rfl) ?_ ?_).mono ?_
    · rintro x y sx sy (hxy | ⟨rfl, rfl⟩ | ⟨rfl, rfl⟩) hx
      · obtain ⟨hx1, hy1, hh⟩ := (new_adj hS hshut sx sy).1 hxy
        rcases hx with hx | hx
        · exact absurd (hx ▸ hx1) hS
        · exact .inr (.step hx ⟨hx1, hy1, hh⟩)
      · exact .inr (.refl _)
      · exact .inl rfl
    · rintro (hh | hh)
      · exact hbk hh
      · exact hnj hh
    · rintro r w3 ⟨rfl, P3, N3, K3, L3, m3⟩
      exact ⟨rfl, P3, N3, K3, L3, m.trans m3 hT⟩
  · obtain ⟨P2, N2, K2, L, m⟩ := h2
    refine L.cnt (d := F.deg e.v) (.inl hbS) (by rw [if_neg (fun e1 : b = a => hab e1.symm)]; exact hdb) m hT fun w3 N3 L3 m3 => ⟨P2, N3, K2, ⟨L3.at_, ?_, h.few, h.ids, ?_⟩, m3⟩
    · refine h.gd.link hS ha hb (fun e1 => h8 (by rw [e1]; exact .refl)) (h.eNone h5) (fun x y sx sy => ?_) (fun x hx => ?_) ?_ (fun x hx => ?_)
      · rw [L3.adj x y, new_adj hS hshut sx sy]
        unfold Two
        constructor
        · rintro ((h1 | ⟨h1, h2⟩ | ⟨h1, h2⟩) | ⟨h1, h2⟩ | ⟨h1, h2⟩)
          · exact .inl h1
          · exact .inr (.inl ⟨h1, .inl h2⟩)
          · exact .inr (.inr ⟨h2, .inl h1⟩)
          · exact .inr (.inl ⟨h1, .inr h2⟩)
          · exact .inr (.inr ⟨h2, .inr h1⟩)
        · rintro (h1 | ⟨h1, h2 | h2⟩ | ⟨h1, h2 | h2⟩)
          · exact .inl (.inl h1)
          · exact .inl (.inr (.inl ⟨h1, h2⟩))
          · exact .inr (.inl ⟨h1, h2⟩)
          · exact .inl (.inr (.inr ⟨h2, h1⟩))
          · exact .inr (.inr ⟨h2, h1⟩)
      · rw [(L3.nod x).1]
        show (updL N k (toldL e 0) x).e = _
        rw [updL_ne N _ (fun e1 : x = k => hS (e1 ▸ hx))]
      · rw [(L3.nod k).1]
        show (updL N k (toldL e 0) k).e = _
        rw [updL_same]
        rfl
      · have hxk : x ≠ k := fun e1 => hS (e1 ▸ hx)
        rw [(L3.nod x).2]
        show (if x = b then F.deg e.v + 1 else if x = a then F.deg e.u + 1 else (updL N k (toldL e 0) x).d) = _
        rw [updL_ne N _ hxk]
        by_cases e1 : x = b
        · rw [if_pos e1, if_pos (.inr e1), e1, (h.gd.vN _ b hb).2]
        · rw [if_neg e1]
          by_cases e2 : x = a
          · rw [if_pos e2, if_pos (.inl e2), e2, (h.gd.vN _ a ha).2]
          · rw [if_neg e2, if_neg (fun hh => hh.elim e2 e1)]; omega
    · intro x hx
      rcases List.mem_append.1 hx with hx | hx
      · exact h.eids x hx
      · rw [List.mem_singleton.1 hx]
        exact ⟨i1.1, i1.2, hew⟩

theorem deg_le (h : LFAt w f bv be S P N K vs es F) (v : Int) : 0 ≤ F.deg v ∧ F.deg v ≤ 2048 := by
  have h1 := h.bounds.1
  have h2 : (F.es.filter fun e => e.u == v || e.v == v).length ≤ F.es.length := List.length_filter_le _ _
  unfold LF.deg
  omega

end

end Go.Proofs.Ytlhkajlkapoabaa
