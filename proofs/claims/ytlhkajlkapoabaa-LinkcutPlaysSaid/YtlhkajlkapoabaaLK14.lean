/-
  A tree takes another root: the walk of lead.
-/
import Derived.Test.YtlhkajlkapoabaaLK13
namespace Go.Proofs.Ytlhkajlkapoabaa
open Go.RowKit Go.Maps
set_option linter.unusedVariables false

/-- P with a line laid over it. -/
def lineP (P : Nat → Option Nat) : Option Nat → List Nat → Nat → Option Nat
  | _, [] => P
  | u, v :: l => fun b => if b = v then u else lineP P (some v) l b

theorem lineP_off {P : Nat → Option Nat} : ∀ {l : List Nat} {u : Option Nat} {b : Nat}, b ∉ l → lineP P u l b = P b
  | [], _, _, _ => rfl
  | v :: l, u, b, h => by
    simp only [List.mem_cons, not_or] at h
    show (if b = v then u else lineP P (some v) l b) = P b
    rw [if_neg h.1]
    exact lineP_off h.2

theorem line_congr {P P' : Nat → Option Nat} : ∀ {l : List Nat} {u : Option Nat}, Line P u l → (∀ b ∈ l, P' b = P b) → Line P' u l
  | [], _, _, _ => trivial
  | v :: l, u, ⟨h1, h2⟩, h => ⟨(h v (List.mem_cons_self ..)).trans h1, line_congr h2 fun b hb => h b (List.mem_cons_of_mem _ hb)⟩

theorem lineP_line {P : Nat → Option Nat} : ∀ {l : List Nat} {u : Option Nat}, l.Nodup → Line (lineP P u l) u l
  | [], _, _ => trivial
  | v :: l, u, h => by
    obtain ⟨h1, h2⟩ := List.nodup_cons.1 h
    refine ⟨if_pos rfl, line_congr (lineP_line (P := P) (u := some v) h2) fun b hb => ?_⟩
    exact if_neg (fun e : b = v => h1 (e ▸ hb))

def Above (P : Nat → Option Nat) : Nat → Nat → Prop := fun g b => P b = some g

theorem ranks_acc {P : Nat → Option Nat} {rk : Nat → Nat} (h : Ranks P rk) (b : Nat) : Acc (Above P) b := by
  have hw : ∀ k b, rk b < k → Acc (Above P) b := by
    intro k
    induction k with
    | zero => intro b hb; exact absurd hb (Nat.not_lt_zero _)
    | succ k ih =>
      intro b hb
      exact ⟨_, fun g hg => ih g (by have := h b g hg; omega)⟩
  exact hw (rk b + 1) b (Nat.lt_succ_self _)

inductive Dp (P : Nat → Option Nat) : Nat → Nat → Prop
  | root {b : Nat} : P b = none → Dp P b 0
  | step {b g k : Nat} : P b = some g → Dp P g k → Dp P b (k + 1)

theorem dp_one {P : Nat → Option Nat} {b k : Nat} (h : Dp P b k) : ∀ {m : Nat}, Dp P b m → m = k := by
  induction h with
  | root e =>
    intro m h'
    cases h' with
    | root _ => rfl
    | step e' _ => rw [e] at e'; cases e'
  | step e _ ih =>
    intro m h'
    cases h' with
    | root e' => rw [e] at e'; cases e'
    | step e' h2 =>
      rw [e] at e'
      injection e' with e'
      subst e'
      rw [ih h2]

theorem dp_some {P : Nat → Option Nat} {b : Nat} (h : Acc (Above P) b) : ∃ k, Dp P b k := by
  induction h with
  | intro b _ ih =>
    cases hb : P b with
    | none => exact ⟨0, .root hb⟩
    | some g =>
      obtain ⟨k, hk⟩ := ih g hb
      exact ⟨k + 1, .step hb hk⟩

theorem acc_rank {P : Nat → Option Nat} (h : ∀ b, Acc (Above P) b) : ∃ rk, Ranks P rk := by
  refine ⟨fun b => Classical.choose (dp_some (h b)), fun b g hb => ?_⟩
  have h1 := Classical.choose_spec (dp_some (h b))
  have h2 := Classical.choose_spec (dp_some (h g))
  have h3 : Dp P b (Classical.choose (dp_some (h g)) + 1) := .step hb h2
  have := dp_one h1 h3
  show Classical.choose (dp_some (h g)) < Classical.choose (dp_some (h b))
  omega

theorem line_acc {P : Nat → Option Nat} : ∀ {l : List Nat} {u : Option Nat}, Line P u l → (∀ g, u = some g → Acc (Above P) g) → ∀ b ∈ l, Acc (Above P) b
  | [], _, _, _, b, hb => by simp at hb
  | v :: l, u, ⟨h1, h2⟩, hu, b, hb => by
    have hv : Acc (Above P) v := ⟨_, fun g hg => hu g (h1.symm.trans hg)⟩
    rcases List.mem_cons.1 hb with rfl | hb
    · exact hv
    · exact line_acc h2 (fun g hg => by injection hg with hg; exact hg ▸ hv) b hb

/-- A line over P, its first one a root: still no way leads back. -/
theorem lineP_rank {P : Nat → Option Nat} {l : List Nat} (hn : l.Nodup) (h : ∃ rk, Ranks P rk) : ∃ rk, Ranks (lineP P none l) rk := by
  obtain ⟨rk, hr⟩ := h
  refine acc_rank fun b => ?_
  have hl := line_acc (lineP_line (P := P) (u := none) hn) (fun g hg => by cases hg)
  induction ranks_acc hr b with
  | intro b _ ih =>
    by_cases hb : b ∈ l
    · exact hl b hb
    · refine ⟨_, fun g hg => ih g ?_⟩
      have hg : lineP P none l b = some g := hg
      rw [lineP_off hb] at hg
      exact hg

section

variable {S : Nat → Prop} {P : Nat → Option Nat} {N N' : Nat → NdL} {K : List (ST × Option Nat)} {y y' : ST}

/-- A chain with the root lies in another order. -/
theorem Fs.rev (h : Fs S P N ((y, none) :: K)) (hl : LaidS (nOf N') y' none) (ht : ToldS N' y') (hp : y'.flat.Perm y.flat) (hoff : ∀ b, b ∉ y.flat → N' b = N b) (he : ∀ b, (N' b).e = (N b).e) (hne : y' ≠ .nil) : Fs S (lineP P none y'.list) N' ((y', none) :: K) := by
  have hap := fun b hb => h.apart (c := (y, none)) (b := b) hb
  have hnd : y'.list.Nodup := (ST.perm_flat y').nodup_iff.2 (hp.nodup_iff.2 h.ctx.nodup)
  have hP : ∀ b, b ∉ y.flat → lineP P none y'.list b = P b := fun b hb => lineP_off fun hm => hb (hp.mem_iff.1 ((ST.perm_flat y').mem_iff.1 hm))
  refine ⟨?_, ?_, ?_, ?_, ?_, ?_, ?_, lineP_rank hnd h.rank, ?_, ?_⟩
  · intro c hc
    rcases List.mem_cons.1 hc with rfl | hc
    · exact hne
    · exact h.full c (List.mem_cons_of_mem _ hc)
  · intro b
    rw [h.part b, allK_cons, allK_cons]
    exact (hp.symm.append_right _).mem_iff
  · have := h.nodup
    rw [allK_cons] at this ⊢
    exact (hp.append_right _).nodup_iff.2 this
  · intro c hc
    rcases List.mem_cons.1 hc with rfl | hc
    · exact hl
    · refine laidS_far (h.laid c (List.mem_cons_of_mem _ hc)) fun b hb => ?_
      unfold nOf
      rw [hoff b fun hm => hap b hm c hc hb]
  · intro c hc
    rcases List.mem_cons.1 hc with rfl | hc
    · exact ht
    · refine told_far (h.told c (List.mem_cons_of_mem _ hc)) fun b hb => ?_
      rw [hoff b fun hm => hap b hm c hc hb]
      exact ⟨rfl, rfl, rfl, rfl⟩
  · intro c hc
    rcases List.mem_cons.1 hc with rfl | hc
    · intro g hg; cases hg
    · exact h.hang c (List.mem_cons_of_mem _ hc)
  · intro c hc
    rcases List.mem_cons.1 hc with rfl | hc
    · exact lineP_line hnd
    · exact line_congr (h.line c (List.mem_cons_of_mem _ hc)) fun b hb => hP b fun hm => hap b hm c hc ((ST.perm_flat c.1).mem_iff.1 hb)
  · rw [eds_far (N := N) fun b _ => he b, allK_cons]
    show sumE (eds N (y'.flat ++ allK K)) < _
    rw [eds_sum N (hp.append_right _)]
    exact h.bs
  · rw [eds_far (N := N) fun b _ => he b, allK_cons]
    show cntE (eds N (y'.flat ++ allK K)) < _
    rw [eds_cnt N (hp.append_right _)]
    exact h.bk

end

/-- What lead leaves: n is its tree's root and alone on top of its chain; P has turned along the way. -/
structure LdD (S : Nat → Prop) (P : Nat → Option Nat) (w0 : World) (N : Nat → NdL) (K : List (ST × Option Nat)) (n : Nat) (w : World) (N' : Nat → NdL) (K' : List (ST × Option Nat)) (A : ST) : Prop where
  at_ : NAt w S N'
  mod : Mod S w0 w
  fs : Fs S (lineP P none (n :: A.list)) N' ((.node .nil n false A, none) :: K')
  line : Line P none (n :: A.list).reverse
  same : ∀ b, (N' b).e = (N b).e ∧ (N' b).d = (N b).d
  off : ∀ c ∈ K, (∀ b ∈ c.1.flat, ¬ Anc P b n) → c ∈ K' ∧ ∀ b ∈ c.1.flat, N' b = N b

set_option maxRecDepth 100000 in
set_option maxHeartbeats 8000000 in
theorem lead_of (w : World) (S : Nat → Prop) (P : Nat → Option Nat) (N : Nat → NdL) (K : List (ST × Option Nat)) (n : Nat) (hn : S n)
    (hx : Calls Try.prog 41 #[.pointer (some ⟨n, 0, none⟩)] w fun e w' => e = .returned (.tuple #[]) ∧ ∃ N' K' A, ExD S P w N K n w' N' K' A) :
    Calls Try.prog 40 #[.pointer (some ⟨n, 0, none⟩)] w fun e w' => e = .returned (.tuple #[]) ∧ ∃ N' K' A, LdD S P w N K n w' N' K' A := by
  have HX := Lib.hid hx
  have HS := Lib.hid hn
  clear hx hn
  go_enter Try.func40, Try.ntmps40
  go_wp2_with fail
  refine HX.out.mono ?_
  rintro e w1 ⟨rfl, N1, K1, A, D⟩
  have HD := Lib.hid D
  have hl := D.fs.laid _ (List.mem_cons_self ..)
  have t2 : w1.cell? ⟨n, 3, none⟩ = some (.bool false) := by
    have k : w1.cell? ⟨n, 3, none⟩ = some (.bool (nOf N1 n).t) := (D.at_ n HS.out).cell 3
    rw [hl.1] at k
    exact k
  have f2 := (D.at_ n HS.out).frozen 3
  obtain ⟨N2, hN2⟩ : ∃ N2, N2 = withN N1 (upd (nOf N1) n { nOf N1 n with t := true }) := ⟨_, rfl⟩
  have HY : Hid (NAt (w1.setCell ⟨n, 3, none⟩ (.bool true)) S N2 ∧ Mod S w1 (w1.setCell ⟨n, 3, none⟩ (.bool true))) := Lib.hid (by
    have k := NAt.set3 D.at_ HS.out true (Mod.refl S w1)
    rw [hN2, ← withN_upd]
    exact k)
  have hl2 : LaidS (nOf N2) (.node A n true .nil) none := by
    have e : nOf N2 = upd (nOf N1) n { nOf N1 n with t := true } := by rw [hN2]; rfl
    have hnd := D.fs.ctx.nodup
    obtain ⟨-, -, a1, -, -⟩ := parts (l := A) (r := .nil) hnd
    rw [e]
    refine ⟨by rw [upd_same, hl.1], laidS_far hl.2.1 fun b hb => upd_ne _ _ (fun e => a1 (e ▸ hb)), trivial⟩
  have hclo : Clo S (nOf N2) := by
    have e : nOf N2 = upd (nOf N1) n { nOf N1 n with t := true } := by rw [hN2]; rfl
    rw [e]
    exact Clo.upd D.fs.clo fun b hb => D.fs.clo n HS.out b hb
  have HST : Hid (∀ w2, NAt w2 S N2 → Calls Try.prog 46 #[.pointer (some ⟨n, 0, none⟩)] w2 fun e w' => e = .returned (.tuple #[]) ∧ NAt w' S (withN N2 (setN (nOf N2) n)) ∧ Mod S w2 w') := Lib.hid (fun w2 h2 => settle_any w2 S N2 h2 n HS.out (fun c hc => hclo n HS.out c (.inr (.inl hc))) (fun c hc => hclo n HS.out c (.inr (.inr hc))))
  have HL2 := Lib.hid hl2
  have HN2 := Lib.hid hN2
  clear D hl hl2 hclo hN2
  go_wp2_with fail
  clear t2 f2
  refine (HST.out _ HY.out.1).mono ?_
  rintro e w2 ⟨rfl, h3, m3⟩
  have H3 := Lib.hid h3
  have M3 := Lib.hid m3
  clear h3 m3
  go_wp2_with fail
  go_end0
  obtain ⟨N3, hN3⟩ : ∃ N3, N3 = withN N2 (setN (nOf N2) n) := ⟨_, rfl⟩
  have h3 := H3.out
  rw [← hN3] at h3
  have hnd : (A.flat ++ n :: ST.nil.flat).Nodup := HD.out.fs.ctx.nodup
  have hls : LaidS (nOf N3) (.node .nil n false A.tog) none := by
    have k := laid_set HL2.out hnd
    rw [hN3]
    exact k
  have hoff : ∀ b, b ∉ (ST.node A n false .nil).flat → N3 b = N1 b := fun b hb => by
    have h1 : setN (nOf N2) n b = nOf N2 b := setN_far HL2.out hb
    have hbn : b ≠ n := fun e => hb (by rw [e]; simp [ST.flat])
    rw [hN3, withN_eta h1, HN2.out]
    exact withN_eta (upd_ne _ _ hbn)
  have hsame : ∀ b, (N3 b).e = (N1 b).e ∧ (N3 b).d = (N1 b).d := fun b => by rw [hN3, HN2.out]; exact ⟨rfl, rfl⟩
  have hperm : (ST.node .nil n false A.tog).flat.Perm (ST.node A n false .nil).flat := by
    have := ST.perm_set (.node A n true .nil)
    exact this
  have htold : ToldS N3 (.node .nil n false A.tog) := by
    have k := told_set (x := .node A n true .nil) (N := N1) (HD.out.fs.told _ (List.mem_cons_self ..))
    exact told_far (x := .node .nil n false A.tog) k fun b _ => by rw [hN3, HN2.out]; exact ⟨rfl, rfl, rfl, rfl⟩
  have hfs := HD.out.fs.rev hls htold hperm hoff (fun b => (hsame b).1) (by intro e; cases e)
  refine ⟨rfl, N3, K1, A.tog, h3, ((HD.out.mod.trans' HY.out.2).trans' M3.out), ?_, ?_, ?_, ?_⟩
  · have e : (ST.node .nil n false A.tog).list = n :: A.tog.list := by simp [ST.list]
    rw [← e]
    exact hfs
  · have k := HD.out.fs.line _ (List.mem_cons_self ..)
    rw [ST.list_tog, List.reverse_cons, List.reverse_reverse]
    simpa [ST.list] using k
  · intro b
    exact ⟨(hsame b).1.trans (HD.out.same b).1, (hsame b).2.trans (HD.out.same b).2⟩
  · intro c hc hno
    obtain ⟨o1, o2⟩ := HD.out.off c hc hno
    refine ⟨o1, fun b hb => ?_⟩
    rw [hoff b fun hm => HD.out.fs.apart hm c o1 hb]
    exact o2 b hb

theorem lead_any (w : World) (S : Nat → Prop) (P : Nat → Option Nat) (N : Nat → NdL) (K : List (ST × Option Nat)) (h : Fs S P N K) (hN : NAt w S N) (n : Nat) (hn : S n) :
    Calls Try.prog 40 #[.pointer (some ⟨n, 0, none⟩)] w fun e w' => e = .returned (.tuple #[]) ∧ ∃ N' K' A, LdD S P w N K n w' N' K' A := lead_of w S P N K n hn (expose_any w S P N K h hN n hn)

end Go.Proofs.Ytlhkajlkapoabaa
