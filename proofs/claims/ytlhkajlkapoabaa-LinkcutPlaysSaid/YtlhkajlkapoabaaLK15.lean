/-
  The walks of reaches and link.
-/
import Derived.Test.YtlhkajlkapoabaaLK14
namespace Go.Proofs.Ytlhkajlkapoabaa
open Go.RowKit Go.Maps
set_option linter.unusedVariables false

theorem laid_up_some {M : Nat → LN} : ∀ {y : ST} {g : Nat}, LaidS M y (some g) → ∀ b ∈ y.flat, ∃ d, (M b).up = some d
  | .nil, _, _, b, hb => by simp [ST.flat] at hb
  | .node l a t r, g, ⟨h1, h2, h3⟩, b, hb => by
    simp only [ST.flat, List.mem_append, List.mem_cons] at hb
    rcases hb with hb | rfl | hb
    · exact laid_up_some h2 b hb
    · exact ⟨g, by rw [h1]⟩
    · exact laid_up_some h3 b hb

/-- Whatever is above a line's node is on the line, or above its start. -/
theorem line_up {P : Nat → Option Nat} : ∀ {l : List Nat} {u : Option Nat}, Line P u l → ∀ b ∈ l, ∀ g, P b = some g → g ∈ l ∨ u = some g
  | [], _, _, b, hb, _, _ => by simp at hb
  | v :: l, u, ⟨h1, h2⟩, b, hb, g, hg => by
    rcases List.mem_cons.1 hb with rfl | hb
    · exact .inr (h1.symm.trans hg)
    · rcases line_up h2 b hb g hg with h | h
      · exact .inl (List.mem_cons_of_mem _ h)
      · injection h with h; exact .inl (by rw [h]; exact List.mem_cons_self ..)

theorem line_anc_mem {P : Nat → Option Nat} {l : List Nat} (hl : Line P none l) {a b : Nat} (h : Anc P a b) : b ∈ l → a ∈ l := by
  intro hb
  induction h with
  | refl _ => exact hb
  | step _ e ih =>
    rcases line_up hl _ (ih hb) _ e with h | h
    · exact h
    · cases h

theorem line_head {P : Nat → Option Nat} {n : Nat} {l : List Nat} (h : Line P none (n :: l)) {b : Nat} (hb : b ∈ n :: l) : Anc P n b := by
  rcases List.mem_cons.1 hb with rfl | hb
  · exact .refl _
  · exact line_anc h.2 hb

/-- P with n's place above changed. -/
def setP (P : Nat → Option Nat) (n : Nat) (u : Option Nat) : Nat → Option Nat := fun b => if b = n then u else P b

theorem setP_ne {P : Nat → Option Nat} {n b : Nat} {u : Option Nat} (h : b ≠ n) : setP P n u b = P b := if_neg h

theorem setP_same {P : Nat → Option Nat} {n : Nat} {u : Option Nat} : setP P n u n = u := if_pos rfl

theorem graft_rank {P : Nat → Option Nat} {n z : Nat} (h : ∃ rk, Ranks P rk) (hno : ¬ Anc P n z) : ∃ rk, Ranks (setP P n (some z)) rk := by
  obtain ⟨rk, hr⟩ := h
  have hto : ∀ b, Acc (Above P) b → Anc P b z → Acc (Above (setP P n (some z))) b := by
    intro b hb
    induction hb with
    | intro b _ ih =>
      intro ha
      have hbn : b ≠ n := fun e => hno (e ▸ ha)
      refine ⟨_, fun g hg => ?_⟩
      have hg : setP P n (some z) b = some g := hg
      rw [setP_ne hbn] at hg
      exact ih g hg (.step ha hg)
  refine acc_rank fun b => ?_
  induction ranks_acc hr b with
  | intro b _ ih =>
    refine ⟨_, fun g hg => ?_⟩
    have hg : setP P n (some z) b = some g := hg
    by_cases hbn : b = n
    · subst hbn
      rw [setP_same] at hg
      injection hg with hg
      subst hg
      exact hto _ (ranks_acc hr _) (.refl _)
    · rw [setP_ne hbn] at hg
      exact ih g hg

theorem root_rank {P : Nat → Option Nat} {n : Nat} (h : ∃ rk, Ranks P rk) : ∃ rk, Ranks (setP P n none) rk := by
  obtain ⟨rk, hr⟩ := h
  refine ⟨rk, fun b g hg => ?_⟩
  by_cases hbn : b = n
  · subst hbn; rw [setP_same] at hg; cases hg
  · rw [setP_ne hbn] at hg; exact hr b g hg

/-- A chain that has the root hangs on a node of another tree. -/
theorem Fs.graft {S : Nat → Prop} {P : Nat → Option Nat} {N : Nat → NdL} {K : List (ST × Option Nat)} {y : ST} {n z : Nat} {L : List Nat} (h : Fs S P N ((y, none) :: K)) (hy : y.root = some n) (hL : y.list = n :: L) (hno : ¬ Anc P n z) (hto : S z) :
    Fs S (setP P n (some z)) (withN N (upd (nOf N) n { nOf N n with up := some z })) ((y, some z) :: K) := by
  have hap := fun b hb => h.apart (c := (y, none)) (b := b) hb
  have hny : n ∈ y.flat := ST.root_mem hy
  have hnd : y.list.Nodup := (ST.perm_flat y).nodup_iff.2 h.ctx.nodup
  have hln : Line P none y.list := h.line _ (List.mem_cons_self ..)
  have hk : ∀ c ∈ K, n ∉ c.1.flat := fun c hc => hap n hny c hc
  refine ⟨?_, h.part, h.nodup, ?_, ?_, ?_, ?_, graft_rank h.rank hno, h.bs, h.bk⟩
  · intro c hc
    rcases List.mem_cons.1 hc with rfl | hc
    · exact h.full (y, none) (List.mem_cons_self ..)
    · exact h.full c (List.mem_cons_of_mem _ hc)
  · intro c hc
    rcases List.mem_cons.1 hc with rfl | hc
    · have k := laid_up (u' := some z) (h.laid _ (List.mem_cons_self ..)) h.ctx.nodup
      have k : LaidS (upO (nOf N) (some z) y.root) y (some z) := k
      rw [hy] at k
      exact k
    · exact laidS_far (h.laid c (List.mem_cons_of_mem _ hc)) fun b hb => upd_ne _ _ (fun e => hk c hc (e ▸ hb))
  · intro c hc
    rcases List.mem_cons.1 hc with rfl | hc
    · exact told_far (h.told (y, none) (List.mem_cons_self ..)) fun b _ => ⟨rfl, rfl, rfl, rfl⟩
    · exact told_far (h.told c (List.mem_cons_of_mem _ hc)) fun b _ => ⟨rfl, rfl, rfl, rfl⟩
  · intro c hc
    rcases List.mem_cons.1 hc with rfl | hc
    · intro g hg
      injection hg with hg
      exact hg ▸ hto
    · exact h.hang c (List.mem_cons_of_mem _ hc)
  · intro c hc
    rcases List.mem_cons.1 hc with rfl | hc
    · show Line _ (some z) y.list
      rw [hL] at hln hnd ⊢
      have hnL : n ∉ L := (List.nodup_cons.1 hnd).1
      exact ⟨setP_same, line_congr hln.2 fun b hb => setP_ne (fun e => hnL (e ▸ hb))⟩
    · exact line_congr (h.line c (List.mem_cons_of_mem _ hc)) fun b hb => setP_ne (fun e => hk c hc ((ST.perm_flat c.1).mem_iff.1 (e ▸ hb)))

/-- What is common to reaches, link and cut: n leads its tree, then 'to' is exposed. -/
structure ToD (S : Nat → Prop) (P : Nat → Option Nat) (w0 : World) (N : Nat → NdL) (K : List (ST × Option Nat)) (n z : Nat) (w : World) (B : ST) (P1 : Nat → Option Nat) (N' : Nat → NdL) (K' : List (ST × Option Nat)) (A : ST) : Prop where
  at_ : NAt w S N'
  mod : Mod S w0 w
  fs : Fs S P1 N' ((.node A z false .nil, none) :: K')
  same : ∀ b, (N' b).e = (N b).e ∧ (N' b).d = (N b).d
  turn : P1 = lineP P none (n :: B.list)
  line : Line P none (n :: B.list).reverse
  apart : ¬ Anc P1 n z → (ST.node .nil n false B, none) ∈ K' ∧ (nOf N' n).up = none
  reach : n ≠ z → Anc P1 n z → n ∈ A.flat ∧ ∃ d, (nOf N' n).up = some d
  root : P1 n = none

theorem toD_of {S : Nat → Prop} {P : Nat → Option Nat} {w0 w1 w2 : World} {N N1 N2 : Nat → NdL} {K K1 K2 : List (ST × Option Nat)} {n z : Nat} {B A : ST} (L : LdD S P w0 N K n w1 N1 K1 B) (E : ExD S (lineP P none (n :: B.list)) w1 N1 ((.node .nil n false B, none) :: K1) z w2 N2 K2 A) :
    ToD S P w0 N K n z w2 B (lineP P none (n :: B.list)) N2 K2 A := by
  have hl0 : Line (lineP P none (n :: B.list)) none (n :: B.list) := by
    have k := L.fs.line _ (List.mem_cons_self ..)
    have e : (ST.node .nil n false B).list = n :: B.list := by simp [ST.list]
    rw [← e]
    rw [← e] at k
    exact k
  refine ⟨E.at_, L.mod.trans' E.mod, E.fs, fun b => ⟨(E.same b).1.trans (L.same b).1, (E.same b).2.trans (L.same b).2⟩, rfl, L.line, fun hno => ?_, fun hne ha => ?_, hl0.1⟩
  · obtain ⟨o1, o2⟩ := E.off _ (List.mem_cons_self ..) (fun b hb ha => hno ((line_head hl0 (by
      have hb : b ∈ (ST.node .nil n false B).list := (ST.perm_flat _).mem_iff.2 hb
      simpa [ST.list] using hb)).trans ha))
    refine ⟨o1, ?_⟩
    have e : nOf N2 n = nOf N1 n := by unfold nOf; rw [o2 n (by simp [ST.flat])]
    rw [e, (L.fs.laid _ (List.mem_cons_self ..)).1]
  · have hl := E.fs.line _ (List.mem_cons_self ..)
    have hm : n ∈ (ST.node A z false .nil).list := line_anc_mem hl ha ((ST.perm_flat _).mem_iff.2 (by simp [ST.flat]))
    have hA : n ∈ A.flat := by
      have h := (ST.perm_flat _).mem_iff.1 hm
      simp only [ST.flat, List.mem_append, List.mem_cons, List.not_mem_nil, or_false] at h
      rcases h with h | h
      · exact h
      · exact absurd h hne
    exact ⟨hA, laid_up_some (E.fs.laid _ (List.mem_cons_self ..)).2.1 n hA⟩

set_option maxRecDepth 100000 in
set_option maxHeartbeats 8000000 in
theorem reaches_any (w : World) (S : Nat → Prop) (P : Nat → Option Nat) (N : Nat → NdL) (K : List (ST × Option Nat)) (h : Fs S P N K) (hN : NAt w S N) (n z : Nat) (hn : S n) (ht : S z) :
    Calls Try.prog 36 #[.pointer (some ⟨n, 0, none⟩), .pointer (some ⟨z, 0, none⟩)] w fun e w' => ∃ r : Bool, e = .returned (.bool r) ∧ ∃ B P1 N' K' A, (r = true ↔ Anc P1 n z) ∧ ToD S P w N K n z w' B P1 N' K' A := by
  have HL := Lib.hid (lead_any w S P N K h hN n hn)
  have HN := Lib.hid hn
  have HT := Lib.hid ht
  clear h hN hn ht
  go_enter Try.func36, Try.ntmps36
  go_wp2_with fail
  refine HL.out.mono ?_
  rintro e w1 ⟨rfl, N1, K1, B, L⟩
  have HLD := Lib.hid L
  have HE := Lib.hid (expose_any w1 S _ N1 _ L.fs L.at_ z HT.out)
  clear L
  go_wp2_with fail
  refine HE.out.mono ?_
  rintro e w2 ⟨rfl, N2, K2, A, E⟩
  have D := toD_of HLD.out E
  have HD := Lib.hid D
  by_cases hnt : n = z
  · subst hnt
    have hee := run_eqP_same n
    clear D E
    go_wp2_with fail
    go_ret
    exact ⟨true, rfl, _, _, _, _, _, ⟨fun _ => .refl _, fun _ => rfl⟩, HD.out⟩
  · have hee := run_eqP_other (E.at_ n HN.out) (E.at_ z HT.out) hnt
    have n0 : w2.cell? ⟨n, 0, none⟩ = some (ptrV (nOf N2 n).up) := (E.at_ n HN.out).cell 0
    by_cases ha : Anc (lineP P none (n :: B.list)) n z
    · obtain ⟨-, d, hd⟩ := D.reach hnt ha
      rw [hd] at n0
      replace n0 : w2.cell? ⟨n, 0, none⟩ = some (.pointer (some ⟨d, 0, none⟩)) := n0
      have HA := Lib.hid ha
      clear D E hd ha hnt
      go_wp2_with fail
      go_ret
      exact ⟨true, rfl, _, _, _, _, _, ⟨fun _ => HA.out, fun _ => rfl⟩, HD.out⟩
    · obtain ⟨-, hd⟩ := D.apart ha
      rw [hd] at n0
      replace n0 : w2.cell? ⟨n, 0, none⟩ = some (.pointer none) := n0
      have HA := Lib.hid ha
      clear D E hd ha hnt
      go_wp2_with fail
      go_ret
      exact ⟨false, rfl, _, _, _, _, _, ⟨fun h => (by cases h), fun h => absurd h HA.out⟩, HD.out⟩

/-- What link leaves. -/
structure LkD (S : Nat → Prop) (P : Nat → Option Nat) (w0 : World) (N : Nat → NdL) (n z : Nat) (w : World) (P1 : Nat → Option Nat) (N' : Nat → NdL) (K' : List (ST × Option Nat)) : Prop where
  at_ : NAt w S N'
  mod : Mod S w0 w
  fs : Fs S (setP P1 n (some z)) N' K'
  same : ∀ b, (N' b).e = (N b).e ∧ (N' b).d = (N b).d
  turn : ∃ B : ST, P1 = lineP P none (n :: B.list) ∧ Line P none (n :: B.list).reverse

set_option maxRecDepth 100000 in
set_option maxHeartbeats 8000000 in
theorem link_of (w : World) (S : Nat → Prop) (P : Nat → Option Nat) (N : Nat → NdL) (K : List (ST × Option Nat)) (n z : Nat) (hn : S n) (ht : S z) (hno : ∀ B : ST, Line P none (n :: B.list).reverse → ¬ Anc (lineP P none (n :: B.list)) n z)
    (hL : Calls Try.prog 40 #[.pointer (some ⟨n, 0, none⟩)] w fun e w' => e = .returned (.tuple #[]) ∧ ∃ N' K' A, LdD S P w N K n w' N' K' A) :
    Calls Try.prog 30 #[.pointer (some ⟨n, 0, none⟩), .pointer (some ⟨z, 0, none⟩)] w fun e w' => e = .returned (.tuple #[]) ∧ ∃ P1 N' K', LkD S P w N n z w' P1 N' K' := by
  have HL := Lib.hid hL
  have HN := Lib.hid hn
  have HT := Lib.hid ht
  have HNO := Lib.hid hno
  clear hL hn ht hno
  go_enter Try.func30, Try.ntmps30
  go_wp2_with fail
  refine HL.out.mono ?_
  rintro e w1 ⟨rfl, N1, K1, B, L⟩
  have HLD := Lib.hid L
  have HE := Lib.hid (expose_any w1 S _ N1 _ L.fs L.at_ z HT.out)
  clear L
  go_wp2_with fail
  refine HE.out.mono ?_
  rintro e w2 ⟨rfl, N2, K2, A, E⟩
  have D := toD_of HLD.out E
  have HD := Lib.hid D
  have n0 : w2.cell? ⟨n, 0, none⟩ = some (ptrV (nOf N2 n).up) := (E.at_ n HN.out).cell 0
  have f0 := (E.at_ n HN.out).frozen 0
  clear D E
  go_wp2_with fail
  go_end0
  have hno := HNO.out B HLD.out.line
  obtain ⟨hm, -⟩ := HD.out.apart hno
  obtain ⟨s1, s2, es⟩ := List.append_of_mem hm
  have hp : ((ST.node A z false .nil, (none : Option Nat)) :: K2).Perm ((ST.node .nil n false B, none) :: ((ST.node A z false .nil, none) :: (s1 ++ s2))) := by
    rw [es]
    exact (List.Perm.cons _ List.perm_middle).trans (List.Perm.swap _ _ _)
  have hf := HD.out.fs.perm hp
  have hg := hf.graft (n := n) (z := z) (L := B.list) rfl (by simp [ST.list]) hno HT.out
  have hst := nat_setUp (c := n) (N := N2) (M := nOf N2) ⟨HD.out.at_, HD.out.mod⟩ HN.out (some z)
  exact ⟨rfl, _, _, _, hst.1, hst.2, hg, (fun b => HD.out.same b), ⟨B, rfl, HLD.out.line⟩⟩

theorem link_any (w : World) (S : Nat → Prop) (P : Nat → Option Nat) (N : Nat → NdL) (K : List (ST × Option Nat)) (h : Fs S P N K) (hN : NAt w S N) (n z : Nat) (hn : S n) (ht : S z) (hno : ∀ B : ST, Line P none (n :: B.list).reverse → ¬ Anc (lineP P none (n :: B.list)) n z) :
    Calls Try.prog 30 #[.pointer (some ⟨n, 0, none⟩), .pointer (some ⟨z, 0, none⟩)] w fun e w' => e = .returned (.tuple #[]) ∧ ∃ P1 N' K', LkD S P w N n z w' P1 N' K' := link_of w S P N K n z hn ht hno (lead_any w S P N K h hN n hn)

end Go.Proofs.Ytlhkajlkapoabaa
