/-
  The walk of cut.
-/
import Derived.Test.YtlhkajlkapoabaaLK15
namespace Go.Proofs.Ytlhkajlkapoabaa
open Go.RowKit Go.Maps
set_option linter.unusedVariables false

/-- The line from a root to what is next to it. -/
theorem line_two {P : Nat → Option Nat} {n z : Nat} {l : List Nat} (h : Line P none (l ++ [z])) (hz : P z = some n) (hn : P n = none) : l = [n] := by
  cases hl : l with
  | nil =>
    rw [hl] at h
    have h1 : P z = none := h.1
    rw [hz] at h1
    cases h1
  | cons a m =>
    have hc := List.dropLast_concat_getLast (show l ≠ [] by rw [hl]; simp)
    obtain ⟨k, b, e⟩ : ∃ k b, l = k ++ [b] := ⟨_, _, hc.symm⟩
    rw [e, List.append_assoc] at h
    obtain ⟨h1, h2⟩ := line_append.1 h
    have hb : P z = some b := h2.1
    rw [hz] at hb
    injection hb with hb
    subst hb
    cases hk : k with
    | nil => rw [← hl, e, hk]; rfl
    | cons c k' =>
      have hc' := List.dropLast_concat_getLast (show k ≠ [] by rw [hk]; simp)
      obtain ⟨k2, d, e2⟩ : ∃ k2 d, k = k2 ++ [d] := ⟨_, _, hc'.symm⟩
      rw [e2, List.append_assoc] at h1
      obtain ⟨h3, h4⟩ := line_append.1 h1
      have h5 : P n = some d := h4.1
      rw [hn] at h5
      cases h5

theorem one_node {A : ST} {n : Nat} (h : A.list = [n]) : ∃ t, A = .node .nil n t .nil := by
  cases A with
  | nil => cases h
  | node l a t r =>
    have hp := ST.perm_flat (.node l a t r)
    rw [h] at hp
    have hlen := hp.length_eq
    simp only [ST.flat, List.length_append, List.length_cons, List.length_nil] at hlen
    have hl : l = .nil := by
      cases l with
      | nil => rfl
      | node _ _ _ _ =>
        exfalso
        simp only [ST.flat, List.length_append, List.length_cons] at hlen
        omega
    have hr : r = .nil := by
      cases r with
      | nil => rfl
      | node _ _ _ _ =>
        exfalso
        simp only [ST.flat, List.length_append, List.length_cons] at hlen
        omega
    subst hl hr
    have ha : a ∈ [n] := hp.mem_iff.2 (by simp [ST.flat])
    rw [List.mem_singleton.1 ha]
    exact ⟨t, rfl⟩

/-- Two nodes, the one next to the root, are told apart. -/
def snipN (N : Nat → NdL) (n z : Nat) : Nat → NdL := withN N (upd (upd (nOf N) n { nOf N n with up := none }) z { nOf N z with l := none })

theorem Fs.snip {S : Nat → Prop} {P : Nat → Option Nat} {N : Nat → NdL} {K : List (ST × Option Nat)} {n z : Nat} {t : Bool} (h : Fs S P N ((.node (.node .nil n t .nil) z false .nil, none) :: K)) :
    Fs S (setP P z none) (tellAt (snipN N n z) z) ((.node .nil z false .nil, none) :: (.node .nil n t .nil, none) :: K) := by
  have h0 := h.ctx.nodup
  have hne : n ≠ z := by
    intro e
    subst e
    simp [ST.flat] at h0
  have hl := h.laid _ (List.mem_cons_self ..)
  have ht := h.told _ (List.mem_cons_self ..)
  have hln : Line P none [n, z] := by
    have k := h.line _ (List.mem_cons_self ..)
    cases t <;> simpa [ST.list] using k
  have hz : nOf N z = ⟨none, some n, none, false⟩ := hl.1
  have hn : nOf N n = ⟨some z, none, none, t⟩ := hl.2.1.1
  have hap : ∀ c ∈ K, n ∉ c.1.flat ∧ z ∉ c.1.flat := fun c hc => ⟨h.apart (by simp [ST.flat]) c hc, h.apart (by simp [ST.flat]) c hc⟩
  have e1 : nOf (tellAt (snipN N n z) z) = upd (upd (nOf N) n { nOf N n with up := none }) z { nOf N z with l := none } := by rw [nOf_tellAt]; rfl
  have he : ∀ b, (tellAt (snipN N n z) z b).e = (N b).e := fun b => (tellAt_e _ _ b).1
  have hp : (allK ((ST.node .nil z false .nil, (none : Option Nat)) :: (.node .nil n t .nil, none) :: K)).Perm (allK ((ST.node (.node .nil n t .nil) z false .nil, (none : Option Nat)) :: K)) := by
    show ([z] ++ ([n] ++ allK K)).Perm ([n, z] ++ allK K)
    exact List.Perm.swap _ _ _
  have hK : ∀ c ∈ K, c ∈ (ST.node (.node .nil n t .nil) z false .nil, (none : Option Nat)) :: K := fun c hc => List.mem_cons_of_mem _ hc
  have hin : ∀ c, c ∈ (ST.node .nil z false .nil, (none : Option Nat)) :: (.node .nil n t .nil, none) :: K → c = (.node .nil z false .nil, none) ∨ c = (.node .nil n t .nil, none) ∨ c ∈ K := fun c hc => by
    rcases List.mem_cons.1 hc with e | hc
    · exact .inl e
    · rcases List.mem_cons.1 hc with e | hc
      · exact .inr (.inl e)
      · exact .inr (.inr hc)
  have sn : snipN N n z n = { N n with n := ⟨none, none, none, t⟩ } := by
    unfold snipN withN
    rw [upd_ne _ _ hne, upd_same, hn]
  have sz : (snipN N n z z).n = ⟨none, none, none, false⟩ := by
    unfold snipN withN
    dsimp only
    rw [upd_same, hz]
  refine ⟨?_, ?_, ?_, ?_, ?_, ?_, ?_, root_rank h.rank, ?_, ?_⟩
  · intro c hc
    rcases hin c hc with rfl | rfl | hc
    · intro e; cases e
    · intro e; cases e
    · exact h.full c (hK c hc)
  · intro b; rw [h.part b]; exact hp.symm.mem_iff
  · exact hp.nodup_iff.2 h.nodup
  · intro c hc
    rw [e1]
    rcases hin c hc with rfl | rfl | hc
    · exact ⟨by rw [upd_same, hz]; rfl, trivial, trivial⟩
    · exact ⟨by rw [upd_ne _ _ hne, upd_same, hn]; rfl, trivial, trivial⟩
    · exact laidS_far (h.laid c (hK c hc)) fun b hb => by
        rw [upd_ne _ _ (fun e : b = z => (hap c hc).2 (e ▸ hb)), upd_ne _ _ (fun e : b = n => (hap c hc).1 (e ▸ hb))]
  · intro c hc
    rcases hin c hc with rfl | rfl | hc
    · exact told_tell (l := .nil) (r := .nil) trivial trivial (by rw [sz]; rfl) (by rw [sz]; rfl) (by simp [ST.flat]) (by simp [ST.flat])
    · refine told_far ht.2.1 fun b hb => ?_
      have hb : b = n := by simpa [ST.flat] using hb
      subst hb
      rw [tellAt_ne _ hne, sn]
      exact ⟨rfl, rfl, rfl, rfl⟩
    · refine told_far (h.told c (hK c hc)) fun b hb => ?_
      rw [tellAt_ne _ (fun e : b = z => (hap c hc).2 (e ▸ hb))]
      exact ⟨rfl, rfl, rfl, rfl⟩
  · intro c hc g hg
    rcases hin c hc with rfl | rfl | hc
    · cases hg
    · cases hg
    · exact h.hang c (hK c hc) g hg
  · intro c hc
    rcases hin c hc with rfl | rfl | hc
    · show Line _ none [z]
      exact ⟨setP_same, trivial⟩
    · have e : (ST.node .nil n t .nil).list = [n] := by cases t <;> simp [ST.list]
      show Line _ none (ST.node .nil n t .nil).list
      rw [e]
      exact ⟨(setP_ne hne).trans hln.1, trivial⟩
    · exact line_congr (h.line c (hK c hc)) fun b hb => setP_ne (fun e => (hap c hc).2 ((ST.perm_flat c.1).mem_iff.1 (e ▸ hb)))
  · rw [eds_far (N := N) fun b _ => he b, eds_sum N hp]
    exact h.bs
  · rw [eds_far (N := N) fun b _ => he b, eds_cnt N hp]
    exact h.bk

/-- What cut leaves. -/
structure CuD (S : Nat → Prop) (P : Nat → Option Nat) (w0 : World) (N : Nat → NdL) (n z : Nat) (w : World) (P1 : Nat → Option Nat) (N' : Nat → NdL) (K' : List (ST × Option Nat)) : Prop where
  at_ : NAt w S N'
  mod : Mod S w0 w
  fs : Fs S (setP P1 z none) N' K'
  same : ∀ b, (N' b).e = (N b).e ∧ (N' b).d = (N b).d
  turn : ∃ B : ST, P1 = lineP P none (n :: B.list) ∧ Line P none (n :: B.list).reverse

set_option maxRecDepth 100000 in
set_option maxHeartbeats 8000000 in
theorem cut_any (w : World) (S : Nat → Prop) (P : Nat → Option Nat) (N : Nat → NdL) (K : List (ST × Option Nat)) (h : Fs S P N K) (hN : NAt w S N) (n z : Nat) (hn : S n) (ht : S z) (hadj : ∀ B : ST, Line P none (n :: B.list).reverse → lineP P none (n :: B.list) z = some n) :
    Calls Try.prog 31 #[.pointer (some ⟨n, 0, none⟩), .pointer (some ⟨z, 0, none⟩)] w fun e w' => e = .returned (.tuple #[]) ∧ ∃ P1 N' K', CuD S P w N n z w' P1 N' K' := by
  have HL := Lib.hid (lead_any w S P N K h hN n hn)
  have HN := Lib.hid hn
  have HT := Lib.hid ht
  have HNO := Lib.hid hadj
  clear h hN hn ht hadj
  go_enter Try.func31, Try.ntmps31
  go_wp2_with fail
  refine HL.out.mono ?_
  rintro e w1 ⟨rfl, N1, K1, B, L⟩
  have HLD := Lib.hid L
  have HE := Lib.hid (expose_any w1 S _ N1 _ L.fs L.at_ z HT.out)
  clear L
  go_wp2_with fail
  refine HE.out.mono ?_
  rintro e w2 ⟨rfl, N2, K2, A, E⟩
  have D := toD_of HLD.out E
  have hA : A.list = [n] := by
    have k := E.fs.line _ (List.mem_cons_self ..)
    have k : Line (lineP P none (n :: B.list)) none (A.list ++ [z]) := by simpa [ST.list] using k
    exact line_two k (HNO.out B HLD.out.line) D.root
  obtain ⟨t, eA⟩ := one_node hA
  subst eA
  have HD := Lib.hid D
  have hl := D.fs.laid _ (List.mem_cons_self ..)
  have hne : ¬ n = z := by
    intro e
    have h0 := D.fs.ctx.nodup
    subst e
    simp [ST.flat] at h0
  have n0 : w2.cell? ⟨n, 0, none⟩ = some (.pointer (some ⟨z, 0, none⟩)) := by
    have k : w2.cell? ⟨n, 0, none⟩ = some (ptrV (nOf N2 n).up) := (E.at_ n HN.out).cell 0
    rw [hl.2.1.1] at k
    exact k
  have z1 : w2.cell? ⟨z, 1, none⟩ = some (.pointer (some ⟨n, 0, none⟩)) := by
    have k : w2.cell? ⟨z, 1, none⟩ = some (ptrV (nOf N2 z).l) := (E.at_ z HT.out).cell 1
    rw [hl.1] at k
    exact k
  have f0 := (E.at_ n HN.out).frozen 0
  have f1 := (E.at_ z HT.out).frozen 1
  have HY : Hid (∀ w3, NAt w3 S (snipN N2 n z) → Calls Try.prog 42 #[.pointer (some ⟨z, 0, none⟩)] w3 fun e w' => e = .returned (.tuple #[]) ∧ NAt w' S (tellAt (snipN N2 n z) z) ∧ Mod S w3 w') := Lib.hid (fun w3 h3 => by
    have e1 : (snipN N2 n z z).n = ⟨none, none, none, false⟩ := by
      unfold snipN withN
      dsimp only
      rw [upd_same, hl.1]
      rfl
    have hb := D.fs.bs
    have hk := D.fs.bk
    unfold eds at hb hk
    rw [allK_cons] at hb hk
    simp only [ST.flat, List.nil_append, List.map_cons, List.cons_append, sumE_cons, cntE_cons] at hb hk
    refine tell_any w3 S (snipN N2 n z) h3 z HT.out ?_ (by rw [e1]; intro e; cases e) (by rw [e1]; intro e; cases e) (by rw [e1]; show (N2 z).e.stepS + 0 + 0 < _; omega) (by rw [e1]; show (N2 z).e.stepK + 0 + 0 < _; omega)
    show Clo S (upd (upd (nOf N2) n { nOf N2 n with up := none }) z { nOf N2 z with l := none })
    refine Clo.upd (Clo.upd D.fs.clo ?_) ?_
    · rintro b (hb | hb)
      · cases hb
      · exact D.fs.clo n HN.out b (.inr hb)
    · rintro b (hb | hb | hb)
      · exact D.fs.clo z HT.out b (.inl hb)
      · cases hb
      · exact D.fs.clo z HT.out b (.inr (.inr hb)))
  clear D E hl hA
  go_upto_region 2 with fail
  go_region
  go_upto_region 3 with fail
  obtain ⟨w3, hw3⟩ : ∃ w3, w3 = ((w2.setCell ⟨n, 0, none⟩ (.pointer none)).setCell ⟨z, 1, none⟩ (.pointer none)).drew := ⟨_, rfl⟩
  rw [← hw3]
  have H3 : Hid (NAt w3 S (snipN N2 n z) ∧ Mod S w w3) := Lib.hid (by
    have k1 := nat_setUp (c := n) (N := N2) (M := nOf N2) ⟨HD.out.at_, HD.out.mod⟩ HN.out none
    have k2 := nat_setL (c := z) k1 HT.out none
    rw [upd_ne _ _ (fun e => hne e.symm)] at k2
    rw [hw3]
    exact ⟨(fun b hb => (k2.1 b hb).drew), k2.2.drew⟩)
  clear hw3 n0 z1 f0 f1
  go_wp2_with fail
  refine (HY.out w3 H3.out.1).mono ?_
  rintro e w4 ⟨rfl, h4, m4⟩
  have H4 := Lib.hid h4
  have M4 := Lib.hid m4
  clear h4 m4
  go_wp2_with fail
  go_end0
  refine ⟨rfl, _, _, _, H4.out, H3.out.2.trans' M4.out, HD.out.fs.snip, ?_, ⟨B, rfl, HLD.out.line⟩⟩
  intro b
  have k := tellAt_e (snipN N2 n z) z b
  exact ⟨k.1.trans (HD.out.same b).1, k.2.trans (HD.out.same b).2⟩

end Go.Proofs.Ytlhkajlkapoabaa
