/-
  The walk of lift.
-/
import Derived.Test.YtlhkajlkapoabaaLK5
namespace Go.Proofs.Ytlhkajlkapoabaa
open Go.RowKit Go.Maps
set_option linter.unusedVariables false

def tellAt (N : Nat → NdL) (a : Nat) : Nat → NdL := updL N a ((N a).tellX ((N a).n.l.map N) ((N a).n.r.map N))

theorem nOf_tellAt (N : Nat → NdL) (a : Nat) : nOf (tellAt N a) = nOf N := by
  funext b
  unfold nOf tellAt updL
  by_cases h : b = a
  · subst h; rw [if_pos rfl]; rfl
  · rw [if_neg h]

theorem tellAt_ne (N : Nat → NdL) {a b : Nat} (h : b ≠ a) : tellAt N a b = N b := updL_ne N _ h

theorem tell_any (w : World) (S : Nat → Prop) (N : Nat → NdL) (h : NAt w S N) (a : Nat) (ha : S a) (hc : Clo S (nOf N)) (h1 : (N a).n.l ≠ some a) (h2 : (N a).n.r ≠ some a)
    (hs : (N a).e.stepS + sOf ((N a).n.l.map N) + sOf ((N a).n.r.map N) < 2 ^ 53) (hk : (N a).e.stepK + kOf ((N a).n.l.map N) + kOf ((N a).n.r.map N) < 2 ^ 53) :
    Calls Try.prog 42 #[.pointer (some ⟨a, 0, none⟩)] w fun e w' => e = .returned (.tuple #[]) ∧ NAt w' S (tellAt N a) ∧ Mod S w w' := by
  have e1 : ∀ o : Option Nat, (o.map fun b => (b, N b)).map (·.1) = o := fun o => by cases o <;> rfl
  have e2 : ∀ o : Option Nat, (o.map fun b => (b, N b)).map (·.2) = o.map N := fun o => by cases o <;> rfl
  refine (tell_core w a (N a) (h a ha) ((N a).n.l.map fun b => (b, N b)) ((N a).n.r.map fun b => (b, N b)) (e1 _).symm (e1 _).symm ?_ ?_ ?_ ?_).mono ?_
  · intro b x hb
    cases hl : (N a).n.l with
    | none => rw [hl] at hb; cases hb
    | some c =>
      rw [hl] at hb
      injection hb with hb
      injection hb with hb hx
      subst hb hx
      exact ⟨h c (hc a ha c (.inr (.inl hl))), fun e => h1 (by rw [hl, e])⟩
  · intro b x hb
    cases hl : (N a).n.r with
    | none => rw [hl] at hb; cases hb
    | some c =>
      rw [hl] at hb
      injection hb with hb
      injection hb with hb hx
      subst hb hx
      exact ⟨h c (hc a ha c (.inr (.inr hl))), fun e => h2 (by rw [hl, e])⟩
  · rw [e2, e2]; exact hs
  · rw [e2, e2]; exact hk
  · rintro e w1 ⟨rfl, hb, hm⟩
    rw [e2, e2] at hb
    exact ⟨rfl, h.upd hm hb, hm.mono (fun k _ hk => hk ▸ ha)⟩

section

variable {w w0 : World} {S : Nat → Prop} {N : Nat → NdL} {M : Nat → LN} {c : Nat}

theorem nat_setUp (h : NAt w S (withN N M) ∧ Mod S w0 w) (hc : S c) (o : Option Nat) : NAt (w.setCell ⟨c, 0, none⟩ (ptrV o)) S (withN N (upd M c { M c with up := o })) ∧ Mod S w0 (w.setCell ⟨c, 0, none⟩ (ptrV o)) := by
  rw [← withN_upd]
  exact ⟨h.1.upd (mod_set (Mod.refl _ _) _) ((h.1 c hc).set_ 0 _), mod_setS h.2 hc _ _⟩

theorem nat_setL (h : NAt w S (withN N M) ∧ Mod S w0 w) (hc : S c) (o : Option Nat) : NAt (w.setCell ⟨c, 1, none⟩ (ptrV o)) S (withN N (upd M c { M c with l := o })) ∧ Mod S w0 (w.setCell ⟨c, 1, none⟩ (ptrV o)) := by
  rw [← withN_upd]
  exact ⟨h.1.upd (mod_set (Mod.refl _ _) _) ((h.1 c hc).set_ 1 _), mod_setS h.2 hc _ _⟩

theorem nat_setR (h : NAt w S (withN N M) ∧ Mod S w0 w) (hc : S c) (o : Option Nat) : NAt (w.setCell ⟨c, 2, none⟩ (ptrV o)) S (withN N (upd M c { M c with r := o })) ∧ Mod S w0 (w.setCell ⟨c, 2, none⟩ (ptrV o)) := by
  rw [← withN_upd]
  exact ⟨h.1.upd (mod_set (Mod.refl _ _) _) ((h.1 c hc).set_ 2 _), mod_setS h.2 hc _ _⟩

theorem Clo.upd (h : Clo S M) {x : LN} (hx : ∀ b, x.up = some b ∨ x.l = some b ∨ x.r = some b → S b) : Clo S (Go.Proofs.Ytlhkajlkapoabaa.upd M c x) := by
  intro b hb d hd
  by_cases e : b = c
  · subst e; rw [upd_same] at hd; exact hx d hd
  · rw [upd_ne _ _ e] at hd; exact h b hb d hd

theorem Clo.upO (h : Clo S M) {u o : Option Nat} (hu : ∀ b, u = some b → S b) (ho : ∀ b, o = some b → S b) : Clo S (Go.Proofs.Ytlhkajlkapoabaa.upO M u o) := by
  cases o with
  | none => exact h
  | some i =>
    have k := h i (ho i rfl)
    exact Clo.upd h fun b hb => by
      rcases hb with hb | hb | hb
      · exact hu b hb
      · exact k b (.inr (.inl hb))
      · exact k b (.inr (.inr hb))

end

/-- What the node above p's says when a takes p's place. -/
def hangX (M : Nat → LN) (p a : Nat) : Nat → LN :=
  match (M p).up with
  | none => M
  | some g => if (M g).l = some p then upd M g { M g with l := some a } else if (M g).r = some p then upd M g { M g with r := some a } else M

theorem hang_cases (M : Nat → LN) (p a : Nat) : ((sideN M p).2 = false ∧ hangX M p a = M) ∨ (∃ g, (M p).up = some g ∧ sideN M p = (0, true) ∧ hangX M p a = upd M g { M g with l := some a }) ∨ (∃ g, (M p).up = some g ∧ sideN M p = (1, true) ∧ hangX M p a = upd M g { M g with r := some a }) := by
  unfold sideN hangX
  cases hu : (M p).up with
  | none => exact .inl ⟨rfl, rfl⟩
  | some g =>
    dsimp only
    by_cases h1 : (M g).l = some p
    · rw [if_pos h1, if_pos h1]; exact .inr (.inl ⟨g, rfl, rfl, rfl⟩)
    · by_cases h2 : (M g).r = some p
      · rw [if_neg h1, if_pos h2, if_neg h1, if_pos h2]; exact .inr (.inr ⟨g, rfl, rfl, rfl⟩)
      · rw [if_neg h1, if_neg h2, if_neg h1, if_neg h2]; exact .inl ⟨rfl, rfl⟩

theorem hang_ne {M : Nat → LN} {p a b : Nat} (h : (M p).up ≠ some b) : hangX M p a b = M b := by
  unfold hangX
  cases hu : (M p).up with
  | none => rfl
  | some g =>
    have hg : b ≠ g := fun e => h (by rw [hu, e])
    dsimp only
    by_cases h1 : (M g).l = some p
    · rw [if_pos h1, upd_ne _ _ hg]
    · by_cases h2 : (M g).r = some p
      · rw [if_neg h1, if_pos h2, upd_ne _ _ hg]
      · rw [if_neg h1, if_neg h2]

theorem Clo.hang {S : Nat → Prop} {M : Nat → LN} (h : Clo S M) {p a : Nat} (hp : S p) (ha : S a) : Clo S (hangX M p a) := by
  rcases hang_cases M p a with ⟨-, e⟩ | ⟨g, hu, -, e⟩ | ⟨g, hu, -, e⟩
  · rw [e]; exact h
  · have hg := h p hp g (.inl hu)
    rw [e]
    refine Clo.upd h fun b hb => ?_
    rcases hb with hb | hb | hb
    · exact h g hg b (.inl hb)
    · injection hb with hb; exact hb ▸ ha
    · exact h g hg b (.inr (.inr hb))
  · have hg := h p hp g (.inl hu)
    rw [e]
    refine Clo.upd h fun b hb => ?_
    rcases hb with hb | hb | hb
    · exact h g hg b (.inl hb)
    · exact h g hg b (.inr (.inl hb))
    · injection hb with hb; exact hb ▸ ha


/-- A lift, store by store. -/
theorem lift_steps0 (M : Nat → LN) (a p : Nat) (hap : a ≠ p) (h1 : (M a).r ≠ some a) (h2 : (M a).r ≠ some p) :
    liftN M a p false = upd (upO (upd (upd (upd M a { M a with up := (M p).up }) p { M p with up := some a }) p { M p with up := some a, l := (M a).r }) (some p) (M a).r) a { M a with up := (M p).up, r := some p } := by
  unfold liftN
  simp only [Bool.false_eq_true, if_false]
  have a1 : upO M (some p) (M a).r p = M p := upO_ne M h2
  have a2 : upO M (some p) (M a).r a = M a := upO_ne M h1
  funext b
  by_cases hba : b = a
  · subst hba
    rw [upd_same, upd_same, upd_ne _ _ hap, a2]
  · rw [upd_ne _ _ hba, upd_ne _ _ hba]
    by_cases hbp : b = p
    · subst hbp
      rw [upd_same, a1, upO_ne _ h2, upd_same]
    · rw [upd_ne _ _ hbp]
      cases hi : (M a).r with
      | none =>
        show M b = upd _ _ _ b
        rw [upd_ne _ _ hbp, upd_ne _ _ hbp, upd_ne _ _ hba]
      | some i =>
        show upd M i _ b = upd _ i _ b
        by_cases hbi : b = i
        · subst hbi
          rw [upd_same, upd_same, upd_ne _ _ hbp, upd_ne _ _ hbp, upd_ne _ _ hba]
        · rw [upd_ne _ _ hbi, upd_ne _ _ hbi, upd_ne _ _ hbp, upd_ne _ _ hbp, upd_ne _ _ hba]

set_option maxRecDepth 100000 in
set_option maxHeartbeats 8000000 in
theorem lift_any0 (w : World) (S : Nat → Prop) (N : Nat → NdL) (h : NAt w S N) (hc : Clo S (nOf N)) (a p : Nat) (ha : S a) (hup : (N a).n.up = some p) (hside : sideN (nOf N) a = (0, true))
    (hap : a ≠ p) (h1 : (N a).n.r ≠ some a) (h2 : (N a).n.r ≠ some p) (h3 : (N a).n.l ≠ some a) (h4 : (N p).n.r ≠ some p) (h5 : (N p).n.up ≠ some a) (h6 : (N p).n.up ≠ some p) (h7 : (N a).n.l ≠ some p)
    (hs : (N a).e.stepS + (N p).e.stepS + sOf ((N a).n.l.map N) + sOf ((N a).n.r.map N) + sOf ((N p).n.r.map N) < 2 ^ 53) (hk : (N a).e.stepK + (N p).e.stepK + kOf ((N a).n.l.map N) + kOf ((N a).n.r.map N) + kOf ((N p).n.r.map N) < 2 ^ 53) :
    Calls Try.prog 53 #[.pointer (some ⟨a, 0, none⟩)] w fun e w' => e = .returned (.tuple #[]) ∧ NAt w' S (tellAt (tellAt (withN N (liftN (hangX (nOf N) p a) a p false)) p) a) ∧ Mod S w w' := by
  have hp : S p := hc a ha p (.inl hup)
  have k1 := side_any w S N h a ha hc
  rw [hside] at k1
  have k2 := side_any w S N h p hp hc
  obtain ⟨o, ho⟩ : ∃ o, o = (sideN (nOf N) p).1 := ⟨_, rfl⟩
  obtain ⟨i, hi⟩ : ∃ i, i = (sideN (nOf N) p).2 := ⟨_, rfl⟩
  rw [← ho, ← hi] at k2
  have K1 := Lib.hid k1
  have K2 := Lib.hid k2
  obtain ⟨M1, hM1⟩ : ∃ M, M = hangX (nOf N) p a := ⟨_, rfl⟩
  have HO : Hid ((i = false ∧ M1 = nOf N) ∨ (∃ g, (N p).n.up = some g ∧ o = 0 ∧ i = true ∧ M1 = upd (nOf N) g { nOf N g with l := some a }) ∨ (∃ g, (N p).n.up = some g ∧ o = 1 ∧ i = true ∧ M1 = upd (nOf N) g { nOf N g with r := some a })) := Lib.hid (by
    rw [ho, hi, hM1]
    rcases hang_cases (nOf N) p a with ⟨e1, e2⟩ | ⟨g, e0, e1, e2⟩ | ⟨g, e0, e1, e2⟩
    · exact .inl ⟨e1, e2⟩
    · exact .inr (.inl ⟨g, e0, by rw [e1], by rw [e1], e2⟩)
    · exact .inr (.inr ⟨g, e0, by rw [e1], by rw [e1], e2⟩))
  have HMA : Hid (M1 a = (N a).n ∧ M1 p = (N p).n) := Lib.hid (by rw [hM1]; exact ⟨hang_ne h5, hang_ne h6⟩)
  have HC1 : Hid (Clo S M1) := Lib.hid (by rw [hM1]; exact Clo.hang hc hp ha)
  have HN := Lib.hid h
  have HC := Lib.hid hc
  have HA := Lib.hid ha
  have HP := Lib.hid hp
  have a0 : w.cell? ⟨a, 0, none⟩ = some (.pointer (some ⟨p, 0, none⟩)) := by
    have k := (h a ha).cell 0
    exact k.trans (by show some (ptrV (N a).n.up) = _; rw [hup]; rfl)
  obtain ⟨pu, hpu⟩ : ∃ q, q = pA (N p).n.up := ⟨_, rfl⟩
  have p0 : w.cell? ⟨p, 0, none⟩ = some (.pointer pu) := by rw [hpu, ← ptrV_eq]; exact (h p hp).cell 0
  have HPU := Lib.hid hpu
  have HH := Lib.hid (And.intro h1 (And.intro h2 (And.intro h3 (And.intro h4 h7))))
  have HS := Lib.hid hs
  have HK := Lib.hid hk
  have HAP := Lib.hid hap
  rw [← hM1]
  clear h hc ha hp k1 k2 ho hi hM1 hup hside h1 h2 h3 h4 h5 h6 h7 hs hk hpu hap
  go_enter Try.func53, Try.ntmps53
  go_wp2_with fail
  refine K1.out.mono ?_
  rintro e w1 ⟨rfl, hw⟩
  subst w1
  go_wp2_with fail
  refine K2.out.mono ?_
  rintro e w1 ⟨rfl, hw⟩
  subst w1
  go_upto_if 21 with fail
  go_cut [] from 22 (fun wx => Hid (NAt wx S (withN N M1) ∧ Mod S w wx))
  case first =>
    rcases HO.out with ⟨hi, hm⟩ | ⟨g, hg, ho, hi, hm⟩ | ⟨g, hg, ho, hi, hm⟩
    · subst hi
      have HM := Lib.hid hm
      clear hm
      go_wp2_with fail
      go_meet
      case rel => exact Lib.hid ⟨by rw [HM.out]; exact HN.out, Mod.refl _ _⟩
    · subst ho
      subst hi
      have hgS : S g := HC.out p HP.out g (.inl hg)
      have hq : pu = some ⟨g, 0, none⟩ := by rw [HPU.out, hg]; rfl
      subst hq
      have HM := Lib.hid hm
      have g1 : w.cell? ⟨g, 1, none⟩ = some (ptrV (N g).n.l) := (HN.out g hgS).cell 1
      have f1 := (HN.out g hgS).frozen 1
      have HG := Lib.hid hgS
      clear hm hg hgS
      go_wp2_with fail
      go_meet
      case rel => exact Lib.hid (by rw [HM.out]; exact nat_setL ⟨HN.out, Mod.refl _ _⟩ HG.out (some a))
    · subst ho
      subst hi
      have hgS : S g := HC.out p HP.out g (.inl hg)
      have hq : pu = some ⟨g, 0, none⟩ := by rw [HPU.out, hg]; rfl
      subst hq
      have HM := Lib.hid hm
      have g1 : w.cell? ⟨g, 2, none⟩ = some (ptrV (N g).n.r) := (HN.out g hgS).cell 2
      have f1 := (HN.out g hgS).frozen 2
      have HG := Lib.hid hgS
      clear hm hg hgS
      go_wp2_with fail
      go_meet
      case rel => exact Lib.hid (by rw [HM.out]; exact nat_setR ⟨HN.out, Mod.refl _ _⟩ HG.out (some a))
  case rest =>
    clear a0 p0
    have HY := hcut
    clear hcut
    obtain ⟨w1, hw1⟩ : ∃ w1, w1 = wc := ⟨_, rfl⟩
    rw [← hw1] at HY ⊢
    clear hw1
    have e1 : (withN N M1 p).n.up = (N p).n.up := by unfold withN; dsimp only; rw [HMA.out.2]
    have a0 : w1.cell? ⟨a, 0, none⟩ = some (ptrV (M1 a).up) := (HY.out.1 a HA.out).cell 0
    have p0 : w1.cell? ⟨p, 0, none⟩ = some (.pointer pu) := by rw [HPU.out, ← ptrV_eq, ← e1]; exact (HY.out.1 p HP.out).cell 0
    have fa := (HY.out.1 a HA.out).frozen 0
    have fp := (HY.out.1 p HP.out).frozen 0
    have hne : ¬ p = a := fun e => HAP.out e.symm
    clear e1
    go_upto_region 6 with fail
    clear a0 p0 fa fp
    obtain ⟨w2, hw2⟩ : ∃ w2, w2 = (w1.setCell ⟨a, 0, none⟩ (.pointer pu)).setCell ⟨p, 0, none⟩ (.pointer (some ⟨a, 0, none⟩)) := ⟨_, rfl⟩
    rw [← hw2]
    obtain ⟨M3, hM3⟩ : ∃ M3, M3 = upd (upd M1 a { M1 a with up := (N p).n.up }) p { upd M1 a { M1 a with up := (N p).n.up } p with up := some a } := ⟨_, rfl⟩
    have HY2 : Hid (NAt w2 S (withN N M3) ∧ Mod S w w2) := Lib.hid (by
      rw [hw2, HPU.out, ← ptrV_eq, hM3]
      exact nat_setUp (nat_setUp HY.out HA.out (N p).n.up) HP.out (some a))
    have HM3 : Hid (M3 a = { (N a).n with up := (N p).n.up } ∧ M3 p = { (N p).n with up := some a }) := Lib.hid (by
      rw [hM3, upd_same, upd_ne _ _ HAP.out, upd_same, upd_ne _ _ hne, HMA.out.1, HMA.out.2]
      exact ⟨rfl, rfl⟩)
    have HE3 := Lib.hid hM3
    clear hw2 hM3
    obtain ⟨ki, hki⟩ : ∃ q, q = (N a).n.r := ⟨_, rfl⟩
    have HKI := Lib.hid hki
    obtain ⟨pn, hpn⟩ : ∃ q, q = pA ki := ⟨_, rfl⟩
    have HPN := Lib.hid hpn
    have a2 : w2.cell? ⟨a, 2, none⟩ = some (.pointer pn) := by
      have e : (withN N M3 a).n.r = (N a).n.r := by unfold withN; dsimp only; rw [HM3.out.1]
      rw [hpn, hki, ← ptrV_eq, ← e]
      exact (HY2.out.1 a HA.out).cell 2
    have p1 : w2.cell? ⟨p, 1, none⟩ = some (ptrV (M3 p).l) := (HY2.out.1 p HP.out).cell 1
    have fp := (HY2.out.1 p HP.out).frozen 1
    rw [ptrV_eq] at p1
    clear hpn hki
    go_region
    go_upto_region 7 with fail
    obtain ⟨w3, hw3⟩ : ∃ w3, w3 = (w2.setCell ⟨p, 1, none⟩ (.pointer pn)).drew := ⟨_, rfl⟩
    first | rw [← hw3] | (trace_state; fail)
    clear a2 p1 fp
    have HY3 : Hid (NAt w3 S (withN N (upd M3 p { M3 p with l := ki })) ∧ Mod S w w3) := Lib.hid (by
      have k := nat_setL HY2.out HP.out ki
      rw [hw3, HPN.out, ← ptrV_eq]
      exact ⟨(fun b hb => (k.1 b hb).drew), k.2.drew⟩)
    clear hw3
    have p1 : w3.cell? ⟨p, 1, none⟩ = some (.pointer pn) := by
      rw [HPN.out, ← ptrV_eq]
      have e : (withN N (upd M3 p { M3 p with l := ki }) p).n.l = ki := by unfold withN; dsimp only; rw [upd_same]
      rw [← e]
      exact (HY3.out.1 p HP.out).cell 1
    go_upto_if 60 with fail
    go_cut [] from 61 (fun wx => Hid (NAt wx S (withN N (upO (upd M3 p { M3 p with l := ki }) (some p) ki)) ∧ Mod S w wx))
    case first =>
      cases ki with
      | none =>
        have hq : pn = none := HPN.out
        subst hq
        go_wp2_with fail
        go_meet
        case rel => exact HY3
      | some c =>
        have hq : pn = some ⟨c, 0, none⟩ := HPN.out
        subst hq
        have hcS : S c := HC.out a HA.out c (.inr (.inr HKI.out.symm))
        have c0 : w3.cell? ⟨c, 0, none⟩ = some (ptrV ((upd M3 p { M3 p with l := some c }) c).up) := (HY3.out.1 c hcS).cell 0
        rw [ptrV_eq] at c0
        have fc := (HY3.out.1 c hcS).frozen 0
        have HcS := Lib.hid hcS
        clear hcS
        go_wp2_with fail
        go_meet
        case rel => exact Lib.hid (nat_setUp HY3.out HcS.out (some p))
    case rest =>
      clear p1
      have HY4 : Hid (NAt wc S (withN N (upO (upd M3 p { M3 p with l := (N a).n.r }) (some p) (N a).n.r)) ∧ Mod S w wc) := Lib.hid (by rw [← HKI.out]; exact hcut.out)
      clear hcut
      obtain ⟨w4, hw4⟩ : ∃ w4, w4 = wc := ⟨_, rfl⟩
      rw [← hw4] at HY4 ⊢
      clear hw4
      obtain ⟨M5, hM5⟩ : ∃ M5, M5 = upO (upd M3 p { M3 p with l := (N a).n.r }) (some p) (N a).n.r := ⟨_, rfl⟩
      rw [← hM5] at HY4
      have HA5 : Hid (M5 a = { (N a).n with up := (N p).n.up }) := Lib.hid (by rw [hM5, upO_ne _ HH.out.1, upd_ne _ _ HAP.out, HM3.out.1])
      have a2 : w4.cell? ⟨a, 2, none⟩ = some (ptrV (M5 a).r) := (HY4.out.1 a HA.out).cell 2
      rw [ptrV_eq] at a2
      have fa := (HY4.out.1 a HA.out).frozen 2
      have HL : Hid (upd M5 a { M5 a with r := some p } = liftN M1 a p false) := Lib.hid (by
        rw [lift_steps0 M1 a p HAP.out (by rw [HMA.out.1]; exact HH.out.1) (by rw [HMA.out.1]; exact HH.out.2.1), HA5.out, hM5, HMA.out.1, HMA.out.2, HM3.out.2, HE3.out, upd_ne _ _ hne, HMA.out.1, HMA.out.2])
      have HE5 := Lib.hid hM5
      clear hM5
      have HY5 : Hid (NAt (w4.setCell ⟨a, 2, none⟩ (.pointer (some ⟨p, 0, none⟩))) S (withN N (liftN M1 a p false)) ∧ Mod S w (w4.setCell ⟨a, 2, none⟩ (.pointer (some ⟨p, 0, none⟩)))) := Lib.hid (by
        rw [← HL.out]
        exact nat_setR HY4.out HA.out (some p))
      have HCL : Hid (Clo S (liftN M1 a p false)) := Lib.hid (by
        rw [← HL.out, HE5.out, HE3.out]
        have hnS : ∀ b, (N a).n.r = some b → S b := fun b hb => HC.out a HA.out b (.inr (.inr hb))
        have huS : ∀ b, (N p).n.up = some b → S b := fun b hb => HC.out p HP.out b (.inl hb)
        have hpS : ∀ b, some p = some b → S b := fun b hb => by injection hb with hb; exact hb ▸ HP.out
        have haS : ∀ b, some a = some b → S b := fun b hb => by injection hb with hb; exact hb ▸ HA.out
        refine Clo.upd (Clo.upO (Clo.upd (Clo.upd (Clo.upd HC1.out ?_) ?_) ?_) hpS hnS) ?_
        · rw [HMA.out.1]
          rintro b (hb | hb)
          · exact huS b hb
          · exact HC.out a HA.out b (.inr hb)
        · rw [upd_ne _ _ hne, HMA.out.2]
          rintro b (hb | hb)
          · exact haS b hb
          · exact HC.out p HP.out b (.inr hb)
        · rw [← HE3.out, HM3.out.2]
          rintro b (hb | hb | hb)
          · exact haS b hb
          · exact hnS b hb
          · exact HC.out p HP.out b (.inr (.inr hb))
        · rw [← HE3.out, ← HE5.out, HA5.out]
          rintro b (hb | hb | hb)
          · exact huS b hb
          · exact HC.out a HA.out b (.inr (.inl hb))
          · exact hpS b hb)
      have HLP : Hid (liftN M1 a p false p = { (N p).n with up := some a, l := (N a).n.r } ∧ liftN M1 a p false a = { (N a).n with up := (N p).n.up, r := some p }) := Lib.hid (by
        rw [← HL.out, upd_ne _ _ hne, upd_same, HA5.out]
        refine ⟨?_, rfl⟩
        rw [HE5.out, upO_ne _ HH.out.2.1, upd_same, HM3.out.2])
      obtain ⟨w5, hw5⟩ : ∃ w5, w5 = w4.setCell ⟨a, 2, none⟩ (.pointer (some ⟨p, 0, none⟩)) := ⟨_, rfl⟩
      rw [← hw5] at HY5
      obtain ⟨N5, hN5⟩ : ∃ N5, N5 = withN N (liftN M1 a p false) := ⟨_, rfl⟩
      rw [← hN5] at HY5
      have HN5 := Lib.hid hN5
      have n5p : (N5 p).n = { (N p).n with up := some a, l := (N a).n.r } := by rw [hN5]; exact HLP.out.1
      have n5a : (N5 a).n = { (N a).n with up := (N p).n.up, r := some p } := by rw [hN5]; exact HLP.out.2
      have c5 : nOf N5 = liftN M1 a p false := by rw [hN5]; rfl
      have s5 : ∀ o : Option Nat, sOf (o.map N5) = sOf (o.map N) := fun o => by rw [hN5]; cases o <;> rfl
      have k5 : ∀ o : Option Nat, kOf (o.map N5) = kOf (o.map N) := fun o => by rw [hN5]; cases o <;> rfl
      have e5 : ∀ b, (N5 b).e = (N b).e := fun b => by rw [hN5]; rfl
      have t1 := tell_any w5 S N5 HY5.out.1 p HP.out (by rw [c5]; exact HCL.out) (by rw [n5p]; exact HH.out.2.1) (by rw [n5p]; exact HH.out.2.2.2.1) (by rw [s5, s5, e5, n5p]; have := HS.out; dsimp only; omega) (by rw [k5, k5, e5, n5p]; have := HK.out; dsimp only; omega)
      obtain ⟨N6, hN6⟩ : ∃ N6, N6 = tellAt N5 p := ⟨_, rfl⟩
      rw [← hN6] at t1
      have HN6 := Lib.hid hN6
      have n6a : N6 a = N5 a := by rw [hN6]; exact tellAt_ne _ HAP.out
      have s6 : sOf ((some p).map N6) = (N p).e.stepS + sOf ((N a).n.r.map N) + sOf ((N p).n.r.map N) := by
        show (N6 p).s = _
        rw [hN6]
        unfold tellAt
        rw [updL_same, n5p]
        show (N5 p).e.stepS + sOf _ + sOf _ = _
        rw [s5, s5, e5]
      have k6 : kOf ((some p).map N6) = (N p).e.stepK + kOf ((N a).n.r.map N) + kOf ((N p).n.r.map N) := by
        show (N6 p).k = _
        rw [hN6]
        unfold tellAt
        rw [updL_same, n5p]
        show (N5 p).e.stepK + kOf _ + kOf _ = _
        rw [k5, k5, e5]
      have s6' : sOf ((N a).n.l.map N6) = sOf ((N a).n.l.map N) := by
        cases hf : (N a).n.l with
        | none => rfl
        | some c =>
          have hcp : c ≠ p := fun e => HH.out.2.2.2.2 (by rw [hf, e])
          show (N6 c).s = (N c).s
          rw [hN6, tellAt_ne _ hcp, hN5]
          rfl
      have k6' : kOf ((N a).n.l.map N6) = kOf ((N a).n.l.map N) := by
        cases hf : (N a).n.l with
        | none => rfl
        | some c =>
          have hcp : c ≠ p := fun e => HH.out.2.2.2.2 (by rw [hf, e])
          show (N6 c).k = (N c).k
          rw [hN6, tellAt_ne _ hcp, hN5]
          rfl
      have T1 := Lib.hid t1
      have T2 : Hid (∀ w6, NAt w6 S N6 → Calls Try.prog 42 #[.pointer (some ⟨a, 0, none⟩)] w6 fun e w' => e = .returned (.tuple #[]) ∧ NAt w' S (tellAt N6 a) ∧ Mod S w6 w') := Lib.hid (fun w6 h6 => tell_any w6 S N6 h6 a HA.out (by rw [hN6, nOf_tellAt, c5]; exact HCL.out) (by rw [n6a, n5a]; exact HH.out.2.2.1) (by rw [n6a, n5a]; exact (fun e => hne (by injection e))) (by rw [n6a, n5a, e5]; have := HS.out; dsimp only; rw [s6', s6]; omega) (by rw [n6a, n5a, e5]; have := HK.out; dsimp only; rw [k6', k6]; omega))
      clear t1 n5p n5a c5 s5 k5 e5 n6a s6 k6 s6' k6' hN6 hN5
      go_upto_region 10 with fail
      rw [← hw5]
      clear hw5 a2 fa
      go_wp2_with fail
      refine T1.out.mono ?_
      rintro e w6 ⟨rfl, h6, m6⟩
      have H6 := Lib.hid h6
      have M6 := Lib.hid m6
      clear h6 m6
      go_wp2_with fail
      refine (T2.out w6 H6.out).mono ?_
      rintro e w7 ⟨rfl, h7, m7⟩
      have H7 := Lib.hid h7
      have M7 := Lib.hid m7
      clear h7 m7
      go_wp2_with fail
      go_end0
      exact ⟨rfl, by rw [← HN5.out, ← HN6.out]; exact H7.out, (HY5.out.2.trans' M6.out).trans' M7.out⟩


/-- A lift, store by store. -/
theorem lift_steps1 (M : Nat → LN) (a p : Nat) (hap : a ≠ p) (h1 : (M a).l ≠ some a) (h2 : (M a).l ≠ some p) :
    liftN M a p true = upd (upO (upd (upd (upd M a { M a with up := (M p).up }) p { M p with up := some a }) p { M p with up := some a, r := (M a).l }) (some p) (M a).l) a { M a with up := (M p).up, l := some p } := by
  unfold liftN
  simp only [if_true]
  have a1 : upO M (some p) (M a).l p = M p := upO_ne M h2
  have a2 : upO M (some p) (M a).l a = M a := upO_ne M h1
  funext b
  by_cases hba : b = a
  · subst hba
    rw [upd_same, upd_same, upd_ne _ _ hap, a2]
  · rw [upd_ne _ _ hba, upd_ne _ _ hba]
    by_cases hbp : b = p
    · subst hbp
      rw [upd_same, a1, upO_ne _ h2, upd_same]
    · rw [upd_ne _ _ hbp]
      cases hi : (M a).l with
      | none =>
        show M b = upd _ _ _ b
        rw [upd_ne _ _ hbp, upd_ne _ _ hbp, upd_ne _ _ hba]
      | some i =>
        show upd M i _ b = upd _ i _ b
        by_cases hbi : b = i
        · subst hbi
          rw [upd_same, upd_same, upd_ne _ _ hbp, upd_ne _ _ hbp, upd_ne _ _ hba]
        · rw [upd_ne _ _ hbi, upd_ne _ _ hbi, upd_ne _ _ hbp, upd_ne _ _ hbp, upd_ne _ _ hba]

set_option maxRecDepth 100000 in
set_option maxHeartbeats 8000000 in
theorem lift_any1 (w : World) (S : Nat → Prop) (N : Nat → NdL) (h : NAt w S N) (hc : Clo S (nOf N)) (a p : Nat) (ha : S a) (hup : (N a).n.up = some p) (hside : sideN (nOf N) a = (1, true))
    (hap : a ≠ p) (h1 : (N a).n.l ≠ some a) (h2 : (N a).n.l ≠ some p) (h3 : (N a).n.r ≠ some a) (h4 : (N p).n.l ≠ some p) (h5 : (N p).n.up ≠ some a) (h6 : (N p).n.up ≠ some p) (h7 : (N a).n.r ≠ some p)
    (hs : (N a).e.stepS + (N p).e.stepS + sOf ((N a).n.r.map N) + sOf ((N a).n.l.map N) + sOf ((N p).n.l.map N) < 2 ^ 53) (hk : (N a).e.stepK + (N p).e.stepK + kOf ((N a).n.r.map N) + kOf ((N a).n.l.map N) + kOf ((N p).n.l.map N) < 2 ^ 53) :
    Calls Try.prog 53 #[.pointer (some ⟨a, 0, none⟩)] w fun e w' => e = .returned (.tuple #[]) ∧ NAt w' S (tellAt (tellAt (withN N (liftN (hangX (nOf N) p a) a p true)) p) a) ∧ Mod S w w' := by
  have hp : S p := hc a ha p (.inl hup)
  have k1 := side_any w S N h a ha hc
  rw [hside] at k1
  have k2 := side_any w S N h p hp hc
  obtain ⟨o, ho⟩ : ∃ o, o = (sideN (nOf N) p).1 := ⟨_, rfl⟩
  obtain ⟨i, hi⟩ : ∃ i, i = (sideN (nOf N) p).2 := ⟨_, rfl⟩
  rw [← ho, ← hi] at k2
  have K1 := Lib.hid k1
  have K2 := Lib.hid k2
  obtain ⟨M1, hM1⟩ : ∃ M, M = hangX (nOf N) p a := ⟨_, rfl⟩
  have HO : Hid ((i = false ∧ M1 = nOf N) ∨ (∃ g, (N p).n.up = some g ∧ o = 0 ∧ i = true ∧ M1 = upd (nOf N) g { nOf N g with l := some a }) ∨ (∃ g, (N p).n.up = some g ∧ o = 1 ∧ i = true ∧ M1 = upd (nOf N) g { nOf N g with r := some a })) := Lib.hid (by
    rw [ho, hi, hM1]
    rcases hang_cases (nOf N) p a with ⟨e1, e2⟩ | ⟨g, e0, e1, e2⟩ | ⟨g, e0, e1, e2⟩
    · exact .inl ⟨e1, e2⟩
    · exact .inr (.inl ⟨g, e0, by rw [e1], by rw [e1], e2⟩)
    · exact .inr (.inr ⟨g, e0, by rw [e1], by rw [e1], e2⟩))
  have HMA : Hid (M1 a = (N a).n ∧ M1 p = (N p).n) := Lib.hid (by rw [hM1]; exact ⟨hang_ne h5, hang_ne h6⟩)
  have HC1 : Hid (Clo S M1) := Lib.hid (by rw [hM1]; exact Clo.hang hc hp ha)
  have HN := Lib.hid h
  have HC := Lib.hid hc
  have HA := Lib.hid ha
  have HP := Lib.hid hp
  have a0 : w.cell? ⟨a, 0, none⟩ = some (.pointer (some ⟨p, 0, none⟩)) := by
    have k := (h a ha).cell 0
    exact k.trans (by show some (ptrV (N a).n.up) = _; rw [hup]; rfl)
  obtain ⟨pu, hpu⟩ : ∃ q, q = pA (N p).n.up := ⟨_, rfl⟩
  have p0 : w.cell? ⟨p, 0, none⟩ = some (.pointer pu) := by rw [hpu, ← ptrV_eq]; exact (h p hp).cell 0
  have HPU := Lib.hid hpu
  have HH := Lib.hid (And.intro h1 (And.intro h2 (And.intro h3 (And.intro h4 h7))))
  have HS := Lib.hid hs
  have HK := Lib.hid hk
  have HAP := Lib.hid hap
  rw [← hM1]
  clear h hc ha hp k1 k2 ho hi hM1 hup hside h1 h2 h3 h4 h5 h6 h7 hs hk hpu hap
  go_enter Try.func53, Try.ntmps53
  go_wp2_with fail
  refine K1.out.mono ?_
  rintro e w1 ⟨rfl, hw⟩
  subst w1
  go_wp2_with fail
  refine K2.out.mono ?_
  rintro e w1 ⟨rfl, hw⟩
  subst w1
  go_upto_if 21 with fail
  go_cut [] from 22 (fun wx => Hid (NAt wx S (withN N M1) ∧ Mod S w wx))
  case first =>
    rcases HO.out with ⟨hi, hm⟩ | ⟨g, hg, ho, hi, hm⟩ | ⟨g, hg, ho, hi, hm⟩
    · subst hi
      have HM := Lib.hid hm
      clear hm
      go_wp2_with fail
      go_meet
      case rel => exact Lib.hid ⟨by rw [HM.out]; exact HN.out, Mod.refl _ _⟩
    · subst ho
      subst hi
      have hgS : S g := HC.out p HP.out g (.inl hg)
      have hq : pu = some ⟨g, 0, none⟩ := by rw [HPU.out, hg]; rfl
      subst hq
      have HM := Lib.hid hm
      have g1 : w.cell? ⟨g, 1, none⟩ = some (ptrV (N g).n.l) := (HN.out g hgS).cell 1
      have f1 := (HN.out g hgS).frozen 1
      have HG := Lib.hid hgS
      clear hm hg hgS
      go_wp2_with fail
      go_meet
      case rel => exact Lib.hid (by rw [HM.out]; exact nat_setL ⟨HN.out, Mod.refl _ _⟩ HG.out (some a))
    · subst ho
      subst hi
      have hgS : S g := HC.out p HP.out g (.inl hg)
      have hq : pu = some ⟨g, 0, none⟩ := by rw [HPU.out, hg]; rfl
      subst hq
      have HM := Lib.hid hm
      have g1 : w.cell? ⟨g, 2, none⟩ = some (ptrV (N g).n.r) := (HN.out g hgS).cell 2
      have f1 := (HN.out g hgS).frozen 2
      have HG := Lib.hid hgS
      clear hm hg hgS
      go_wp2_with fail
      go_meet
      case rel => exact Lib.hid (by rw [HM.out]; exact nat_setR ⟨HN.out, Mod.refl _ _⟩ HG.out (some a))
  case rest =>
    clear a0 p0
    have HY := hcut
    clear hcut
    obtain ⟨w1, hw1⟩ : ∃ w1, w1 = wc := ⟨_, rfl⟩
    rw [← hw1] at HY ⊢
    clear hw1
    have e1 : (withN N M1 p).n.up = (N p).n.up := by unfold withN; dsimp only; rw [HMA.out.2]
    have a0 : w1.cell? ⟨a, 0, none⟩ = some (ptrV (M1 a).up) := (HY.out.1 a HA.out).cell 0
    have p0 : w1.cell? ⟨p, 0, none⟩ = some (.pointer pu) := by rw [HPU.out, ← ptrV_eq, ← e1]; exact (HY.out.1 p HP.out).cell 0
    have fa := (HY.out.1 a HA.out).frozen 0
    have fp := (HY.out.1 p HP.out).frozen 0
    have hne : ¬ p = a := fun e => HAP.out e.symm
    clear e1
    go_upto_region 6 with fail
    clear a0 p0 fa fp
    obtain ⟨w2, hw2⟩ : ∃ w2, w2 = (w1.setCell ⟨a, 0, none⟩ (.pointer pu)).setCell ⟨p, 0, none⟩ (.pointer (some ⟨a, 0, none⟩)) := ⟨_, rfl⟩
    rw [← hw2]
    obtain ⟨M3, hM3⟩ : ∃ M3, M3 = upd (upd M1 a { M1 a with up := (N p).n.up }) p { upd M1 a { M1 a with up := (N p).n.up } p with up := some a } := ⟨_, rfl⟩
    have HY2 : Hid (NAt w2 S (withN N M3) ∧ Mod S w w2) := Lib.hid (by
      rw [hw2, HPU.out, ← ptrV_eq, hM3]
      exact nat_setUp (nat_setUp HY.out HA.out (N p).n.up) HP.out (some a))
    have HM3 : Hid (M3 a = { (N a).n with up := (N p).n.up } ∧ M3 p = { (N p).n with up := some a }) := Lib.hid (by
      rw [hM3, upd_same, upd_ne _ _ HAP.out, upd_same, upd_ne _ _ hne, HMA.out.1, HMA.out.2]
      exact ⟨rfl, rfl⟩)
    have HE3 := Lib.hid hM3
    clear hw2 hM3
    obtain ⟨ki, hki⟩ : ∃ q, q = (N a).n.l := ⟨_, rfl⟩
    have HKI := Lib.hid hki
    obtain ⟨pn, hpn⟩ : ∃ q, q = pA ki := ⟨_, rfl⟩
    have HPN := Lib.hid hpn
    have a2 : w2.cell? ⟨a, 1, none⟩ = some (.pointer pn) := by
      have e : (withN N M3 a).n.l = (N a).n.l := by unfold withN; dsimp only; rw [HM3.out.1]
      rw [hpn, hki, ← ptrV_eq, ← e]
      exact (HY2.out.1 a HA.out).cell 1
    have p1 : w2.cell? ⟨p, 2, none⟩ = some (ptrV (M3 p).r) := (HY2.out.1 p HP.out).cell 2
    have fp := (HY2.out.1 p HP.out).frozen 2
    rw [ptrV_eq] at p1
    clear hpn hki
    go_region
    go_upto_region 7 with fail
    obtain ⟨w3, hw3⟩ : ∃ w3, w3 = (w2.setCell ⟨p, 2, none⟩ (.pointer pn)).drew := ⟨_, rfl⟩
    first | rw [← hw3] | (trace_state; fail)
    clear a2 p1 fp
    have HY3 : Hid (NAt w3 S (withN N (upd M3 p { M3 p with r := ki })) ∧ Mod S w w3) := Lib.hid (by
      have k := nat_setR HY2.out HP.out ki
      rw [hw3, HPN.out, ← ptrV_eq]
      exact ⟨(fun b hb => (k.1 b hb).drew), k.2.drew⟩)
    clear hw3
    have p1 : w3.cell? ⟨p, 2, none⟩ = some (.pointer pn) := by
      rw [HPN.out, ← ptrV_eq]
      have e : (withN N (upd M3 p { M3 p with r := ki }) p).n.r = ki := by unfold withN; dsimp only; rw [upd_same]
      rw [← e]
      exact (HY3.out.1 p HP.out).cell 2
    go_upto_if 60 with fail
    go_cut [] from 61 (fun wx => Hid (NAt wx S (withN N (upO (upd M3 p { M3 p with r := ki }) (some p) ki)) ∧ Mod S w wx))
    case first =>
      cases ki with
      | none =>
        have hq : pn = none := HPN.out
        subst hq
        go_wp2_with fail
        go_meet
        case rel => exact HY3
      | some c =>
        have hq : pn = some ⟨c, 0, none⟩ := HPN.out
        subst hq
        have hcS : S c := HC.out a HA.out c (.inr (.inl HKI.out.symm))
        have c0 : w3.cell? ⟨c, 0, none⟩ = some (ptrV ((upd M3 p { M3 p with r := some c }) c).up) := (HY3.out.1 c hcS).cell 0
        rw [ptrV_eq] at c0
        have fc := (HY3.out.1 c hcS).frozen 0
        have HcS := Lib.hid hcS
        clear hcS
        go_wp2_with fail
        go_meet
        case rel => exact Lib.hid (nat_setUp HY3.out HcS.out (some p))
    case rest =>
      clear p1
      have HY4 : Hid (NAt wc S (withN N (upO (upd M3 p { M3 p with r := (N a).n.l }) (some p) (N a).n.l)) ∧ Mod S w wc) := Lib.hid (by rw [← HKI.out]; exact hcut.out)
      clear hcut
      obtain ⟨w4, hw4⟩ : ∃ w4, w4 = wc := ⟨_, rfl⟩
      rw [← hw4] at HY4 ⊢
      clear hw4
      obtain ⟨M5, hM5⟩ : ∃ M5, M5 = upO (upd M3 p { M3 p with r := (N a).n.l }) (some p) (N a).n.l := ⟨_, rfl⟩
      rw [← hM5] at HY4
      have HA5 : Hid (M5 a = { (N a).n with up := (N p).n.up }) := Lib.hid (by rw [hM5, upO_ne _ HH.out.1, upd_ne _ _ HAP.out, HM3.out.1])
      have a2 : w4.cell? ⟨a, 1, none⟩ = some (ptrV (M5 a).l) := (HY4.out.1 a HA.out).cell 1
      rw [ptrV_eq] at a2
      have fa := (HY4.out.1 a HA.out).frozen 1
      have HL : Hid (upd M5 a { M5 a with l := some p } = liftN M1 a p true) := Lib.hid (by
        rw [lift_steps1 M1 a p HAP.out (by rw [HMA.out.1]; exact HH.out.1) (by rw [HMA.out.1]; exact HH.out.2.1), HA5.out, hM5, HMA.out.1, HMA.out.2, HM3.out.2, HE3.out, upd_ne _ _ hne, HMA.out.1, HMA.out.2])
      have HE5 := Lib.hid hM5
      clear hM5
      have HY5 : Hid (NAt (w4.setCell ⟨a, 1, none⟩ (.pointer (some ⟨p, 0, none⟩))) S (withN N (liftN M1 a p true)) ∧ Mod S w (w4.setCell ⟨a, 1, none⟩ (.pointer (some ⟨p, 0, none⟩)))) := Lib.hid (by
        rw [← HL.out]
        exact nat_setL HY4.out HA.out (some p))
      have HCL : Hid (Clo S (liftN M1 a p true)) := Lib.hid (by
        rw [← HL.out, HE5.out, HE3.out]
        have hnS : ∀ b, (N a).n.l = some b → S b := fun b hb => HC.out a HA.out b (.inr (.inl hb))
        have huS : ∀ b, (N p).n.up = some b → S b := fun b hb => HC.out p HP.out b (.inl hb)
        have hpS : ∀ b, some p = some b → S b := fun b hb => by injection hb with hb; exact hb ▸ HP.out
        have haS : ∀ b, some a = some b → S b := fun b hb => by injection hb with hb; exact hb ▸ HA.out
        refine Clo.upd (Clo.upO (Clo.upd (Clo.upd (Clo.upd HC1.out ?_) ?_) ?_) hpS hnS) ?_
        · rw [HMA.out.1]
          rintro b (hb | hb)
          · exact huS b hb
          · exact HC.out a HA.out b (.inr hb)
        · rw [upd_ne _ _ hne, HMA.out.2]
          rintro b (hb | hb)
          · exact haS b hb
          · exact HC.out p HP.out b (.inr hb)
        · rw [← HE3.out, HM3.out.2]
          rintro b (hb | hb | hb)
          · exact haS b hb
          · exact HC.out p HP.out b (.inr (.inl hb))
          · exact hnS b hb
        · rw [← HE3.out, ← HE5.out, HA5.out]
          rintro b (hb | hb | hb)
          · exact huS b hb
          · exact hpS b hb
          · exact HC.out a HA.out b (.inr (.inr hb)))
      have HLP : Hid (liftN M1 a p true p = { (N p).n with up := some a, r := (N a).n.l } ∧ liftN M1 a p true a = { (N a).n with up := (N p).n.up, l := some p }) := Lib.hid (by
        rw [← HL.out, upd_ne _ _ hne, upd_same, HA5.out]
        refine ⟨?_, rfl⟩
        rw [HE5.out, upO_ne _ HH.out.2.1, upd_same, HM3.out.2])
      obtain ⟨w5, hw5⟩ : ∃ w5, w5 = w4.setCell ⟨a, 1, none⟩ (.pointer (some ⟨p, 0, none⟩)) := ⟨_, rfl⟩
      rw [← hw5] at HY5
      obtain ⟨N5, hN5⟩ : ∃ N5, N5 = withN N (liftN M1 a p true) := ⟨_, rfl⟩
      rw [← hN5] at HY5
      have HN5 := Lib.hid hN5
      have n5p : (N5 p).n = { (N p).n with up := some a, r := (N a).n.l } := by rw [hN5]; exact HLP.out.1
      have n5a : (N5 a).n = { (N a).n with up := (N p).n.up, l := some p } := by rw [hN5]; exact HLP.out.2
      have c5 : nOf N5 = liftN M1 a p true := by rw [hN5]; rfl
      have s5 : ∀ o : Option Nat, sOf (o.map N5) = sOf (o.map N) := fun o => by rw [hN5]; cases o <;> rfl
      have k5 : ∀ o : Option Nat, kOf (o.map N5) = kOf (o.map N) := fun o => by rw [hN5]; cases o <;> rfl
      have e5 : ∀ b, (N5 b).e = (N b).e := fun b => by rw [hN5]; rfl
      have t1 := tell_any w5 S N5 HY5.out.1 p HP.out (by rw [c5]; exact HCL.out) (by rw [n5p]; exact HH.out.2.2.2.1) (by rw [n5p]; exact HH.out.2.1) (by rw [s5, s5, e5, n5p]; have := HS.out; dsimp only; omega) (by rw [k5, k5, e5, n5p]; have := HK.out; dsimp only; omega)
      obtain ⟨N6, hN6⟩ : ∃ N6, N6 = tellAt N5 p := ⟨_, rfl⟩
      rw [← hN6] at t1
      have HN6 := Lib.hid hN6
      have n6a : N6 a = N5 a := by rw [hN6]; exact tellAt_ne _ HAP.out
      have s6 : sOf ((some p).map N6) = (N p).e.stepS + sOf ((N a).n.l.map N) + sOf ((N p).n.l.map N) := by
        show (N6 p).s = _
        rw [hN6]
        unfold tellAt
        rw [updL_same, n5p]
        show (N5 p).e.stepS + sOf _ + sOf _ = _
        rw [s5, s5, e5]
        dsimp only
        omega
      have k6 : kOf ((some p).map N6) = (N p).e.stepK + kOf ((N a).n.l.map N) + kOf ((N p).n.l.map N) := by
        show (N6 p).k = _
        rw [hN6]
        unfold tellAt
        rw [updL_same, n5p]
        show (N5 p).e.stepK + kOf _ + kOf _ = _
        rw [k5, k5, e5]
        dsimp only
        omega
      have s6' : sOf ((N a).n.r.map N6) = sOf ((N a).n.r.map N) := by
        cases hf : (N a).n.r with
        | none => rfl
        | some c =>
          have hcp : c ≠ p := fun e => HH.out.2.2.2.2 (by rw [hf, e])
          show (N6 c).s = (N c).s
          rw [hN6, tellAt_ne _ hcp, hN5]
          rfl
      have k6' : kOf ((N a).n.r.map N6) = kOf ((N a).n.r.map N) := by
        cases hf : (N a).n.r with
        | none => rfl
        | some c =>
          have hcp : c ≠ p := fun e => HH.out.2.2.2.2 (by rw [hf, e])
          show (N6 c).k = (N c).k
          rw [hN6, tellAt_ne _ hcp, hN5]
          rfl
      have T1 := Lib.hid t1
      have T2 : Hid (∀ w6, NAt w6 S N6 → Calls Try.prog 42 #[.pointer (some ⟨a, 0, none⟩)] w6 fun e w' => e = .returned (.tuple #[]) ∧ NAt w' S (tellAt N6 a) ∧ Mod S w6 w') := Lib.hid (fun w6 h6 => tell_any w6 S N6 h6 a HA.out (by rw [hN6, nOf_tellAt, c5]; exact HCL.out) (by rw [n6a, n5a]; exact (fun e => hne (by injection e))) (by rw [n6a, n5a]; exact HH.out.2.2.1) (by rw [n6a, n5a, e5]; have := HS.out; dsimp only; rw [s6', s6]; omega) (by rw [n6a, n5a, e5]; have := HK.out; dsimp only; rw [k6', k6]; omega))
      clear t1 n5p n5a c5 s5 k5 e5 n6a s6 k6 s6' k6' hN6 hN5
      go_upto_region 10 with fail
      rw [← hw5]
      clear hw5 a2 fa
      go_wp2_with fail
      refine T1.out.mono ?_
      rintro e w6 ⟨rfl, h6, m6⟩
      have H6 := Lib.hid h6
      have M6 := Lib.hid m6
      clear h6 m6
      go_wp2_with fail
      refine (T2.out w6 H6.out).mono ?_
      rintro e w7 ⟨rfl, h7, m7⟩
      have H7 := Lib.hid h7
      have M7 := Lib.hid m7
      clear h7 m7
      go_wp2_with fail
      go_end0
      exact ⟨rfl, by rw [← HN5.out, ← HN6.out]; exact H7.out, (HY5.out.2.trans' M6.out).trans' M7.out⟩


end Go.Proofs.Ytlhkajlkapoabaa
