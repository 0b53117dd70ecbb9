/-
  The walk of settle.
-/
import Derived.Test.YtlhkajlkapoabaaLK3
namespace Go.Proofs.Ytlhkajlkapoabaa
open Go.RowKit Go.Maps
set_option linter.unusedVariables false

/-- The same nodes, hanging otherwise. -/
def withN (N : Nat → NdL) (M : Nat → LN) : Nat → NdL := fun b => { N b with n := M b }

def nOf (N : Nat → NdL) : Nat → LN := fun b => (N b).n

def pA : Option Nat → Option Addr
  | none => none
  | some a => some ⟨a, 0, none⟩

theorem ptrV_eq (o : Option Nat) : ptrV o = .pointer (pA o) := by cases o <;> rfl

theorem withN_self (N : Nat → NdL) : withN N (nOf N) = N := rfl

theorem withN_upd (N : Nat → NdL) (M : Nat → LN) (c : Nat) (x : LN) : updL (withN N M) c { withN N M c with n := x } = withN N (upd M c x) := by
  funext b
  unfold updL withN upd
  by_cases h : b = c
  · subst h; rw [if_pos rfl, if_pos rfl]
  · rw [if_neg h, if_neg h]

theorem mod_setS {w w1 : World} {S : Nat → Prop} {a : Nat} (h : Mod S w w1) (ha : S a) (i : Nat) (u : Value) : Mod S w (w1.setCell ⟨a, i, none⟩ u) := h.setCell (p := ⟨a, i, none⟩) (fun _ => ha) u

theorem NAt.set3 {w w0 : World} {S : Nat → Prop} {N : Nat → NdL} {c : Nat} (h : NAt w S N) (hc : S c) (t : Bool) (hm : Mod S w0 w) : NAt (w.setCell ⟨c, 3, none⟩ (.bool t)) S (updL N c { N c with n := { (N c).n with t := t } }) ∧ Mod S w0 (w.setCell ⟨c, 3, none⟩ (.bool t)) :=
  ⟨h.upd (mod_set (Mod.refl _ _) _) ((h c hc).set_ 3 _), mod_setS hm hc _ _⟩

set_option maxRecDepth 100000 in
set_option maxHeartbeats 8000000 in
theorem settle_any (w : World) (S : Nat → Prop) (N : Nat → NdL) (h : NAt w S N) (a : Nat) (ha : S a) (hl : ∀ c, (N a).n.l = some c → S c) (hr : ∀ c, (N a).n.r = some c → S c) :
    Calls Try.prog 46 #[.pointer (some ⟨a, 0, none⟩)] w fun e w' => e = .returned (.tuple #[]) ∧ NAt w' S (withN N (setN (nOf N) a)) ∧ Mod S w w' := by
  have a3 : w.cell? ⟨a, 3, none⟩ = some (.bool (N a).n.t) := (h a ha).cell 3
  cases ht : (N a).n.t with
  | false =>
    rw [ht] at a3
    have e : withN N (setN (nOf N) a) = N := by unfold setN; rw [if_neg (by unfold nOf; rw [ht]; decide)]; rfl
    rw [e]
    have H := Lib.hid h
    clear h ht e hl hr
    go_enter Try.func46, Try.ntmps46
    go_wp2_with fail
    refine bodyPost_ret (results_none rfl _ _ _) rfl ?_
    exact ⟨rfl, H.out, Mod.refl _ _⟩
  | true =>
    rw [ht] at a3
    obtain ⟨M1, hM1⟩ : ∃ M1, M1 = upd (nOf N) a ⟨(N a).n.up, (N a).n.r, (N a).n.l, false⟩ := ⟨_, rfl⟩
    have HE : Hid (setN (nOf N) a = turnO (turnO M1 (N a).n.r) (N a).n.l) := Lib.hid (by unfold setN; rw [if_pos (show (nOf N a).t = true from ht), hM1]; rfl)
    obtain ⟨pl, hpl⟩ : ∃ p, p = pA (N a).n.r := ⟨_, rfl⟩
    obtain ⟨pr, hpr⟩ : ∃ p, p = pA (N a).n.l := ⟨_, rfl⟩
    have HPL := Lib.hid hpl
    have HPR := Lib.hid hpr
    have f3 := (h a ha).frozen 3
    have HCL := Lib.hid hl
    have HCR := Lib.hid hr
    have H := Lib.hid h
    have HA := Lib.hid ha
    have HM1 := Lib.hid hM1
    clear h ht hl hr hpl hpr ha hM1
    go_enter Try.func46, Try.ntmps46
    go_upto_region 2 with fail
    clear a3 f3
    obtain ⟨w1, hw1⟩ : ∃ w1, w1 = w.setCell ⟨a, 3, none⟩ (.bool false) := ⟨_, rfl⟩
    rw [← hw1]
    have HB1 : Hid (Blk w1 a 71 (encL { N a with n := { (N a).n with t := false } }) ∧ Mod (fun k => k = a) w w1) := Lib.hid (by rw [hw1]; exact ⟨(H.out a HA.out).set_ 3 _, mod_set (Mod.refl _ _) _⟩)
    clear hw1
    have c1 : w1.cell? ⟨a, 1, none⟩ = some (.pointer pr) := by rw [HPR.out, ← ptrV_eq]; exact HB1.out.1.cell 1
    have c2 : w1.cell? ⟨a, 2, none⟩ = some (.pointer pl) := by rw [HPL.out, ← ptrV_eq]; exact HB1.out.1.cell 2
    have f1 := HB1.out.1.frozen 1
    have f2 := HB1.out.1.frozen 2
    go_region
    go_upto_region 3 with fail
    clear c1 c2 f1 f2
    obtain ⟨w2, hw2⟩ : ∃ w2, w2 = ((w1.setCell ⟨a, 1, none⟩ (.pointer pl)).setCell ⟨a, 2, none⟩ (.pointer pr)).drew := ⟨_, rfl⟩
    first | rw [← hw2] | (trace_state; fail)
    have HY2 : Hid (NAt w2 S (withN N M1) ∧ Mod S w w2) := Lib.hid (by
      have hb : Blk w2 a 71 (encL { N a with n := ⟨(N a).n.up, (N a).n.r, (N a).n.l, false⟩ }) := by
        rw [hw2, HPL.out, HPR.out, ← ptrV_eq, ← ptrV_eq]
        exact ((HB1.out.1.set_ 1 _).set_ 2 _).drew
      have hm : Mod (fun k => k = a) w w2 := by rw [hw2]; exact (mod_set (mod_set HB1.out.2 _) _).drew
      have k := H.out.upd hm hb
      rw [show N a = withN N (nOf N) a from rfl, withN_self, show updL N a = updL (withN N (nOf N)) a from rfl] at k
      refine ⟨?_, hm.mono (fun k _ hk => hk ▸ HA.out)⟩
      rw [HM1.out]
      rw [← withN_upd]
      exact k)
    clear hw2
    have c1 : w2.cell? ⟨a, 1, none⟩ = some (.pointer pl) := by
      have k := (HY2.out.1 a HA.out).cell 1
      rw [HPL.out, ← ptrV_eq]
      have e : M1 a = ⟨(N a).n.up, (N a).n.r, (N a).n.l, false⟩ := by rw [HM1.out]; exact upd_same _ _ _
      exact k.trans (by unfold withN; rw [e]; rfl)
    have c2 : w2.cell? ⟨a, 2, none⟩ = some (.pointer pr) := by
      have k := (HY2.out.1 a HA.out).cell 2
      rw [HPR.out, ← ptrV_eq]
      have e : M1 a = ⟨(N a).n.up, (N a).n.r, (N a).n.l, false⟩ := by rw [HM1.out]; exact upd_same _ _ _
      exact k.trans (by unfold withN; rw [e]; rfl)
    have hp0 := run_pix0 (.pointer pl) (.pointer pr)
    have hp1 := run_pix1 (.pointer pl) (.pointer pr)
    go_wp2_with fail
    clear c1 c2
    go_loopw [34] (fun i wr => ∃ M : Nat → LN, ((i = .int .i64 0 ∧ M = M1) ∨ (i = .int .i64 1 ∧ M = turnO M1 (N a).n.r) ∨ (i = .int .i64 2 ∧ M = turnO (turnO M1 (N a).n.r) (N a).n.l)) ∧ Hid (NAt wr S (withN N M) ∧ Mod S w wr)) (fun i _ => 2 - (intOf i).toNat)
    case atStart => exact ⟨_, .inl ⟨rfl, rfl⟩, HY2⟩
    case round =>
      obtain ⟨M, hor, HY⟩ := hrel
      rcases hor with ⟨rfl, hM⟩ | ⟨rfl, hM⟩ | ⟨rfl, hM⟩
      · subst hM
        cases hc : (N a).n.r with
        | none =>
          have hp : pl = none := by rw [HPL.out, hc]; rfl
          subst hp
          go_wp2_with fail
          go_roundw
          case rel => exact ⟨_, .inr (.inl ⟨rfl, rfl⟩), Lib.hid HY.out⟩
          case measure => simp [intOf]
        | some c =>
          have hcS := HCR.out c hc
          have hp : pl = some ⟨c, 0, none⟩ := by rw [HPL.out, hc]; rfl
          subst hp
          obtain ⟨MM, hM⟩ : ∃ Z, Z = withN N (M) := ⟨_, rfl⟩
          have HY1 : Hid (NAt wr S MM ∧ Mod S w wr) := Lib.hid (by rw [hM]; exact HY.out)
          obtain ⟨t, ht⟩ : ∃ t, t = (MM c).n.t := ⟨_, rfl⟩
          have c3 : wr.cell? ⟨c, 3, none⟩ = some (.bool t) := by rw [ht]; exact (HY1.out.1 c hcS).cell 3
          have f3 : wr.frozen? ⟨c, 3, none⟩ = false := (HY1.out.1 c hcS).frozen 3
          have HT := Lib.hid ht
          have HM := Lib.hid hM
          have HcS := Lib.hid hcS
          have Hc := Lib.hid hc
          clear ht hM hcS hc
          go_wp2_with fail
          go_roundw
          case rel =>
            refine ⟨_, .inr (.inl ⟨rfl, rfl⟩), Lib.hid ?_⟩
            have k := NAt.set3 HY1.out.1 HcS.out (!t) HY1.out.2
            rw [HT.out, HM.out, withN_upd] at k
            rw [HT.out, HM.out]
            exact k
          case measure => simp [intOf]
      · subst hM
        cases hc : (N a).n.l with
        | none =>
          have hp : pr = none := by rw [HPR.out, hc]; rfl
          subst hp
          go_wp2_with fail
          go_roundw
          case rel => exact ⟨_, .inr (.inr ⟨rfl, rfl⟩), Lib.hid HY.out⟩
          case measure => simp [intOf]
        | some c =>
          have hcS := HCL.out c hc
          have hp : pr = some ⟨c, 0, none⟩ := by rw [HPR.out, hc]; rfl
          subst hp
          obtain ⟨MM, hM⟩ : ∃ Z, Z = withN N ((turnO M1 (N a).n.r)) := ⟨_, rfl⟩
          have HY1 : Hid (NAt wr S MM ∧ Mod S w wr) := Lib.hid (by rw [hM]; exact HY.out)
          obtain ⟨t, ht⟩ : ∃ t, t = (MM c).n.t := ⟨_, rfl⟩
          have c3 : wr.cell? ⟨c, 3, none⟩ = some (.bool t) := by rw [ht]; exact (HY1.out.1 c hcS).cell 3
          have f3 : wr.frozen? ⟨c, 3, none⟩ = false := (HY1.out.1 c hcS).frozen 3
          have HT := Lib.hid ht
          have HM := Lib.hid hM
          have HcS := Lib.hid hcS
          have Hc := Lib.hid hc
          clear ht hM hcS hc
          go_wp2_with fail
          go_roundw
          case rel =>
            refine ⟨_, .inr (.inr ⟨rfl, rfl⟩), Lib.hid ?_⟩
            have k := NAt.set3 HY1.out.1 HcS.out (!t) HY1.out.2
            rw [HT.out, HM.out, withN_upd] at k
            rw [HT.out, HM.out]
            exact k
          case measure => simp [intOf]
      · subst hM
        go_wp2_with fail
        go_end0
        exact ⟨rfl, by rw [HE.out]; exact HY.out.1, HY.out.2⟩

end Go.Proofs.Ytlhkajlkapoabaa
