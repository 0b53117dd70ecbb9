/-
  The walk of DelV.
-/
import Derived.Test.YtlhkajlkapoabaaLK26
namespace Go.Proofs.Ytlhkajlkapoabaa
open Go.RowKit Go.Maps
set_option linter.unusedVariables false

/-- DelV's answer. -/
def LF.delE (F : LF) (v : Int) : Int := if 1 ≤ v ∧ v ≤ 2147483647 then (if v ∈ F.vs then (if 0 < F.deg v then 52 else 0) else 51) else 1

theorem deg_nat (F : LF) (v : Int) : 0 ≤ F.deg v := by unfold LF.deg; omega

section

variable {w w' : World} {f bv be : Nat} {S : Nat → Prop} {P : Nat → Option Nat} {N : Nat → NdL} {K : List (ST × Option Nat)} {vs es : Int → Option Nat} {F : LF}

set_option maxRecDepth 100000 in
set_option maxHeartbeats 4000000 in
theorem delV_no (h : LFAt w f bv be S P N K vs es F) (v : Int) (hv : I64 v) (hn : F.delE v ≠ 0) :
    Calls Try.prog 25 #[.pointer (some ⟨f, 0, none⟩), .int .i64 v] w fun e w' => e = .returned (.int .i64 (F.delE v)) ∧ w' = w := by
  have hid := fun w => isId_any v w
  by_cases h0 : 1 ≤ v ∧ v ≤ 2147483647
  · rw [isIdI_yes h0] at hid
    have K1 := Lib.hid hid
    have c0 : w.cell? ⟨f, 0, none⟩ = some (.map (some bv)) := h.at_.blk.cell 0
    have HM := Lib.hid h.at_.verts
    by_cases h1 : v ∈ F.vs
    · have h2 : 0 < F.deg v := by
        by_cases h2 : 0 < F.deg v
        · exact h2
        · exact absurd (by unfold LF.delE; rw [if_pos h0, if_pos h1, if_neg h2]) hn
      have e : F.delE v = 52 := by unfold LF.delE; rw [if_pos h0, if_pos h1, if_pos h2]
      rw [e]
      obtain ⟨a, ha⟩ := (h.gd.vk v).2 h1
      have HV : Hid ((ptrO (vs v)).getD (.pointer none) = .pointer (some ⟨a, 0, none⟩) ∧ (ptrO (vs v)).isSome = true) := Lib.hid (by rw [ha]; exact ⟨rfl, rfl⟩)
      have c4 : w.cell? ⟨a, 4, none⟩ = some (.int .i64 (N a).d) := (h.at_.at_ a (h.at_.vS v a ha)).cell 4
      rw [(h.gd.vN v a ha).2] at c4
      obtain ⟨d, hd⟩ : ∃ d, d = F.deg v := ⟨_, rfl⟩
      rw [← hd] at c4 h2
      have dd : decide (d > 0) = true := by simpa using h2
      clear h hid h0 h1 h2 e ha hn hd
      go_enter Try.func25, Try.ntmps25
      go_wp2_with fail
      refine (K1.out w).mono ?_
      rintro e w1 ⟨rfl, hw⟩
      subst w1
      go_wp2_with (at_lookup; refine wpList_lookG (X := kI) rfl _ _ _ rfl _ Try.underlying62 (zeroQ _) pQ_zero bv 4096 rfl HM.out v rfl hv _ _ HV.out.1 HV.out.2 ?_)
      go_ret
      exact ⟨rfl, rfl⟩
    · have e : F.delE v = 51 := by unfold LF.delE; rw [if_pos h0, if_neg h1]
      rw [e]
      have hvn : vs v = none := by
        cases hk : vs v with
        | none => rfl
        | some a => exact absurd ((h.gd.vk v).1 ⟨a, hk⟩) h1
      have HV : Hid ((ptrO (vs v)).getD (.pointer none) = .pointer none ∧ (ptrO (vs v)).isSome = false) := Lib.hid (by rw [hvn]; exact ⟨rfl, rfl⟩)
      clear h hid h0 h1 e hvn hn
      go_enter Try.func25, Try.ntmps25
      go_wp2_with fail
      refine (K1.out w).mono ?_
      rintro e w1 ⟨rfl, hw⟩
      subst w1
      go_wp2_with (at_lookup; refine wpList_lookG (X := kI) rfl _ _ _ rfl _ Try.underlying62 (zeroQ _) pQ_zero bv 4096 rfl HM.out v rfl hv _ _ HV.out.1 HV.out.2 ?_)
      go_ret
      exact ⟨rfl, rfl⟩
  · rw [isIdI_no h0] at hid
    have e : F.delE v = 1 := by unfold LF.delE; rw [if_neg h0]
    rw [e]
    have K1 := Lib.hid hid
    clear h hid h0 e hn
    go_enter Try.func25, Try.ntmps25
    go_wp2_with fail
    refine (K1.out w).mono ?_
    rintro e w1 ⟨rfl, hw⟩
    subst w1
    go_wp2_with fail
    go_ret
    exact ⟨rfl, rfl⟩

set_option maxRecDepth 100000 in
set_option maxHeartbeats 4000000 in
theorem delV_yes (h : LFAt w f bv be S P N K vs es F) (v : Int) (hv : I64 v) (hn : F.delE v = 0) :
    Calls Try.prog 25 #[.pointer (some ⟨f, 0, none⟩), .int .i64 v] w fun e w' => e = .returned (.int .i64 0) ∧ Mod (fun k => k = bv) w w' ∧ ∃ a K', S a ∧ LFAt w' f bv be (fun k => S k ∧ k ≠ a) P N K' (fun u => if u = v then none else vs u) es ⟨F.vs.filter (fun u => u != v), F.es⟩ := by
  have hid := fun w => isId_any v w
  have h0 : 1 ≤ v ∧ v ≤ 2147483647 := by
    by_cases h0 : 1 ≤ v ∧ v ≤ 2147483647
    · exact h0
    · unfold LF.delE at hn; rw [if_neg h0] at hn; cases hn
  have h1 : v ∈ F.vs := by
    by_cases h1 : v ∈ F.vs
    · exact h1
    · unfold LF.delE at hn; rw [if_pos h0, if_neg h1] at hn; cases hn
  have h2 : F.deg v = 0 := by
    by_cases h2 : 0 < F.deg v
    · unfold LF.delE at hn; rw [if_pos h0, if_pos h1, if_pos h2] at hn; cases hn
    · have := deg_nat F v; omega
  rw [isIdI_yes h0] at hid
  have K1 := Lib.hid hid
  have c0 : w.cell? ⟨f, 0, none⟩ = some (.map (some bv)) := h.at_.blk.cell 0
  have HM := Lib.hid h.at_.verts
  obtain ⟨a, ha⟩ := (h.gd.vk v).2 h1
  have HV : Hid ((ptrO (vs v)).getD (.pointer none) = .pointer (some ⟨a, 0, none⟩) ∧ (ptrO (vs v)).isSome = true) := Lib.hid (by rw [ha]; exact ⟨rfl, rfl⟩)
  have haS := h.at_.vS v a ha
  have c4 : w.cell? ⟨a, 4, none⟩ = some (.int .i64 (N a).d) := (h.at_.at_ a haS).cell 4
  rw [(h.gd.vN v a ha).2, h2] at c4
  obtain ⟨w2, hrun, m2, t2⟩ := MapG.drop (X := kI) h.at_.verts Try.underlying62 (a := v) hv 0
  have hmw : Mod (fun k => k = bv) w w2 := (Mod.refl _ w).turned t2 (fun _ => rfl)
  have hgd := h.gd.delV ha h2
  obtain ⟨t, K', hp, hno⟩ := h.at_.fs.lone haS (fun x hx => h.gd.alone ha h2 hx)
  have hfs := (h.at_.fs.perm hp).drop hno
  have hfb : f ≠ bv := fun e => h.at_.verts.notBlk h.at_.blk e.symm
  have HFIN : Hid (∃ a K', S a ∧ LFAt w2 f bv be (fun k => S k ∧ k ≠ a) P N K' (fun u => if u = v then none else vs u) es ⟨F.vs.filter (fun u => u != v), F.es⟩) := Lib.hid (by
    refine ⟨a, K', haS, ⟨h.at_.blk.mod hmw hfb, ?_, h.at_.edges.mod hmw (fun e => h.at_.ne e.symm), fun k hk => (h.at_.at_ k hk.1).mod hmw (fun e => h.at_.bvS (e ▸ hk.1)), hfs, fun u a hu => (hgd.full a).2 (.inl ⟨u, hu⟩), fun i a hi => (hgd.full a).2 (.inr ⟨i, hi⟩), fun hk => h.at_.bvS hk.1, fun hk => h.at_.beS hk.1, h.at_.ne⟩, hgd, ?_, ?_, h.eids⟩
    · exact MapG.cast (X := kI) m2 (fun u _ => by
        by_cases hu : u = v
        · rw [if_pos hu, if_pos hu]; rfl
        · rw [if_neg hu, if_neg hu])
    · exact Nat.le_trans (List.length_filter_le _ _) h.few
    · intro u hu
      exact h.ids u (List.mem_filter.1 hu).1)
  have HMW := Lib.hid hmw
  clear h hid h0 h1 h2 hn ha haS m2 t2 hmw hgd hp hno hfs hfb
  go_enter Try.func25, Try.ntmps25
  go_wp2_with fail
  refine (K1.out w).mono ?_
  rintro e w1 ⟨rfl, hw⟩
  subst w1
  go_wp2_with (at_lookup; refine wpList_lookG (X := kI) rfl _ _ _ rfl _ Try.underlying62 (zeroQ _) pQ_zero bv 4096 rfl HM.out v rfl hv _ _ HV.out.1 HV.out.2 ?_)
  go_ret
  exact ⟨rfl, HMW.out, HFIN.out⟩

end

end Go.Proofs.Ytlhkajlkapoabaa
