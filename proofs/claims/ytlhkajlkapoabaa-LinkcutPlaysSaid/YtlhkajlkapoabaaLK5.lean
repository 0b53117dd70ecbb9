/-
  The walks of side and first.
-/
import Derived.Test.YtlhkajlkapoabaaLK4
import Derived.LaidEqlPtr
namespace Go.Proofs.Ytlhkajlkapoabaa
open Go.RowKit Go.Maps
set_option linter.unusedVariables false

/-- Where a node hangs in its chain's splay tree. -/
def sideN (N : Nat → LN) (a : Nat) : Int × Bool :=
  match (N a).up with
  | none => (0, false)
  | some p => if (N p).l = some a then (0, true) else if (N p).r = some a then (1, true) else (0, false)

theorem pA_eq {o : Option Nat} {a : Nat} : (pA o = some ⟨a, 0, none⟩) ↔ o = some a := by
  cases o with
  | none => exact ⟨(fun h => by cases h), (fun h => by cases h)⟩
  | some b =>
    constructor
    · intro h
      injection h with h
      injection h with h
      rw [h]
    · intro h
      injection h with h
      rw [h]
      rfl

theorem infoL : (Try.prog.info? 71).map (fun i => i.size) = some 14 := by kernel_rfl

theorem infoL' : ∃ j, Try.prog.info? 71 = some j ∧ j.size ≠ 0 := by
  have h := infoL
  cases hi : Try.prog.info? 71 with
  | none => rw [hi] at h; cases h
  | some j =>
    rw [hi] at h
    injection h with h
    have h : j.size = 14 := h
    exact ⟨j, rfl, by rw [h]; decide⟩

theorem run_eqP_same (a : Nat) (w : World) : (binOp .eql 67 (.pointer (some ⟨a, 0, none⟩)) (.pointer (some ⟨a, 0, none⟩))).run Try.prog w = .ok (.bool true) w := by
  obtain ⟨j, hj, -⟩ := infoL'
  exact run_eql_ptr_same w _ Try.underlying67 hj

theorem run_eqP_other {w : World} {a c : Nat} {X Y : Array Value} {t u : TypeId} (h1 : Blk w c t X) (h2 : Blk w a u Y) (hn : c ≠ a) : (binOp .eql 67 (.pointer (some ⟨c, 0, none⟩)) (.pointer (some ⟨a, 0, none⟩))).run Try.prog w = .ok (.bool false) w := by
  obtain ⟨j, hj, hs⟩ := infoL'
  exact run_eql_ptr_other w Try.underlying67 hj hs (fun e => hn (by injection e)) h1 h2

theorem run_eqP_none (a : Nat) (w : World) : (binOp .eql 67 (.pointer none) (.pointer (some ⟨a, 0, none⟩))).run Try.prog w = .ok (.bool false) w := by kernel_rfl

/-- Whatever hangs on a node of S, or on which it hangs, is in S. -/
def Clo (S : Nat → Prop) (N : Nat → LN) : Prop := ∀ b, S b → ∀ c, (N b).up = some c ∨ (N b).l = some c ∨ (N b).r = some c → S c

set_option maxRecDepth 100000 in
set_option maxHeartbeats 8000000 in
theorem side_any (w : World) (S : Nat → Prop) (N : Nat → NdL) (h : NAt w S N) (a : Nat) (ha : S a) (hu : Clo S (nOf N)) :
    Calls Try.prog 51 #[.pointer (some ⟨a, 0, none⟩)] w fun e w' => e = .returned (.tuple #[.int .i64 (sideN (nOf N) a).1, .bool (sideN (nOf N) a).2]) ∧ w' = w := by
  have a0 : w.cell? ⟨a, 0, none⟩ = some (ptrV (N a).n.up) := (h a ha).cell 0
  cases hup : (N a).n.up with
  | none =>
    have e : sideN (nOf N) a = (0, false) := by unfold sideN nOf; rw [hup]
    rw [e]
    rw [hup] at a0
    replace a0 : w.cell? ⟨a, 0, none⟩ = some (.pointer none) := a0
    clear h hup hu e
    go_enter Try.func51, Try.ntmps51
    go_wp2_with fail
    go_ret2
    exact ⟨rfl, rfl⟩
  | some p =>
    have hp : S p := hu a ha p (.inl hup)
    have hcl : ∀ c, (N p).n.l = some c ∨ (N p).n.r = some c → S c := fun c hc => hu p hp c (.inr hc)
    rw [hup] at a0
    replace a0 : w.cell? ⟨a, 0, none⟩ = some (.pointer (some ⟨p, 0, none⟩)) := a0
    obtain ⟨pl, hpl⟩ : ∃ q, q = pA (N p).n.l := ⟨_, rfl⟩
    obtain ⟨pr, hpr⟩ : ∃ q, q = pA (N p).n.r := ⟨_, rfl⟩
    have p1 : w.cell? ⟨p, 1, none⟩ = some (.pointer pl) := by rw [hpl, ← ptrV_eq]; exact (h p hp).cell 1
    have p2 : w.cell? ⟨p, 2, none⟩ = some (.pointer pr) := by rw [hpr, ← ptrV_eq]; exact (h p hp).cell 2
    have e : sideN (nOf N) a = if (N p).n.l = some a then (0, true) else if (N p).n.r = some a then (1, true) else (0, false) := by
      unfold sideN
      rw [show (nOf N a).up = some p from hup]
      rfl
    rw [e]
    have hp0 := run_pix0 (.pointer pl) (.pointer pr)
    have hp1 := run_pix1 (.pointer pl) (.pointer pr)
    obtain ⟨P1, hP1⟩ : ∃ P : Prop, P = ((N p).n.l = some a) := ⟨_, rfl⟩
    obtain ⟨P2, hP2⟩ : ∃ P : Prop, P = ((N p).n.r = some a) := ⟨_, rfl⟩
    obtain ⟨r, hr⟩ : ∃ r : Int × Bool, r = if (N p).n.l = some a then (0, true) else if (N p).n.r = some a then (1, true) else (0, false) := ⟨_, rfl⟩
    rw [← hr]
    obtain ⟨r1, r2⟩ := r
    have HR1 : Hid ((P1 → r1 = 0 ∧ r2 = true) ∧ (¬ P1 → P2 → r1 = 1 ∧ r2 = true) ∧ (¬ P1 → ¬ P2 → r1 = 0 ∧ r2 = false)) := Lib.hid (by
      rw [hP1, hP2]
      refine ⟨fun h => ?_, fun h1 h2 => ?_, fun h1 h2 => ?_⟩
      · rw [if_pos h] at hr; injection hr with e1 e2; exact ⟨e1, e2⟩
      · rw [if_neg h1, if_pos h2] at hr; injection hr with e1 e2; exact ⟨e1, e2⟩
      · rw [if_neg h1, if_neg h2] at hr; injection hr with e1 e2; exact ⟨e1, e2⟩)
    have HL : Hid (P1 → pl = some ⟨a, 0, none⟩) := Lib.hid (by rw [hpl, hP1]; exact pA_eq.2)
    have HR : Hid (P2 → pr = some ⟨a, 0, none⟩) := Lib.hid (by rw [hpr, hP2]; exact pA_eq.2)
    have HL' : Hid (¬ P1 → pl = none ∨ ∃ c, pl = some ⟨c, 0, none⟩ ∧ c ≠ a ∧ Blk w c 71 (encL (N c))) := Lib.hid (by
      rw [hpl, hP1]
      intro hn
      cases hc : (N p).n.l with
      | none => exact .inl rfl
      | some c => exact .inr ⟨c, rfl, (fun e => hn (by rw [hc, e])), h c (hcl c (.inl hc))⟩)
    have HR' : Hid (¬ P2 → pr = none ∨ ∃ c, pr = some ⟨c, 0, none⟩ ∧ c ≠ a ∧ Blk w c 71 (encL (N c))) := Lib.hid (by
      rw [hpr, hP2]
      intro hn
      cases hc : (N p).n.r with
      | none => exact .inl rfl
      | some c => exact .inr ⟨c, rfl, (fun e => hn (by rw [hc, e])), h c (hcl c (.inr hc))⟩)
    have HA := Lib.hid (h a ha)
    clear h hup hu e hpl hpr hp hcl ha hP1 hP2 hr
    go_enter Try.func51, Try.ntmps51
    go_wp2_with fail
    clear a0 p1 p2
    go_loopw [18] (fun i wr => wr = w ∧ (i = .int .i64 0 ∨ (i = .int .i64 1 ∧ ¬ P1) ∨ (i = .int .i64 2 ∧ ¬ P1 ∧ ¬ P2))) (fun i _ => 2 - (intOf i).toNat)
    case atStart => exact ⟨rfl, .inl rfl⟩
    case round =>
      obtain ⟨hwr, hor⟩ := hrel
      subst hwr
      rcases hor with rfl | ⟨rfl, hn⟩ | ⟨rfl, hn, hm⟩
      · by_cases hl : P1
        · have hq := HL.out hl
          obtain ⟨rfl, rfl⟩ := HR1.out.1 hl
          subst hq
          clear hl
          have hee := run_eqP_same a
          go_wp2_with fail
          go_ret2
          exact ⟨rfl, rfl⟩
        · have HH := Lib.hid hl
          rcases HL'.out hl with hq | ⟨c, hq, hca, hB⟩
          · subst hq
            clear hl
            have hee := run_eqP_none a
            go_wp2_with fail
            go_roundw
            case rel => exact ⟨trivial, .inr (.inl ⟨rfl, HH.out⟩)⟩
            case measure => simp [intOf]
          · subst hq
            have hee := run_eqP_other hB HA.out hca
            clear hl hca hB
            go_wp2_with fail
            go_roundw
            case rel => exact ⟨trivial, .inr (.inl ⟨rfl, HH.out⟩)⟩
            case measure => simp [intOf]
      · have HN := Lib.hid hn
        clear hn
        by_cases hl : P2
        · have hq := HR.out hl
          obtain ⟨rfl, rfl⟩ := HR1.out.2.1 HN.out hl
          subst hq
          clear hl
          have hee := run_eqP_same a
          go_wp2_with fail
          go_ret2
          exact ⟨rfl, rfl⟩
        · have HH := Lib.hid hl
          rcases HR'.out hl with hq | ⟨c, hq, hca, hB⟩
          · subst hq
            clear hl
            have hee := run_eqP_none a
            go_wp2_with fail
            go_roundw
            case rel => exact ⟨trivial, .inr (.inr ⟨rfl, HN.out, HH.out⟩)⟩
            case measure => simp [intOf]
          · subst hq
            have hee := run_eqP_other hB HA.out hca
            clear hl hca hB
            go_wp2_with fail
            go_roundw
            case rel => exact ⟨trivial, .inr (.inr ⟨rfl, HN.out, HH.out⟩)⟩
            case measure => simp [intOf]
      · obtain ⟨rfl, rfl⟩ := HR1.out.2.2 hn hm
        clear hn hm
        go_wp2_with fail
        go_ret2
        exact ⟨rfl, rfl⟩

set_option maxRecDepth 100000 in
set_option maxHeartbeats 8000000 in
theorem first_any (w : World) (S : Nat → Prop) (N : Nat → NdL) (h : NAt w S N) (a p : Nat) (ha : S a) (hp : S p) (hu : Clo S (nOf N)) :
    Calls Try.prog 52 #[.pointer (some ⟨a, 0, none⟩), .pointer (some ⟨p, 0, none⟩)] w fun e w' => e = .returned (.pointer (some ⟨if (sideN (nOf N) a).1 = (sideN (nOf N) p).1 then p else a, 0, none⟩)) ∧ w' = w := by
  have k1 := side_any w S N h a ha hu
  have k2 := side_any w S N h p hp hu
  obtain ⟨s1, hs1⟩ : ∃ s, s = (sideN (nOf N) a).1 := ⟨_, rfl⟩
  obtain ⟨s2, hs2⟩ : ∃ s, s = (sideN (nOf N) p).1 := ⟨_, rfl⟩
  obtain ⟨b1, hb1⟩ : ∃ s, s = (sideN (nOf N) a).2 := ⟨_, rfl⟩
  obtain ⟨b2, hb2⟩ : ∃ s, s = (sideN (nOf N) p).2 := ⟨_, rfl⟩
  rw [← hs1, ← hb1] at k1
  rw [← hs2, ← hb2] at k2
  rw [← hs1, ← hs2]
  have K1 := Lib.hid k1
  have K2 := Lib.hid k2
  clear hs1 hs2 hb1 hb2 h k1 k2 hu
  by_cases hs : s1 = s2
  · rw [if_pos hs]
    have d : (s1 == s2) = true := by simpa using hs
    clear hs
    go_enter Try.func52, Try.ntmps52
    go_wp2_with fail
    refine K1.out.mono ?_
    rintro e w1 ⟨rfl, hw⟩
    subst w1
    go_wp2_with fail
    refine K2.out.mono ?_
    rintro e w1 ⟨rfl, hw⟩
    subst w1
    go_wp2_with fail
    go_ret
    exact ⟨rfl, rfl⟩
  · rw [if_neg hs]
    have d : (s1 == s2) = false := by simpa using hs
    clear hs
    go_enter Try.func52, Try.ntmps52
    go_wp2_with fail
    refine K1.out.mono ?_
    rintro e w1 ⟨rfl, hw⟩
    subst w1
    go_wp2_with fail
    refine K2.out.mono ?_
    rintro e w1 ⟨rfl, hw⟩
    subst w1
    go_wp2_with fail
    go_ret
    exact ⟨rfl, rfl⟩

end Go.Proofs.Ytlhkajlkapoabaa
