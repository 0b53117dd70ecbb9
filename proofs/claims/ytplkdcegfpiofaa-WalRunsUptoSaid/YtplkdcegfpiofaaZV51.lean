/-
  WalRuns: the log between two rounds, and behind the last Reset. No walk.
-/
import Derived.Test.YtplkdcegfpiofaaZV33
namespace Go.Proofs.Ytplkdcegfpiofaa
open Go.RowKit Go.Maps
set_option linter.unusedVariables false

/-- A log on a disk that refuses nothing, behind k calls. -/
structure RunsS (s : DS) (m : LG) (rs : List RecT) (count k : Nat) : Prop where
  good : Good s m rs
  clean : Clean s
  first : m.first = 1
  cnt : m.count = count
  cnt1 : 1 ≤ count ∧ count ≤ 9
  most : m.most ≤ 2 + k
  steps : s.steps ≤ 4 + 20 * k
  len : s.safe.length = 10
theorem RunsS.next {s : DS} {m : LG} {rs : List RecT} {count k : Nat} (h : RunsS s m rs count k) : RunsS s m rs count (k + 1) :=
  ⟨h.good, h.clean, h.first, h.cnt, h.cnt1, by have := h.most; omega, by have := h.steps; omega, h.len⟩
theorem RunsS.append {s : DS} {m : LG} {rs : List RecT} {count k : Nat} (h : RunsS s m rs count k) (kind : Int) (body : List Nat) (hb : ∀ x ∈ body, x < 256) : ∃ rs', RunsS s (m.append kind body).1 rs' count (k + 1) := by
  rcases h.good.append kind body hb with ⟨_, _, _, _, _, _, e, hg⟩ | ⟨_, _, e⟩
  · exact ⟨_, hg, h.clean, by rw [e]; exact h.first, by rw [e]; exact h.cnt, h.cnt1, by rw [e]; have := h.most; show m.most ≤ _; omega, by have := h.steps; omega, h.len⟩
  · rw [e]; exact ⟨rs, h.next⟩
theorem RunsS.flush {s : DS} {m : LG} {rs : List RecT} {count k : Nat} (h : RunsS s m rs count k) : RunsS (m.flush s).1 (m.flush s).2.1 rs count (k + 1) := by
  have h0 := Clean.flush h.good h.clean
  obtain ⟨h1, h2, h3, h4, h5⟩ := h.good.flush_ok h0
  have hst := h.good.ok.st
  rw [h.cnt] at hst
  have h9 := Nat.mul_le_mul_right 498 h.cnt1.2
  have h6 := flush_steps (m := m) (c := 9) (Nat.le_trans hst h9) (by omega) s
  have h7 := h.steps
  have h8 := h.most
  exact ⟨h1, ⟨fun k => by rw [h3]; exact h.clean.plan k, h1.off⟩, by rw [h2]; exact h.first, by rw [h2]; exact h.cnt, h.cnt1, by rw [h2]; show m.most ≤ _; omega, by omega, h4.trans h.len⟩
theorem RunsS.reset0 {s : DS} {m : LG} {rs : List RecT} {count k : Nat} (h : RunsS s m rs count k) (hk : k ≤ 2000000) : (m.reset s).2.2 = 0 := Clean.reset h.good.fits_ h.clean (by have := h.most; omega)
theorem RunsS.reset {s : DS} {m : LG} {rs : List RecT} {count k : Nat} (h : RunsS s m rs count k) (hk : k ≤ 2000000) : RunsS (m.reset s).1 (m.reset s).2.1 [] count (k + 1) ∧ (m.reset s).2.1 = m.anew := by
  obtain ⟨h1, h2, h3, h4, h5, h6⟩ := h.good.fits_.reset_ok (h.reset0 hk)
  have h7 := reset_steps m s
  have h8 := h.steps
  have h9 := h.most
  rw [h2]
  exact ⟨⟨h1, ⟨fun k => by rw [h3]; exact h.clean.plan k, h1.off⟩, h.first, h.cnt, h.cnt1, by show m.most + 1 ≤ _; omega, by omega, h4.trans h.len⟩, rfl⟩
theorem RunsS.begun (count : Nat) (hc : 1 ≤ count ∧ count ≤ 9) : RunsS (begS (DS.new 10) 1 count) (begL (DS.new 10) 1 count) [] count 0 := by
  have hb : Begun (DS.new 10) 1 count := begun_new 10 1 count (by omega) (by omega) (by omega)
  have h2 : (begL (DS.new 10) 1 count).most = 2 := by show (fmtL (DS.new 10) 1 count).most + 1 = 2; rw [hb.most]
  have hs := hb.steps2
  have h0 : (DS.new 10).steps = 0 := rfl
  rw [h0] at hs
  exact ⟨hb.good, hb.clean2, rfl, rfl, hc, by rw [h2]; omega, by omega, hb.len2.trans (new_len 10 (by omega))⟩
/-- What the law asks at its end. -/
structure RunsEnd (m : LG) (s2 : DS) (count : Nat) : Prop where
  up : m.lsn m.st.length < m.anew.lsn 0
  log : isLog (s2.has 1)
  off : s2.off = false
  len : s2.safe.length = 10
  steps : s2.steps < 1000000000000
  tells : (LG.opened s2 1 count).tells = []
  last : (LG.opened s2 1 count).lsn (LG.opened s2 1 count).st.length = m.anew.lsn 0
  res : ((LG.opened s2 1 count).reset s2).2.2 = 0
  anew : ((LG.opened s2 1 count).reset s2).2.1 = (LG.opened s2 1 count).anew
  up2 : m.anew.lsn 0 < (LG.opened s2 1 count).anew.lsn 0
theorem RunsS.finish {s : DS} {m : LG} {rs : List RecT} {count k : Nat} (h : RunsS s m rs count k) (hk : k ≤ 2000000) (ks : List Int) : RunsEnd m (((m.reset s).1).on ks) count := by
  obtain ⟨h1, h2⟩ := h.reset hk
  obtain ⟨s1, hs1⟩ : ∃ s1, s1 = (m.reset s).1 := ⟨_, rfl⟩
  rw [h2, ← hs1] at h1
  rw [← hs1]
  clear hs1 h2
  have hre := h1.good.reopen (rfl : m.anew.safe = m.anew.st.length) ks
  rw [h1.first, h1.cnt] at hre
  obtain ⟨r1, r2, r3, r4⟩ := hre
  obtain ⟨s2, hs2⟩ : ∃ s2, s2 = s1.on ks := ⟨_, rfl⟩
  have hpend : s2.pend = fun _ => none := by rw [hs2]; rfl
  have hcl : Clean s2 := ⟨fun k => by rw [hs2]; exact h1.clean.plan k, by rw [hs2]; rfl⟩
  have hln : s2.safe.length = 10 := by rw [hs2, len_on]; exact h1.len
  have hst2 : s2.steps = s1.steps := by rw [hs2]; rfl
  rw [← hs2] at r1 r2 r3 r4 ⊢
  clear hs2
  have hm := h.most
  have hrn := h.good.ok.run.1
  have hrun1 := h1.good.run
  have hst := h.good.ok.st
  rw [h.cnt] at hst
  have h9 := Nat.mul_le_mul_right 498 h.cnt1.2
  have har : m.anew.run = m.most + 1 := rfl
  have ham : m.anew.most = m.most + 1 := rfl
  have hfit : Fits s2 (LG.opened s2 1 count) := opened_fits hcl.off hpend (by rw [hln]; have := h.cnt1; omega) (by omega) ⟨h.cnt1.1, by have := h.cnt1; omega⟩ (by rw [r3]; exact hrun1)
  have hre := Clean.reset hfit hcl (by omega)
  obtain ⟨g1, g2, g3, g4, g5, g6⟩ := hfit.reset_ok hre
  have hok := hfit.ok.run.1
  have hst0 : (LG.opened s2 1 count).st.length = 0 := by rw [r2.st]; rfl
  refine ⟨?_, r1, hcl.off, hln, by have := h1.steps; omega, ?_, ?_, hre, g2, ?_⟩
  · unfold LG.lsn; rw [har]; omega
  · rw [r2.tells]; rfl
  · unfold LG.lsn; rw [hst0, r3]
  · have e : (LG.opened s2 1 count).anew.run = (LG.opened s2 1 count).most + 1 := rfl
    unfold LG.lsn; rw [har, e]; rw [r3, har] at hok; omega
end Go.Proofs.Ytplkdcegfpiofaa
