/-
  The walk of split.
-/
import Derived.Test.YtlakcldgolpaiaaEP10
namespace Go.Proofs.Ytlakcldgolpaiaa
open Go.RowKit
set_option linter.unusedVariables false

/-- What split's loop keeps. -/
structure SpI (g B : Nat) (sv : Value) (nb n cap : Nat) (N : Nodes SV) (P Q : List Nat) (w0 wr : World) (c : Nat) (gs : List Up) (ta tr : Tr) (N' : Nodes SV) : Prop where
  mem : Mem wr g B sv nb n cap N'
  mod : Mod (fun k => k = nb) w0 wr
  st : SplitSt N N' c gs ta tr
  pre : before ta.list gs = P
  suf : behind tr.list gs = Q
  lt : ∀ i ∈ ta.list ++ tr.list ++ around gs, i < n

theorem SpI.size {g B : Nat} {sv : Value} {nb n cap : Nat} {N : Nodes SV} {P Q : List Nat} {w0 wr : World} {c : Nat} {gs : List Up} {ta tr : Tr} {N' : Nodes SV} (h : SpI g B sv nb n cap N P Q w0 wr c gs ta tr N') (hn : n ≤ 65537) : (ta.list ++ tr.list ++ around gs).length ≤ 65537 := Nat.le_trans (len_le h.st.nd h.lt) hn

theorem mem_perm {xs ys : List Nat} {n : Nat} (h : xs.Perm ys) (hl : ∀ i ∈ ys, i < n) : ∀ i ∈ xs, i < n := fun i hi => hl i (h.mem_iff.1 hi)

theorem SpI.right {g B : Nat} {sv : Value} {nb n cap : Nat} {N : Nodes SV} {P Q : List Nat} {w0 wr w1 : World} {c p : Nat} {s : Tr} {gs : List Up} {ta tr : Tr} {N' : Nodes SV} (h : SpI g B sv nb n cap N P Q w0 wr c (⟨true, p, s⟩ :: gs) ta tr N') (h0 : (N 0).size = 0) (hm : Mem w1 g B sv nb n cap (hangN N' p s.root ta.root)) (hmod : Mod (fun k => k = nb) wr w1) :
    SpI g B sv nb n cap N P Q w0 w1 p gs (.node s p ta) tr (hangN N' p s.root ta.root) := by
  refine ⟨hm, h.mod.trans' hmod, split_right h.st h0, ?_, ?_, mem_perm ?_ h.lt⟩
  · have := h.pre; unfold before at this; simpa [Tr.list] using this
  · have := h.suf; unfold behind at this; simpa [Tr.list] using this
  · rw [List.perm_iff_count]
    intro x
    simp only [Tr.list, around, List.count_append, List.count_cons]
    omega

theorem SpI.left {g B : Nat} {sv : Value} {nb n cap : Nat} {N : Nodes SV} {P Q : List Nat} {w0 wr w1 : World} {c p : Nat} {s : Tr} {gs : List Up} {ta tr : Tr} {N' : Nodes SV} (h : SpI g B sv nb n cap N P Q w0 wr c (⟨false, p, s⟩ :: gs) ta tr N') (h0 : (N 0).size = 0) (hm : Mem w1 g B sv nb n cap (hangN N' p tr.root s.root)) (hmod : Mod (fun k => k = nb) wr w1) :
    SpI g B sv nb n cap N P Q w0 w1 p gs ta (.node tr p s) (hangN N' p tr.root s.root) := by
  refine ⟨hm, h.mod.trans' hmod, split_left h.st h0, ?_, ?_, mem_perm ?_ h.lt⟩
  · have := h.pre; unfold before at this; simpa [Tr.list] using this
  · have := h.suf; unfold behind at this; simpa [Tr.list] using this
  · rw [List.perm_iff_count]
    intro x
    simp only [Tr.list, around, List.count_append, List.count_cons]
    omega

theorem Mem.freeUp {w W : World} {g B : Nat} {sv : Value} {nb n cap : Nat} {N : Nodes SV} (h : Mem w g B sv nb n cap N) (hm : Mod (fun k => k = nb) W w) {x : Nat} (hx : x < n) :
    Mem (w.setCell ⟨nb, x * 11 + 8, none⟩ (.int .i64 0)) g B sv nb n cap (Go.Proofs.Ytlakcldgolpaiaa.freeUp N x) ∧ Mod (fun k => k = nb) W (w.setCell ⟨nb, x * 11 + 8, none⟩ (.int .i64 0)) :=
  h.store hx 8 (by omega) { N x with up := 0 } _ (by simp [encNd]) hm

set_option maxRecDepth 100000 in
set_option maxHeartbeats 4000000 in
theorem split_any (w : World) (g B : Nat) (sv : Value) (nb n cap : Nat) (N : Nodes SV) (hM : Mem w g B sv nb n cap N) (hn : n ≤ 65537) (hn0 : 0 < n) (l r : Tr) (a : Nat) (fs : List Up) (hL : Laid N (.node l a r)) (hZ : Zip N a fs) (hU : (N a).up = nextP fs) (hd : (l.list ++ (a :: r.list) ++ around fs).Nodup) (hp : ∀ i ∈ l.list ++ (a :: r.list) ++ around fs, 0 < i ∧ i < n) (h0 : (N 0).size = 0) :
    Calls Try.prog 82 #[.pointer (some ⟨g, 0, none⟩), .int .i64 (a : Int)] w fun e w' => e = .returned (.tuple #[]) ∧ ∃ c ta tr N', Mem w' g B sv nb n cap (freeUp (freeUp N' ta.root) tr.root) ∧ Mod (fun k => k = nb) w w' ∧ SplitSt N N' c [] ta tr ∧ ta.list = before l.list fs ∧ tr.list = behind (a :: r.list) fs := by
  have ha := hp a (by simp)
  have b1 : w.cell? ⟨g, 1, none⟩ = _ := hM.blk.cell 1
  obtain ⟨-, -, -, -, -, -, -, -, u6, l7, r8⟩ := hM.cells ha.2
  rw [show (N a).left = l.root from hL.1] at l7
  rw [show (N a).right = r.root from hL.2.1] at r8
  rw [hU] at u6
  obtain ⟨lr, hlr⟩ : ∃ x, x = l.root := ⟨_, rfl⟩
  obtain ⟨rr, hrr⟩ : ∃ x, x = r.root := ⟨_, rfl⟩
  obtain ⟨ur, hur⟩ : ∃ x, x = nextP fs := ⟨_, rfl⟩
  rw [← hlr] at l7
  rw [← hrr] at r8
  rw [← hur] at u6
  have h2 := List.nodup_append.1 (List.nodup_append.1 hd).1
  have hlen := len_le hd (fun i hi => (hp i hi).2)
  simp only [List.length_append, List.length_cons] at hlen
  have hst := split_start hL hZ hd (fun i hi => (hp i hi).1) h0
  have hcall : ∀ W, Mem W g B sv nb n cap N → Mod (fun k => k = nb) w W → Calls Try.prog 99 #[.pointer (some ⟨g, 0, none⟩), .int .i64 (a : Int), .int .i64 0, .int .i64 (rr : Int)] W fun e w' => e = .returned (.tuple #[]) ∧ Hid (SpI g B sv nb n cap N (before l.list fs) (behind (a :: r.list) fs) w w' a fs l (.node .nil a r) (hangN N a 0 r.root)) := by
    intro W hW hmW
    have hc := hang_any W g B sv nb n cap N hW hn a 0 rr ha.2 hn0 (by rw [hrr]; exact root_lt hn0 (fun i hi => (hp i (by simp [hi])).2)) (by omega) (by rw [hrr]; exact (root_ne ha.1 (List.nodup_cons.1 h2.2.1).1).symm) (by rw [h0, hrr, size_root hL.2.2.2.2.2.1 h0]; omega)
    refine hc.mono ?_
    rintro e w5 ⟨rfl, h5, m5⟩
    rw [hrr] at h5
    exact ⟨rfl, Lib.hid ⟨h5, hmW.trans' m5, hst, rfl, rfl, fun i hi => (hp i (by simpa [Tr.list] using hi)).2⟩⟩
  have HCALL := Lib.hid hcall
  have HM := Lib.hid hM
  have H0 := Lib.hid h0
  have ha2 := ha.2
  have HLR := Lib.hid hlr
  have HUR := Lib.hid hur
  have HMD : Hid (Mem w.drew g B sv nb n cap N) := Lib.hid hM.drew
  have HWD : Hid (Mod (fun k => k = nb) w w.drew) := Lib.hid (Mod.refl _ _).drew
  obtain ⟨P, hP⟩ : ∃ P, P = before l.list fs := ⟨_, rfl⟩
  obtain ⟨Q, hQ⟩ : ∃ Q, Q = behind (a :: r.list) fs := ⟨_, rfl⟩
  rw [← hP, ← hQ] at HCALL ⊢
  clear hM hL hZ hU hd hp h0 hst hcall h2 hlen hlr hrr hur ha hP hQ
  go_enter Try.func82, Try.ntmps82
  go_wp2_with fail
  go_region
  go_wp2_with fail
  refine (HCALL.out _ HMD.out HWD.out).mono ?_
  rintro e w1 ⟨rfl, HS1⟩
  clear HCALL HM HMD HWD b1 u6 l7 r8
  go_wp2_with fail
  go_loopg [1, 4, 5, 6, 7] fs.length (fun k s1 s4 s5 s6 s7 wr => ∃ (c : Nat) (gs : List Up) (ta tr : Tr) (N' : Nodes SV) (u ar tt : Nat), k = gs.length ∧ s4 = .int .i64 (c : Int) ∧ s5 = .int .i64 (u : Int) ∧ s6 = .int .i64 (ar : Int) ∧ s7 = .int .i64 (tt : Int) ∧ Hid (u = nextP gs ∧ ar = ta.root ∧ tt = tr.root) ∧ Hid (SpI g B sv nb n cap N P Q w wr c gs ta tr N'))
  case atStart => exact ⟨a, fs, l, _, _, ur, lr, a, rfl, rfl, rfl, rfl, rfl, Lib.hid ⟨HUR.out, HLR.out, rfl⟩, HS1⟩
  case round =>
    obtain ⟨c, gs, ta, tr, N', u, ar, tt, rfl, rfl, rfl, rfl, rfl, HU, HI⟩ := hrel
    have br : wr.cell? ⟨g, 1, none⟩ = _ := HI.out.mem.blk.cell 1
    have hat : ar < n := by rw [HU.out.2.1]; exact root_lt hn0 (fun i hi => HI.out.lt i (by simp [hi]))
    have htt : tt < n := by rw [HU.out.2.2]; exact root_lt hn0 (fun i hi => HI.out.lt i (by simp [hi]))
    cases gs with
    | nil =>
      have hu : u = 0 := HU.out.1
      subst hu
      obtain ⟨va, ca⟩ : ∃ v, wr.cell? ⟨nb, ar * 11 + 8, none⟩ = some v := ⟨_, (HI.out.mem.cells hat).2.2.2.2.2.2.2.2.1⟩
      obtain ⟨vt, ct⟩ : ∃ v, wr.cell? ⟨nb, tt * 11 + 8, none⟩ = some v := ⟨_, (HI.out.mem.cells htt).2.2.2.2.2.2.2.2.1⟩
      have fa := HI.out.mem.frozen (ar * 11 + 8)
      have ft := HI.out.mem.frozen (tt * 11 + 8)
      have hne : ¬ ar = tt := by
        have h1 := HI.out.st.nd
        have h2 := List.nodup_append.1 (List.nodup_append.1 h1).1
        have ht := Tr.root_mem HI.out.st.ne
        rw [HU.out.2.1, HU.out.2.2]
        intro e
        by_cases hta : ta = .nil
        · subst hta
          have := HI.out.st.pos _ (List.mem_append_left _ (List.mem_append_right _ ht))
          rw [← e] at this
          simp [Tr.root] at this
        · exact h2.2.2 _ (Tr.root_mem hta) _ ht e
      have hne2 : ¬ tt = ar := fun e => hne e.symm
      go_wp2_with fail
      go_region
      all_goals (
        go_wp2_with fail
        go_end0
        refine ⟨rfl, c, ta, tr, N', ?_⟩
        have h1 := HI.out.mem.freeUp HI.out.mod hat
        have h2 := h1.1.freeUp h1.2 htt
        have hb : before ta.list [] = ta.list := rfl
        have hs : behind tr.list [] = tr.list := rfl
        rw [← HU.out.2.1, ← HU.out.2.2]
        exact ⟨h2.1.drew, h2.2.drew, HI.out.st, hb ▸ HI.out.pre, hs ▸ HI.out.suf⟩)
    | cons f gs =>
      obtain ⟨d, p, s⟩ := f
      have hu : p = u := HU.out.1.symm
      subst hu
      have hpl : p < n := HI.out.lt p (by simp [around])
      have hpp : 0 < p := HI.out.st.pos p (by simp [around])
      have hd0 : ((p : Int) != 0) = true := by simp; omega
      obtain ⟨g1, g2, g3, g4, g5⟩ := HI.out.st.zip
      obtain ⟨u2, hu2⟩ : ∃ u2, u2 = nextP gs := ⟨_, rfl⟩
      have u6 : wr.cell? ⟨nb, p * 11 + 8, none⟩ = some (.int .i64 (u2 : Int)) := by have := (HI.out.mem.cells hpl).2.2.2.2.2.2.2.2.1; rw [g4, ← hu2] at this; exact this
      have HU2 := Lib.hid hu2
      obtain ⟨sr, hsr⟩ : ∃ sr, sr = s.root := ⟨_, rfl⟩
      have HSR := Lib.hid hsr
      have HC5 := Lib.hid g1
      have HLS := Lib.hid g2
      have HZ0 : Hid ((N' 0).size = 0) := Lib.hid (by rw [HI.out.st.zero]; exact H0.out)
      have hnd := HI.out.st.nd
      have hps : p ∉ s.list := fun hi => by
        have := (List.nodup_append.1 hnd).2.1
        rw [around, List.nodup_cons] at this
        exact this.1 (List.mem_append_left _ hi)
      have hout : ∀ i ∈ ta.list ++ tr.list, i ≠ p := fun i hi => (List.nodup_append.1 hnd).2.2 i hi p (by simp [around])
      have HSL : Hid (s.root < n) := Lib.hid (root_lt hn0 fun i hi => HI.out.lt i (by simp [around, hi]))
      have HSP : Hid (s.root ≠ p) := Lib.hid (root_ne hpp hps).symm
      have HAP : Hid (ta.root ≠ p) := Lib.hid (root_ne hpp (fun hi => hout p (List.mem_append_left _ hi) rfl)).symm
      have HTP : Hid (tr.root ≠ p) := Lib.hid (root_ne hpp (fun hi => hout p (List.mem_append_right _ hi) rfl)).symm
      have HNE : Hid (s.root ≠ c) := Lib.hid (by
        have hcin := HI.out.st.c
        have hcp := HI.out.st.pos c (List.mem_append_left _ hcin)
        refine (root_ne hcp fun hi => ?_).symm
        exact (List.nodup_append.1 hnd).2.2 c hcin c (by simp [around, hi]) rfl)
      clear g1 g2 g3 g4 g5 hu2 hsr hnd hps hout
      cases d with
      | true =>
        have hc5 := HC5.out
        simp only [if_true] at hc5
        obtain ⟨hc51, hc52⟩ := hc5
        have r8 : wr.cell? ⟨nb, p * 11 + 10, none⟩ = some (.int .i64 (c : Int)) := by have := (HI.out.mem.cells hpl).2.2.2.2.2.2.2.2.2.2; rw [hc51] at this; exact this
        have l7 : wr.cell? ⟨nb, p * 11 + 9, none⟩ = some (.int .i64 (sr : Int)) := by have := (HI.out.mem.cells hpl).2.2.2.2.2.2.2.2.2.1; rw [hc52, ← HSR.out] at this; exact this
        have hd1 : ((c : Int) == (c : Int)) = true := by simp
        have hcall : ∀ W, Mem W g B sv nb n cap N' → Mod (fun k => k = nb) wr W → Calls Try.prog 99 #[.pointer (some ⟨g, 0, none⟩), .int .i64 (p : Int), .int .i64 (sr : Int), .int .i64 (ar : Int)] W fun e w' => e = .returned (.tuple #[]) ∧ Hid (∃ ta' tr' N2, SpI g B sv nb n cap N P Q w w' p gs ta' tr' N2 ∧ p = ta'.root ∧ tt = tr'.root) := by
          intro W hW hmW
          have hc := hang_any W g B sv nb n cap N' hW hn p sr ar hpl (by rw [HSR.out]; exact HSL.out) hat (by rw [HSR.out]; exact HSP.out) (by rw [HU.out.2.1]; exact HAP.out) (by
            rw [HU.out.2.1, HSR.out, size_root HI.out.st.la HZ0.out, size_root (show Laid N' s from HLS.out) HZ0.out]
            have := HI.out.size hn
            simp only [around, List.length_append, List.length_cons] at this
            omega)
          refine hc.mono ?_
          rintro e w5 ⟨rfl, h5, m5⟩
          rw [HSR.out, HU.out.2.1] at h5
          exact ⟨rfl, Lib.hid ⟨_, tr, _, HI.out.right H0.out h5 (hmW.trans' m5), rfl, HU.out.2.2⟩⟩
        have HCALL := Lib.hid hcall
        have HMD : Hid (Mem wr.drew g B sv nb n cap N') := Lib.hid HI.out.mem.drew
        have HWD : Hid (Mod (fun k => k = nb) wr wr.drew) := Lib.hid (Mod.refl _ _).drew
        clear hcall hc51 hc52
        go_wp2_with fail
        go_region
        go_wp2_with fail
        refine (HCALL.out _ HMD.out HWD.out).mono ?_
        rintro e w5 ⟨rfl, HO5⟩
        go_wp2_with fail
        go_roundg gs.length
        case measure => simp
        case rel =>
          obtain ⟨ta', tr', N2, q1, q2, q3⟩ := HO5.out
          exact ⟨p, gs, ta', tr', N2, u2, p, tt, rfl, rfl, rfl, rfl, rfl, Lib.hid ⟨HU2.out, q2, q3⟩, Lib.hid q1⟩
      | false =>
        have hc5 := HC5.out
        simp only [Bool.false_eq_true, if_false] at hc5
        obtain ⟨hc51, hc52⟩ := hc5
        have r8 : wr.cell? ⟨nb, p * 11 + 10, none⟩ = some (.int .i64 (sr : Int)) := by have := (HI.out.mem.cells hpl).2.2.2.2.2.2.2.2.2.2; rw [hc52, ← HSR.out] at this; exact this
        have hd1 : ((sr : Int) == (c : Int)) = false := by
          have : sr ≠ c := by rw [HSR.out]; exact HNE.out
          simp; omega
        have hcall : ∀ W, Mem W g B sv nb n cap N' → Mod (fun k => k = nb) wr W → Calls Try.prog 99 #[.pointer (some ⟨g, 0, none⟩), .int .i64 (p : Int), .int .i64 (tt : Int), .int .i64 (sr : Int)] W fun e w' => e = .returned (.tuple #[]) ∧ Hid (∃ ta' tr' N2, SpI g B sv nb n cap N P Q w w' p gs ta' tr' N2 ∧ ar = ta'.root ∧ p = tr'.root) := by
          intro W hW hmW
          have hc := hang_any W g B sv nb n cap N' hW hn p tt sr hpl htt (by rw [HSR.out]; exact HSL.out) (by rw [HU.out.2.2]; exact HTP.out) (by rw [HSR.out]; exact HSP.out) (by
            rw [HU.out.2.2, HSR.out, size_root HI.out.st.lr HZ0.out, size_root (show Laid N' s from HLS.out) HZ0.out]
            have := HI.out.size hn
            simp only [around, List.length_append, List.length_cons] at this
            omega)
          refine hc.mono ?_
          rintro e w5 ⟨rfl, h5, m5⟩
          rw [HSR.out, HU.out.2.2] at h5
          exact ⟨rfl, Lib.hid ⟨ta, _, _, HI.out.left H0.out h5 (hmW.trans' m5), HU.out.2.1, rfl⟩⟩
        have HCALL := Lib.hid hcall
        have HMD : Hid (Mem wr.drew g B sv nb n cap N') := Lib.hid HI.out.mem.drew
        have HWD : Hid (Mod (fun k => k = nb) wr wr.drew) := Lib.hid (Mod.refl _ _).drew
        clear hcall hc51 hc52
        go_wp2_with fail
        go_region
        go_wp2_with fail
        refine (HCALL.out _ HMD.out HWD.out).mono ?_
        rintro e w5 ⟨rfl, HO5⟩
        go_wp2_with fail
        go_roundg gs.length
        case measure => simp
        case rel =>
          obtain ⟨ta', tr', N2, q1, q2, q3⟩ := HO5.out
          exact ⟨p, gs, ta', tr', N2, u2, ar, p, rfl, rfl, rfl, rfl, rfl, Lib.hid ⟨HU2.out, q2, q3⟩, Lib.hid q1⟩

end Go.Proofs.Ytlakcldgolpaiaa
