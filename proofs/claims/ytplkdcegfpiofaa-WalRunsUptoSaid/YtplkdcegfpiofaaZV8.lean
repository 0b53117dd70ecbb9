/-
  The walks of the log's Flush and Reset.
-/
import Derived.Test.YtplkdcegfpiofaaZV5
namespace Go.Proofs.Ytplkdcegfpiofaa
open Go.RowKit Go.Maps
set_option linter.unusedVariables false

/-- A log and its disk. -/
structure WalAt (w : World) (p sb mb : Nat) (pl : Option Nat) (s : DS) (g B : Nat) (sv bv : Value) (m : LG) : Prop where
  dk : DiskAt w p sb mb pl s
  lg : LogAt w p g B sv bv m
  sep : p < B ∧ sb < B ∧ mb < B
  pl : ∀ b, pl = some b → ¬ OwnL g sv bv b
/-- What the calls of a log may turn of it and its disk. -/
def OwnW (p sb mb g : Nat) (k : Nat) : Prop := Own p sb mb k ∨ k = g
section
variable {w w' : World} {p sb mb g B : Nat} {pl : Option Nat} {s s' : DS} {sv bv : Value} {m : LG}
theorem WalAt.sepOwn (h : WalAt w p sb mb pl s g B sv bv m) : ∀ k, OwnL g sv bv k → ¬ Own p sb mb k := by
  intro k hk ho
  have h1 := (h.lg.own k hk).1
  have h2 := h.sep
  unfold Own at ho
  omega
theorem WalAt.below (h : WalAt w p sb mb pl s g B sv bv m) (hb : Below w.heap.size w w') : WalAt w' p sb mb pl s g B sv bv m := ⟨h.dk.below hb, h.lg.below hb, h.sep, h.pl⟩
theorem WalAt.log (h : WalAt w p sb mb pl s g B sv bv m) (hm : Mod (Own p sb mb) w w') : LogAt w' p g B sv bv m := h.lg.mod hm h.sepOwn
theorem DiskAt.setLog (h : DiskAt w p sb mb pl s) (hl : WalAt w' p sb mb pl s' g B sv bv m) (i : Nat) (u : Value) : DiskAt (w.setCell ⟨g, i, none⟩ u) p sb mb pl s := by
  have h1 := hl.sep
  have h2 := hl.lg.base
  exact h.mod (S := fun k => k = g) ((Mod.refl (fun k => k = g) w).setCell (p := ⟨g, i, none⟩) (fun _ => rfl) u) (by omega) (by omega) (by omega) (fun b hb e => hl.pl b hb (.inl e))
theorem LogAt.put (h : LogAt w p g B sv bv m) (i : Nat) (u : Value) (m' : LG) (hok : m'.Ok) (hs : m'.st = m.st) (hb : m'.begs = m.begs)
    (hc : (#[.pointer (some ⟨p, 0, none⟩), .int .i64 (m.first : Int), .int .i64 (m.count : Int), .int .i64 (m.run : Int), .int .i64 (m.most : Int), sv, bv, .int .i64 (m.safe : Int), .bool m.fresh, .bool m.dead] : Array Value).setIfInBounds i u =
      #[.pointer (some ⟨p, 0, none⟩), .int .i64 (m'.first : Int), .int .i64 (m'.count : Int), .int .i64 (m'.run : Int), .int .i64 (m'.most : Int), sv, bv, .int .i64 (m'.safe : Int), .bool m'.fresh, .bool m'.dead]) :
    LogAt (w.setCell ⟨g, i, none⟩ u) p g B sv bv m' := by
  have hm : Mod (fun k => k = g) w (w.setCell ⟨g, i, none⟩ u) := (Mod.refl (fun k => k = g) w).setCell (p := ⟨g, i, none⟩) (fun _ => rfl) u
  refine ⟨hok, ?_, ?_, ?_, h.far1, h.far2, h.far3, h.base⟩
  · have := h.blk.set_ i u
    rw [hc] at this
    exact this
  · rw [hs]; exact h.st.mod hm (fun b hb e => h.far1 (by rw [hb, e]))
  · rw [hb]; exact h.begs.mod hm (fun b hb e => h.far2 (by rw [hb, e]))
end

/-- Flush: the disk and the log behind it, and what it answers. -/
def LG.flush (m : LG) (s : DS) : DS × LG × Int :=
  if m.dead = true then (s, m, 91) else if m.safe = m.st.length then (s, m, 0)
  else if (DS.save m.run m.first m.st m.st.length (m.safe / 498) s).2 = 0 then ((DS.save m.run m.first m.st m.st.length (m.safe / 498) s).1, { m with safe := m.st.length }, 0)
  else ((DS.save m.run m.first m.st m.st.length (m.safe / 498) s).1, { m with dead := true }, (DS.save m.run m.first m.st m.st.length (m.safe / 498) s).2)

set_option maxRecDepth 100000 in
set_option maxHeartbeats 1000000 in
theorem Flush_any (w : World) (p sb mb g B : Nat) (pl : Option Nat) (s : DS) (sv bv : Value) (m : LG) (h : WalAt w p sb mb pl s g B sv bv m) (hst : s.steps < 1000000000000000) :
    Calls Try.prog 32 #[.pointer (some ⟨g, 0, none⟩)] w fun e w' => e = .returned (.int .i64 (m.flush s).2.2) ∧ WalAt w' p sb mb pl (m.flush s).1 g B sv bv (m.flush s).2.1 ∧ Mod (OwnW p sb mb g) w w' := by
  have a9 := h.lg.blk.cell 9
  have H := Lib.hid h
  have HST := Lib.hid hst
  clear h hst
  cases hd : m.dead with
  | true =>
    have e1 : Hid (m.flush s = (s, m, 91)) := Lib.hid (by unfold LG.flush; rw [if_pos hd])
    rw [hd] at a9
    clear hd
    go_enter Try.func32, Try.ntmps32
    go_wp2_with fail
    go_ret
    exact ⟨by rw [e1.out]; rfl, by rw [e1.out]; exact H.out, Mod.refl _ _⟩
  | false =>
    rw [hd] at a9
    obtain ⟨A, c, hsv⟩ := H.out.lg.stream
    have a5 := H.out.lg.blk.cell 5
    have a7 := H.out.lg.blk.cell 7
    obtain ⟨n, hn⟩ : ∃ n, n = m.st.length := ⟨_, rfl⟩
    obtain ⟨q, hq⟩ : ∃ q, q = m.safe := ⟨_, rfl⟩
    have hle : q ≤ n := by rw [hq, hn]; exact H.out.lg.ok.safe
    have hnum : n ≤ 2039808 := by rw [hn]; exact H.out.lg.ok.num
    rw [← hq] at a7
    rw [hsv, ← hn] at a5
    have HN := Lib.hid hn
    have HQ := Lib.hid hq
    have HSV := Lib.hid hsv
    have HD := Lib.hid hd
    by_cases he : q = n
    · have e1 : Hid (m.flush s = (s, m, 0)) := Lib.hid (by unfold LG.flush; rw [hd, ← hq, ← hn, if_pos he]; rfl)
      clear hn hq hsv hd
      subst he
      go_enter Try.func32, Try.ntmps32
      go_wp2_with fail
      go_quiet (fail)
      go_wp2_with fail
      go_ret
      exact ⟨by rw [e1.out]; rfl, by rw [e1.out]; exact H.out.below (below_drewN (Below.refl _ _) _), Mod.of_below (below_drewN (Below.refl _ _) _) _⟩
    · obtain ⟨r, hr⟩ : ∃ r, r = DS.save m.run m.first m.st m.st.length (m.safe / 498) s := ⟨_, rfl⟩
      have hei : ¬ (q : Int) = (n : Int) := by omega
      obtain ⟨k, hk⟩ : ∃ k, k = q / 498 := ⟨_, rfl⟩
      have hA : ∃ b, A = some ⟨b, 0, none⟩ ∧ (¬ Own p sb mb b) := by
        obtain ⟨g1, cap, e, h1, h2, _⟩ := H.out.lg.st.form (by rw [← hn]; omega)
        rw [hsv] at e
        injection e with e1 e2 e3
        refine ⟨g1, e1, fun ho => ?_⟩
        have := H.out.sep
        unfold Own at ho
        omega
      obtain ⟨b, rfl, hbo⟩ := hA
      have a0 := H.out.lg.blk.cell 0
      have a1 := H.out.lg.blk.cell 1
      have a3 := H.out.lg.blk.cell 3
      have hrn := H.out.lg.ok.run
      have hfi := H.out.lg.ok.first
      obtain ⟨f, hf⟩ : ∃ f, f = m.first := ⟨_, rfl⟩
      obtain ⟨rn, hrun⟩ : ∃ rn, rn = m.run := ⟨_, rfl⟩
      have hrn2 : rn < 9223372036854775808 := by omega
      have hf2 : f ≤ 4096 := by omega
      rw [← hf] at a1
      rw [← hrun] at a3
      have HR : Hid (r = DS.save rn f m.st n k s) := Lib.hid (by rw [hr, hrun, hf, hn, hk, hq])
      have HK := Lib.hid hk
      have HF := Lib.hid hf
      have HRN := Lib.hid hrun
      have HRB : Hid (RB w w.heap.size (.slice (some ⟨b, 0, none⟩) n c) m.st) := Lib.hid (by have := H.out.lg.st.rbn; rw [hsv, ← hn] at this; exact this)
      have HBO := Lib.hid hbo
      have hglt := H.out.lg.lt
      have f9 := H.out.lg.blk.frozen 9
      have f7 := H.out.lg.blk.frozen 7
      have HM : Hid (m.flush s = if r.2 = 0 then (r.1, { m with safe := m.st.length }, 0) else (r.1, { m with dead := true }, r.2)) := Lib.hid (by unfold LG.flush; rw [← hr, if_neg (by rw [hd]; simp), if_neg (by rw [← hq, ← hn]; exact he)])
      have hdv : (q : Int) / 498 = (k : Int) := by omega
      have hk1 : k * 498 < n := by omega
      have hk2 : n ≤ (k + n) * 498 := by omega
      clear hn hq hsv hd hr hk hf hrun hbo hrn hfi
      go_enter Try.func32, Try.ntmps32
      go_wp2_with fail
      go_quiet (fail)
      go_wp2_with fail
      obtain ⟨W2, hbw, hW⟩ : ∃ W2, Below w.heap.size w W2 ∧ W2 = (w.drewN nq).drew := ⟨_, below_drewN (Below.refl _ _) (nq + 1), rfl⟩
      have HBW := Lib.hid hbw
      have b0 : W2.cell? ⟨g, 0, none⟩ = some (.pointer (some ⟨p, 0, none⟩)) := (hbw.cell (p := ⟨g, 0, none⟩) hglt).trans a0
      have b1 : W2.cell? ⟨g, 1, none⟩ = some (.int .i64 (f : Int)) := (hbw.cell (p := ⟨g, 1, none⟩) hglt).trans a1
      have b3 : W2.cell? ⟨g, 3, none⟩ = some (.int .i64 (rn : Int)) := (hbw.cell (p := ⟨g, 3, none⟩) hglt).trans a3
      have b5 : W2.cell? ⟨g, 5, none⟩ = some (.slice (some ⟨b, 0, none⟩) n c) := (hbw.cell (p := ⟨g, 5, none⟩) hglt).trans a5
      have b7 : W2.cell? ⟨g, 7, none⟩ = some (.int .i64 (q : Int)) := (hbw.cell (p := ⟨g, 7, none⟩) hglt).trans a7
      have HD2 : Hid (WalAt W2 p sb mb pl s g B sv bv m) := Lib.hid (H.out.below hbw)
      have HR2 : Hid (RB W2 W2.heap.size (.slice (some ⟨b, 0, none⟩) n c) m.st) := Lib.hid ((HRB.out.below hbw).more hbw.size)
      clear hbw a0 a1 a3 a5 a7 a9
      refine still_tail_at 21 W2 hW (by kernel_rfl) (by kernel_rfl) ?_
      clear hW
      simp only [List.take_succ_cons, List.take_zero, List.drop_succ_cons, List.drop_zero]
      iterate 21 still_step
      try refine wpStill_nil ?_
      go_wp2_with fail
      refine (save_some W2 p sb mb b 0 n c pl s f rn m.st n k HD2.out.dk HST.out HR2.out (.inr (fun b' hb' => by simp only [Value.ownBlock] at hb'; injection hb' with e; exact e ▸ HBO.out)) HN.out HBO.out (by omega) hrn2 (by rw [← HN.out]; omega) (by rw [← HN.out]; exact hk1) (by rw [← HN.out]; exact hk2) (by omega)).mono ?_
      rw [← HR.out]
      rintro e w3 ⟨rfl, hd3, hm3⟩
      obtain ⟨rs, re⟩ := r
      have HDS : Hid (DiskAt w3 p sb mb pl rs) := Lib.hid hd3
      have hglt2 : g < W2.heap.size := Nat.lt_of_lt_of_le hglt HBW.out.size
      have HL3 : Hid (LogAt w3 p g B sv bv m) := Lib.hid (HD2.out.log hm3)
      have HM3 : Hid (Mod (Own p sb mb) w w3) := Lib.hid ((Mod.of_below HBW.out _).trans' hm3)
      have f9' := HL3.out.blk.frozen 9
      have f7' := HL3.out.blk.frozen 7
      have c9 := HL3.out.blk.cell 9
      have c7 := HL3.out.blk.cell 7
      have c5 : w3.cell? ⟨g, 5, none⟩ = some (.slice (some ⟨b, 0, none⟩) n c) := by
        have := HL3.out.blk.cell 5
        rw [HSV.out, ← HN.out] at this; exact this
      clear hd3 hm3 f9 f7 b0 b1 b3 b5 b7
      by_cases hre : re = 0
      · have e1 : Hid (m.flush s = (rs, { m with safe := m.st.length }, 0)) := Lib.hid (by rw [HM.out]; exact if_pos hre)
        subst hre
        go_wp2_with fail
        go_ret
        refine ⟨by rw [e1.out]; rfl, ?_, ?_⟩
        · rw [e1.out]
          refine ⟨HDS.out.setLog HD2.out 7 _, ?_, H.out.sep, H.out.pl⟩
          refine HL3.out.put 7 _ _ ⟨H.out.lg.ok.first, H.out.lg.ok.count, H.out.lg.ok.run, H.out.lg.ok.st, Nat.le_refl _, H.out.lg.ok.begs⟩ rfl rfl ?_
          rw [← HN.out]; rfl
        · exact (HM3.out.mono (fun k _ e => .inl e)).setCell (p := ⟨g, 7, none⟩) (fun _ => .inr rfl) _
      · have e1 : Hid (m.flush s = (rs, { m with dead := true }, re)) := Lib.hid (by rw [HM.out]; exact if_neg hre)
        go_wp2_with fail
        go_ret
        refine ⟨by rw [e1.out]; rfl, ?_, ?_⟩
        · rw [e1.out]
          refine ⟨HDS.out.setLog HD2.out 9 _, ?_, H.out.sep, H.out.pl⟩
          exact HL3.out.put 9 _ _ ⟨H.out.lg.ok.first, H.out.lg.ok.count, H.out.lg.ok.run, H.out.lg.ok.st, H.out.lg.ok.safe, H.out.lg.ok.begs⟩ rfl rfl rfl
        · exact (HM3.out.mono (fun k _ e => .inl e)).setCell (p := ⟨g, 9, none⟩) (fun _ => .inr rfl) _
end Go.Proofs.Ytplkdcegfpiofaa

/-
  The walk of the log's Reset.
-/
namespace Go.Proofs.Ytplkdcegfpiofaa
open Go.RowKit Go.Maps
set_option linter.unusedVariables false

/-- A log that begins a new run. -/
def LG.anew (m : LG) : LG := ⟨m.first, m.count, m.most + 1, m.most + 1, [], [], 0, true, m.dead⟩
/-- Reset: the disk and the log behind it, and what it answers. -/
def LG.reset (m : LG) (s : DS) : DS × LG × Int :=
  if m.dead = true then (s, m, 91) else if 274877906944 ≤ m.most then (s, m, 90)
  else if (DS.save (m.most + 1) m.first [] 1 0 s).2 = 0 then ((DS.save (m.most + 1) m.first [] 1 0 s).1, m.anew, 0)
  else ((DS.save (m.most + 1) m.first [] 1 0 s).1, { m with dead := true }, (DS.save (m.most + 1) m.first [] 1 0 s).2)

set_option maxRecDepth 100000 in
set_option maxHeartbeats 1000000 in
theorem Reset_any (w : World) (p sb mb g B : Nat) (pl : Option Nat) (s : DS) (sv bv : Value) (m : LG) (h : WalAt w p sb mb pl s g B sv bv m) (hst : s.steps < 1000000000000000) :
    Calls Try.prog 37 #[.pointer (some ⟨g, 0, none⟩)] w fun e w' => e = .returned (.int .i64 (m.reset s).2.2) ∧ (∃ sv' bv', WalAt w' p sb mb pl (m.reset s).1 g B sv' bv' (m.reset s).2.1) ∧ Mod (OwnW p sb mb g) w w' := by
  have a9 := h.lg.blk.cell 9
  have H := Lib.hid h
  have HST := Lib.hid hst
  clear h hst
  cases hd : m.dead with
  | true =>
    have e1 : Hid (m.reset s = (s, m, 91)) := Lib.hid (by unfold LG.reset; rw [if_pos hd])
    rw [hd] at a9
    clear hd
    go_enter Try.func37, Try.ntmps37
    go_wp2_with fail
    go_ret
    exact ⟨by rw [e1.out]; rfl, by rw [e1.out]; exact ⟨_, _, H.out⟩, Mod.refl _ _⟩
  | false =>
    rw [hd] at a9
    have HD := Lib.hid hd
    have a4 := H.out.lg.blk.cell 4
    obtain ⟨t, ht⟩ : ∃ t, t = m.most := ⟨_, rfl⟩
    rw [← ht] at a4
    have HT := Lib.hid ht
    by_cases hm : 274877906944 ≤ t
    · have e1 : Hid (m.reset s = (s, m, 90)) := Lib.hid (by unfold LG.reset; rw [if_neg (by rw [hd]; simp), if_pos (by rw [← ht]; exact hm)])
      have hmi : (274877906944 : Int) ≤ (t : Int) := by omega
      clear hd ht
      go_enter Try.func37, Try.ntmps37
      go_wp2_with fail
      go_ret
      exact ⟨by rw [e1.out]; rfl, by rw [e1.out]; exact ⟨_, _, H.out⟩, Mod.refl _ _⟩
    · have hmi : ¬ (274877906944 : Int) ≤ (t : Int) := by omega
      obtain ⟨u, hu⟩ : ∃ u : Nat, u = t + 1 := ⟨_, rfl⟩
      have hui : (t : Int) + 1 = (u : Int) := by omega
      have hu2 : u < 9223372036854775808 := by omega
      have hu3 : u ≤ 274877906944 := by omega
      obtain ⟨r, hr⟩ : ∃ r, r = DS.save (m.most + 1) m.first [] 1 0 s := ⟨_, rfl⟩
      have a0 := H.out.lg.blk.cell 0
      have a1 := H.out.lg.blk.cell 1
      have hfi := H.out.lg.ok.first
      obtain ⟨f, hf⟩ : ∃ f, f = m.first := ⟨_, rfl⟩
      have hf2 : f ≤ 4096 := by omega
      rw [← hf] at a1
      have HR : Hid (r = DS.save u f [] 1 0 s) := Lib.hid (by rw [hr, hf, hu, ht])
      have HU : Hid (u = m.most + 1) := Lib.hid (by rw [hu, ht])
      have hglt := H.out.lg.lt
      have HM : Hid (m.reset s = if r.2 = 0 then (r.1, m.anew, 0) else (r.1, { m with dead := true }, r.2)) := Lib.hid (by unfold LG.reset; rw [← hr, if_neg (by rw [hd]; simp), if_neg (by rw [← ht]; exact hm)])
      clear hd ht hr hf hfi hu
      go_enter Try.func37, Try.ntmps37
      go_wp2_with fail
      obtain ⟨W2, hbw, hW⟩ : ∃ W2, Below w.heap.size w W2 ∧ W2 = w.drew := ⟨_, below_drewN (Below.refl _ _) 1, rfl⟩
      have HBW := Lib.hid hbw
      have b0 : W2.cell? ⟨g, 0, none⟩ = some (.pointer (some ⟨p, 0, none⟩)) := (hbw.cell (p := ⟨g, 0, none⟩) hglt).trans a0
      have b1 : W2.cell? ⟨g, 1, none⟩ = some (.int .i64 (f : Int)) := (hbw.cell (p := ⟨g, 1, none⟩) hglt).trans a1
      have HD2 : Hid (WalAt W2 p sb mb pl s g B sv bv m) := Lib.hid (H.out.below hbw)
      clear hbw a0 a1 a4 a9
      refine still_tail_at 9 W2 hW (by kernel_rfl) (by kernel_rfl) ?_
      clear hW
      simp only [List.take_succ_cons, List.take_zero, List.drop_succ_cons, List.drop_zero]
      iterate 9 still_step
      try refine wpStill_nil ?_
      go_wp2_with fail
      refine (save_nil W2 p sb mb pl s f u HD2.out.dk HST.out (by omega) hu2).mono ?_
      rw [← HR.out]
      rintro e w3 ⟨rfl, hd3, hm3⟩
      obtain ⟨rs, re⟩ := r
      have HDS : Hid (DiskAt w3 p sb mb pl rs) := Lib.hid hd3
      have HL3 : Hid (LogAt w3 p g B sv bv m) := Lib.hid (HD2.out.log hm3)
      have HM3 : Hid (Mod (Own p sb mb) w w3) := Lib.hid ((Mod.of_below HBW.out _).trans' hm3)
      have f3 := HL3.out.blk.frozen 3
      have f4 := HL3.out.blk.frozen 4
      have f5 := HL3.out.blk.frozen 5
      have f6 := HL3.out.blk.frozen 6
      have f7 := HL3.out.blk.frozen 7
      have f8 := HL3.out.blk.frozen 8
      have f9 := HL3.out.blk.frozen 9
      have c3 := HL3.out.blk.cell 3
      have c4 := HL3.out.blk.cell 4
      have c5 := HL3.out.blk.cell 5
      have c6 := HL3.out.blk.cell 6
      have c7 := HL3.out.blk.cell 7
      have c8 := HL3.out.blk.cell 8
      have c9 := HL3.out.blk.cell 9
      clear hd3 hm3 b0 b1
      by_cases hre : re = 0
      · have e1 : Hid (m.reset s = (rs, m.anew, 0)) := Lib.hid (by rw [HM.out]; exact if_pos hre)
        subst hre
        clear c9 f9
        go_wp2_with fail
        go_ret
        have hmm := (HM3.out.mono (S' := OwnW p sb mb g) (fun k _ e => .inl e))
        refine ⟨by rw [e1.out]; rfl, ?_, ?_⟩
        · rw [e1.out]
          have hset := ((((((HL3.out.blk.set_ 3 (.int .i64 (u : Int))).set_ 4 (.int .i64 (u : Int))).set_ 8 (.bool true)).set_ 5 (.slice none 0 0)).set_ 6 (.slice none 0 0)).set_ 7 (.int .i64 0))
          refine ⟨.slice none 0 0, .slice none 0 0, (((((HDS.out.setLog HD2.out 3 _).setLog HD2.out 4 _).setLog HD2.out 8 _).setLog HD2.out 5 _).setLog HD2.out 6 _).setLog HD2.out 7 _, ⟨⟨H.out.lg.ok.first, H.out.lg.ok.count, ?_, ?_, ?_, ?_⟩, ?_, OB.nil _ _, OK.nil _ _, by simp [Value.ownBlock], by simp [Value.ownBlock], .inl rfl, H.out.lg.base⟩, H.out.sep, ?_⟩
          · unfold LG.anew; dsimp only; rw [← HU.out]; omega
          · unfold LG.anew; simp
          · unfold LG.anew; simp
          · unfold LG.anew; simp
          · unfold LG.anew
            dsimp only
            rw [← HU.out]
            exact hset
          · intro b hb hk
            refine H.out.pl b hb ?_
            rcases hk with hk | hk | hk
            · exact .inl hk
            · cases hk
            · cases hk
        · exact (((((hmm.setCell (p := ⟨g, 3, none⟩) (fun _ => .inr rfl) _).setCell (p := ⟨g, 4, none⟩) (fun _ => .inr rfl) _).setCell (p := ⟨g, 8, none⟩) (fun _ => .inr rfl) _).setCell (p := ⟨g, 5, none⟩) (fun _ => .inr rfl) _).setCell (p := ⟨g, 6, none⟩) (fun _ => .inr rfl) _).setCell (p := ⟨g, 7, none⟩) (fun _ => .inr rfl) _
      · have e1 : Hid (m.reset s = (rs, { m with dead := true }, re)) := Lib.hid (by rw [HM.out]; exact if_neg hre)
        clear c3 c4 c5 c6 c7 c8 f3 f4 f5 f6 f7 f8 hui hu2 hu3 hmi hm HM
        go_wp2_with fail
        go_ret
        refine ⟨by rw [e1.out]; rfl, ?_, ?_⟩
        · rw [e1.out]
          refine ⟨sv, bv, HDS.out.setLog HD2.out 9 _, ?_, H.out.sep, H.out.pl⟩
          exact HL3.out.put 9 _ _ ⟨H.out.lg.ok.first, H.out.lg.ok.count, H.out.lg.ok.run, H.out.lg.ok.st, H.out.lg.ok.safe, H.out.lg.ok.begs⟩ rfl rfl rfl
        · exact (HM3.out.mono (fun k _ e => .inl e)).setCell (p := ⟨g, 9, none⟩) (fun _ => .inr rfl) _
end Go.Proofs.Ytplkdcegfpiofaa
