/-
  The walks of the disk's step, Write, Sync.
-/
import Derived.Test.YtbagmmncjmbboaaGreatD5
namespace Go.Proofs.YtbagmmncjmbboaaGreat
open Go.RowKit Go.Maps
set_option linter.unusedVariables false



set_option maxRecDepth 100000 in
set_option maxHeartbeats 2000000 in
theorem step_write (w : World) (p sb mb : Nat) (pl : Option Nat) (s : DS) (qd qp qi : Nat) (i : Int) (v : Value) (l : List Nat) (h : DiskAt w p sb mb pl s) (hst : s.steps < 4611686018427387904) (hd : Blk w qd 22 #[v]) (hp : Blk w qp 26 #[.pointer (some ⟨p, 0, none⟩)]) (hq : Blk w qi 3 #[.int .i64 i]) (hv : RB w w.heap.size v l) (hvo : Off (fun k => k = p) v l) (hl : l.length ≤ 512) (hi : s.isSec i = true) :
    Calls Tryz.prog 100 #[.pointer (some ⟨p, 0, none⟩), .func (.func 119) #[] #[.pointer (some ⟨qd, 0, none⟩), .pointer (some ⟨qp, 0, none⟩), .pointer (some ⟨qi, 0, none⟩)]] w fun e w' => e = .returned (.int .i64 s.code) ∧ DiskAt w' p sb mb pl (s.step (DS.put i (pad l))) ∧ Mod (Own p sb mb) w w' := by
  have hlt := h.lt
  have hne := h.ne
  have a3 := h.blk.cell 3
  have f3 := h.blk.frozen 3
  have H := Lib.hid h
  have hdp : qd ≠ p := hd.ne_ h.blk (by decide)
  have hpp : qp ≠ p := hp.ne_ h.blk (by decide)
  have hip : qi ≠ p := hq.ne_ h.blk (by decide)
  have HN : Hid (qd ≠ p ∧ qp ≠ p ∧ qi ≠ p) := ⟨hdp, hpp, hip⟩
  have HD := Lib.hid hd
  have HP := Lib.hid hp
  have HQ := Lib.hid hq
  have HV := Lib.hid hv
  have HVO := Lib.hid hvo
  have HI : Hid (s.tick.isSec i = true) := hi
  clear hdp hpp hip hd hp hq hv hvo hi
  obtain ⟨F, hF⟩ : ∃ F, F = s.plan ((s.steps : Int) + 1) := ⟨_, rfl⟩
  have hfate : s.fate = F := by rw [hF]; rfl
  have HFT := Lib.hid hfate
  obtain ⟨W, hWd, hWm, hWe⟩ : ∃ W, DiskAt W p sb mb pl s.tick ∧ Mod (fun k => k = p) w W ∧ W = w.setCell ⟨p, 3, none⟩ (.int .i64 ((s.steps : Int) + 1)) :=
    ⟨_, h.tick, (Mod.refl (fun k => k = p) w).setCell (p := ⟨p, 3, none⟩) (fun _ => rfl) _, rfl⟩
  have hlk : ∀ nq, (Instr.lookup 133 (.map pl) (.int .i64 ((s.steps : Int) + 1)) false).run Tryz.prog (W.drewN nq) = .ok (.int .i64 F) (W.drewN nq) := by
    intro nq
    have hd : DiskAt (W.drewN nq) p sb mb pl s.tick := hWd.mod ((Mod.refl (fun _ => False) W).drewN nq) id id id (fun _ _ => id)
    have := hd.look ((s.steps : Int) + 1) (by constructor <;> omega)
    rw [hF]; exact this
  have w2 : W.cell? ⟨p, 2, none⟩ = some (.map pl) := hWd.blk.cell 2
  have w3 : W.cell? ⟨p, 3, none⟩ = some (.int .i64 ((s.steps : Int) + 1)) := by have := hWd.blk.cell 3; rw [this]; rfl
  have w4 : W.cell? ⟨p, 4, none⟩ = some (.bool s.off) := hWd.blk.cell 4
  have f4 : W.frozen? ⟨p, 4, none⟩ = false := hWd.blk.frozen 4
  have HWD := Lib.hid hWd
  have HWM := Lib.hid hWm
  have HWE := Lib.hid hWe
  clear hF hfate h hWd hWm hWe
  by_cases c1 : F = 1
  · subst c1
    have hst1 : s.step (DS.put i (pad l)) = s.tick := by unfold DS.step; rw [HFT.out]; rfl
    have hco : s.code = 71 := by unfold DS.code; rw [HFT.out]; rfl
    have HS1 := Lib.hid hst1
    have HC1 := Lib.hid hco
    clear hst1 hco
    go_enter Tryz.func100, Tryz.ntmps100
    go_wp2_with fail
    rw [← HWE.out]
    go_quiet (fail)
    go_wp2_with fail
    go_ret
    refine ⟨by rw [HC1.out]; rfl, ?_, ?_⟩
    · rw [HS1.out]; exact HWD.out.mod ((Mod.refl (fun _ => False) W).drewN nq) id id id (fun _ _ => id)
    · exact (HWM.out.mono (fun k _ e => .inl e)).drewN nq
  · by_cases c2 : F = 2
    · subst c2
      have hst1 : s.step (DS.put i (pad l)) = { s.tick with off := true } := by unfold DS.step; rw [HFT.out]; rfl
      have hco : s.code = 70 := by unfold DS.code; rw [HFT.out]; rfl
      have HS1 := Lib.hid hst1
      have HC1 := Lib.hid hco
      clear hst1 hco
      go_enter Tryz.func100, Tryz.ntmps100
      go_wp2_with fail
      rw [← HWE.out]
      go_quiet (fail)
      go_wp2_with fail
      go_ret
      refine ⟨by rw [HC1.out]; rfl, ?_, ?_⟩
      · rw [HS1.out]; exact (HWD.out.mod ((Mod.refl (fun _ => False) W).drewN nq) id id id (fun _ _ => id)).power true
      · exact ((HWM.out.mono (fun k _ e => .inl e)).drewN nq).setCell (p := ⟨p, 4, none⟩) (fun _ => .inl rfl) _
    · have d1 : (F == 1) = false := by simpa using c1
      have d2 : (F == 2) = false := by simpa using c2
      by_cases c3 : F = 3
      · subst c3
        have hst1 : s.step (DS.put i (pad l)) = { (DS.put i (pad l)) s.tick with off := true } := by unfold DS.step; rw [HFT.out]; rfl
        have hco : s.code = 70 := by unfold DS.code; rw [HFT.out]; rfl
        have HS1 := Lib.hid hst1
        have HC1 := Lib.hid hco
        clear hst1 hco c1 c2 d1 d2
        go_enter Tryz.func100, Tryz.ntmps100
        go_wp2_with fail
        rw [← HWE.out]
        go_quiet (fail)
        go_wp2_with fail
        have hq : Mod (fun k => k = p) w (W.drewN nq) := HWM.out.drewN nq
        refine (writeF_any _ p sb mb qd qp qi pl s.tick i v l (HWD.out.mod ((Mod.refl (fun _ => False) W).drewN nq) id id id (fun _ _ => id)) (HD.out.mod hq HN.out.1) (HP.out.mod hq HN.out.2.1) (HQ.out.mod hq HN.out.2.2) (HV.out.mod hq HVO.out) hl HI.out).mono ?_
        rintro e W1 ⟨rfl, hd1, hm1⟩
        have HD1 := Lib.hid hd1
        have HM1 := Lib.hid hm1
        have b4 : ∃ y, W1.cell? ⟨p, 4, none⟩ = some (.bool y) := ⟨_, hd1.blk.cell 4⟩
        obtain ⟨y4, b4⟩ := b4
        have f4 : W1.frozen? ⟨p, 4, none⟩ = false := hd1.blk.frozen 4
        clear hd1 hm1 w2 w3 w4 hlk
        go_wp2_with fail
        go_ret
        refine ⟨by rw [HC1.out]; rfl, ?_, ?_⟩
        · rw [HS1.out]; exact HD1.out.power true
        · exact ((hq.mono (S' := Own p sb mb) (fun k _ e => .inl e)).trans HM1.out (fun k _ e => e)).setCell (p := ⟨p, 4, none⟩) (fun _ => .inl rfl) _
      · have hst1 : s.step (DS.put i (pad l)) = (DS.put i (pad l)) s.tick := by unfold DS.step; rw [HFT.out, if_neg c1, if_neg c2, if_neg c3]
        have hco : s.code = 0 := by unfold DS.code; rw [HFT.out, if_neg c1, if_neg c2, if_neg c3]
        have d3 : (F == 3) = false := by simpa using c3
        have HS1 := Lib.hid hst1
        have HC1 := Lib.hid hco
        clear hst1 hco
        go_enter Tryz.func100, Tryz.ntmps100
        go_wp2_with fail
        rw [← HWE.out]
        go_quiet (fail)
        go_wp2_with fail
        have hq : Mod (fun k => k = p) w (W.drewN nq) := HWM.out.drewN nq
        refine (writeF_any _ p sb mb qd qp qi pl s.tick i v l (HWD.out.mod ((Mod.refl (fun _ => False) W).drewN nq) id id id (fun _ _ => id)) (HD.out.mod hq HN.out.1) (HP.out.mod hq HN.out.2.1) (HQ.out.mod hq HN.out.2.2) (HV.out.mod hq HVO.out) hl HI.out).mono ?_
        rintro e W1 ⟨rfl, hd1, hm1⟩
        have HD1 := Lib.hid hd1
        have HM1 := Lib.hid hm1
        clear hd1 hm1 w2 w3 w4 f4 hlk
        go_wp2_with fail
        go_ret
        refine ⟨by rw [HC1.out]; rfl, ?_, ?_⟩
        · rw [HS1.out]; exact HD1.out
        · exact (hq.mono (S' := Own p sb mb) (fun k _ e => .inl e)).trans HM1.out (fun k _ e => e)

set_option maxRecDepth 100000 in
set_option maxHeartbeats 2000000 in
theorem step_sync (w : World) (p sb mb : Nat) (pl : Option Nat) (s : DS) (qp : Nat) (h : DiskAt w p sb mb pl s) (hst : s.steps < 4611686018427387904) (hp : Blk w qp 26 #[.pointer (some ⟨p, 0, none⟩)]) :
    Calls Tryz.prog 100 #[.pointer (some ⟨p, 0, none⟩), .func (.func 101) #[] #[.pointer (some ⟨qp, 0, none⟩)]] w fun e w' => e = .returned (.int .i64 s.code) ∧ DiskAt w' p sb mb pl (s.step DS.settle) ∧ Mod (Own p sb mb) w w' := by
  have hlt := h.lt
  have hne := h.ne
  have a3 := h.blk.cell 3
  have f3 := h.blk.frozen 3
  have H := Lib.hid h
  have hpp : qp ≠ p := hp.ne_ h.blk (by decide)
  have hpm : qp ≠ mb := by obtain ⟨n, hm⟩ := h.pend; exact (hm.cells_ne hp).symm
  have HN : Hid (qp ≠ p ∧ qp ≠ mb) := ⟨hpp, hpm⟩
  have HP := Lib.hid hp
  clear hpp hpm hp
  obtain ⟨F, hF⟩ : ∃ F, F = s.plan ((s.steps : Int) + 1) := ⟨_, rfl⟩
  have hfate : s.fate = F := by rw [hF]; rfl
  have HFT := Lib.hid hfate
  obtain ⟨W, hWd, hWm, hWe⟩ : ∃ W, DiskAt W p sb mb pl s.tick ∧ Mod (fun k => k = p) w W ∧ W = w.setCell ⟨p, 3, none⟩ (.int .i64 ((s.steps : Int) + 1)) :=
    ⟨_, h.tick, (Mod.refl (fun k => k = p) w).setCell (p := ⟨p, 3, none⟩) (fun _ => rfl) _, rfl⟩
  have hlk : ∀ nq, (Instr.lookup 133 (.map pl) (.int .i64 ((s.steps : Int) + 1)) false).run Tryz.prog (W.drewN nq) = .ok (.int .i64 F) (W.drewN nq) := by
    intro nq
    have hd : DiskAt (W.drewN nq) p sb mb pl s.tick := hWd.mod ((Mod.refl (fun _ => False) W).drewN nq) id id id (fun _ _ => id)
    have := hd.look ((s.steps : Int) + 1) (by constructor <;> omega)
    rw [hF]; exact this
  have w2 : W.cell? ⟨p, 2, none⟩ = some (.map pl) := hWd.blk.cell 2
  have w3 : W.cell? ⟨p, 3, none⟩ = some (.int .i64 ((s.steps : Int) + 1)) := by have := hWd.blk.cell 3; rw [this]; rfl
  have w4 : W.cell? ⟨p, 4, none⟩ = some (.bool s.off) := hWd.blk.cell 4
  have f4 : W.frozen? ⟨p, 4, none⟩ = false := hWd.blk.frozen 4
  have HWD := Lib.hid hWd
  have HWM := Lib.hid hWm
  have HWE := Lib.hid hWe
  clear hF hfate h hWd hWm hWe
  by_cases c1 : F = 1
  · subst c1
    have hst1 : s.step DS.settle = s.tick := by unfold DS.step; rw [HFT.out]; rfl
    have hco : s.code = 71 := by unfold DS.code; rw [HFT.out]; rfl
    have HS1 := Lib.hid hst1
    have HC1 := Lib.hid hco
    clear hst1 hco
    go_enter Tryz.func100, Tryz.ntmps100
    go_wp2_with fail
    rw [← HWE.out]
    go_quiet (fail)
    go_wp2_with fail
    go_ret
    refine ⟨by rw [HC1.out]; rfl, ?_, ?_⟩
    · rw [HS1.out]; exact HWD.out.mod ((Mod.refl (fun _ => False) W).drewN nq) id id id (fun _ _ => id)
    · exact (HWM.out.mono (fun k _ e => .inl e)).drewN nq
  · by_cases c2 : F = 2
    · subst c2
      have hst1 : s.step DS.settle = { s.tick with off := true } := by unfold DS.step; rw [HFT.out]; rfl
      have hco : s.code = 70 := by unfold DS.code; rw [HFT.out]; rfl
      have HS1 := Lib.hid hst1
      have HC1 := Lib.hid hco
      clear hst1 hco
      go_enter Tryz.func100, Tryz.ntmps100
      go_wp2_with fail
      rw [← HWE.out]
      go_quiet (fail)
      go_wp2_with fail
      go_ret
      refine ⟨by rw [HC1.out]; rfl, ?_, ?_⟩
      · rw [HS1.out]; exact (HWD.out.mod ((Mod.refl (fun _ => False) W).drewN nq) id id id (fun _ _ => id)).power true
      · exact ((HWM.out.mono (fun k _ e => .inl e)).drewN nq).setCell (p := ⟨p, 4, none⟩) (fun _ => .inl rfl) _
    · have d1 : (F == 1) = false := by simpa using c1
      have d2 : (F == 2) = false := by simpa using c2
      by_cases c3 : F = 3
      · subst c3
        have hst1 : s.step DS.settle = { DS.settle s.tick with off := true } := by unfold DS.step; rw [HFT.out]; rfl
        have hco : s.code = 70 := by unfold DS.code; rw [HFT.out]; rfl
        have HS1 := Lib.hid hst1
        have HC1 := Lib.hid hco
        clear hst1 hco c1 c2 d1 d2
        go_enter Tryz.func100, Tryz.ntmps100
        go_wp2_with fail
        rw [← HWE.out]
        go_quiet (fail)
        go_wp2_with fail
        have hq : Mod (fun k => k = p) w (W.drewN nq) := HWM.out.drewN nq
        refine (syncF_any _ p sb mb qp pl s.tick (HWD.out.mod ((Mod.refl (fun _ => False) W).drewN nq) id id id (fun _ _ => id)) (HP.out.mod hq HN.out.1) HN.out.2).mono ?_
        rintro e W1 ⟨rfl, hd1, hm1⟩
        have HD1 := Lib.hid hd1
        have HM1 := Lib.hid hm1
        have b4 : ∃ y, W1.cell? ⟨p, 4, none⟩ = some (.bool y) := ⟨_, hd1.blk.cell 4⟩
        obtain ⟨y4, b4⟩ := b4
        have f4 : W1.frozen? ⟨p, 4, none⟩ = false := hd1.blk.frozen 4
        clear hd1 hm1 w2 w3 w4 hlk
        go_wp2_with fail
        go_ret
        refine ⟨by rw [HC1.out]; rfl, ?_, ?_⟩
        · rw [HS1.out]; exact HD1.out.power true
        · exact ((hq.mono (S' := Own p sb mb) (fun k _ e => .inl e)).trans HM1.out (fun k _ e => by rcases e with e | e; exact .inr (.inl e); exact .inr (.inr e))).setCell (p := ⟨p, 4, none⟩) (fun _ => .inl rfl) _
      · have hst1 : s.step DS.settle = DS.settle s.tick := by unfold DS.step; rw [HFT.out, if_neg c1, if_neg c2, if_neg c3]
        have hco : s.code = 0 := by unfold DS.code; rw [HFT.out, if_neg c1, if_neg c2, if_neg c3]
        have d3 : (F == 3) = false := by simpa using c3
        have HS1 := Lib.hid hst1
        have HC1 := Lib.hid hco
        clear hst1 hco
        go_enter Tryz.func100, Tryz.ntmps100
        go_wp2_with fail
        rw [← HWE.out]
        go_quiet (fail)
        go_wp2_with fail
        have hq : Mod (fun k => k = p) w (W.drewN nq) := HWM.out.drewN nq
        refine (syncF_any _ p sb mb qp pl s.tick (HWD.out.mod ((Mod.refl (fun _ => False) W).drewN nq) id id id (fun _ _ => id)) (HP.out.mod hq HN.out.1) HN.out.2).mono ?_
        rintro e W1 ⟨rfl, hd1, hm1⟩
        have HD1 := Lib.hid hd1
        have HM1 := Lib.hid hm1
        clear hd1 hm1 w2 w3 w4 f4 hlk
        go_wp2_with fail
        go_ret
        refine ⟨by rw [HC1.out]; rfl, ?_, ?_⟩
        · rw [HS1.out]; exact HD1.out
        · exact (hq.mono (S' := Own p sb mb) (fun k _ e => .inl e)).trans HM1.out (fun k _ e => by rcases e with e | e; exact .inr (.inl e); exact .inr (.inr e))

end Go.Proofs.YtbagmmncjmbboaaGreat
