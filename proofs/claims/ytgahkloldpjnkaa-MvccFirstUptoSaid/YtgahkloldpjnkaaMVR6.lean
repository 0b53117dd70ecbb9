/-
  The walk of skeinref14's Commit.
-/
import Derived.Test.YtgahkloldpjnkaaMVR5
import Derived.Deep.RegionHeld3
namespace Go.Proofs.Ytgahkloldpjnkaa
open Go.RowKit Go.Maps
set_option linter.unusedVariables false

theorem win_ok {M : MV} (h : M.Ok) {n : Int} {x : Tx} (hl : M.live? n = some x) (hlast : M.last < 1099511627776) : ((M.win n).over n).Ok := by
  have h0 := h.last
  have e := over_win hl
  have h1 : (M.win n).live? n = some { x with at_ := M.last + 1 } := by rw [win_live hl, if_pos rfl]
  have hx := h.tx x (live_mem hl)
  refine ⟨by rw [e]; dsimp only; omega, ?_, ?_, ?_, by rw [e]; simpa using h.count⟩
  · intro z hz
    rw [e] at hz ⊢
    dsimp only at hz ⊢
    rcases mem_set hz with rfl | hz
    · dsimp only; omega
    · have := h.tx z hz; omega
  · intro z hz r hr
    rw [e] at hz
    dsimp only at hz
    rcases mem_set hz with rfl | hz
    · exact h.refs x (live_mem hl) r hr
    · exact h.refs z hz r hr
  · refine Nat.le_trans ((nums_nodup _).length_le_of_subset fun k hk => ?_) h.few
    rw [mem_nums, over_live h1] at hk
    rw [mem_nums]
    split at hk
    · cases hk
    · rename_i hne
      rw [win_live hl, if_neg hne] at hk
      exact hk

theorem six {w : World} {g x : Nat} {t t' : TypeId} {a b c d e f : Value} (h1 : Blk w g t #[a, b]) (h2 : Blk w x t' #[c, d, e, f]) : w.cell? ⟨g, 0, none⟩ = some a ∧ w.cell? ⟨g, 1, none⟩ = some b ∧ w.cell? ⟨x, 0, none⟩ = some c ∧ w.cell? ⟨x, 1, none⟩ = some d ∧ w.cell? ⟨x, 2, none⟩ = some e ∧ w.cell? ⟨x, 3, none⟩ = some f :=
  ⟨h1.cell 0, h1.cell 1, h2.cell 0, h2.cell 1, h2.cell 2, h2.cell 3⟩

theorem Blk.far2 {w : World} {g b : Nat} {t : TypeId} {cs : Array Value} (h : Blk w g t cs) (hne : g ≠ b) (u v : Value) : Blk ((w.setCell ⟨b, 0, none⟩ u).setCell ⟨b, 1, none⟩ v) g t cs := (h.far (p := ⟨b, 0, none⟩) hne u).far (p := ⟨b, 1, none⟩) hne v

set_option maxRecDepth 100000 in
set_option maxHeartbeats 2000000 in
theorem rCommit_any (w : World) (v : Value) (xs : List TxV) (M : MV) (h : RTab w v xs M) (n : Int) :
    Calls Try.prog 27 #[rtV v M.last, .int .i64 n] w (RefOut w (M.commit n) [.int .i64 (M.commitT n), .int .i64 (M.tryE n)]) := by
  obtain ⟨A, c, rfl, hc1, hc2, hc3, HC⟩ := h.row.rk.open_
  have hsm := h.small.1
  have hlen := h.len
  rw [hlen] at hsm
  obtain ⟨N, hN⟩ : ∃ N, N = xs.length := ⟨_, rfl⟩
  rw [← hN] at hc1 hc3 hsm
  obtain ⟨W, hW⟩ : ∃ W, W = (w.alloc (.cells #[.slice A N c, .int .i64 M.last] 28)).alloc (.cells #[.slice none 0 0, .int .i64 0] 28) := ⟨_, rfl⟩
  have hbW : Below w.heap.size w W := by rw [hW]; exact ((Below.refl _ _).alloc (Nat.le_refl _) _).alloc (by simp) _
  have hk1 : Blk W w.heap.size 28 #[.slice A N c, .int .i64 M.last] := by rw [hW]; exact (Blk.new _ _ _).alloc _
  have hk2 : Blk W (w.heap.size + 1) 28 #[.slice none 0 0, .int .i64 0] := by
    rw [hW]
    have := Blk.new (w.alloc (.cells #[.slice A N c, .int .i64 M.last] 28)) 28 #[.slice none 0 0, .int .i64 0]
    simpa using this
  have z0 : W.cell? ⟨w.heap.size, 0, none⟩ = some (.slice A N c) := hk1.cell 0
  have z1 : W.cell? ⟨w.heap.size, 1, none⟩ = some (.int .i64 M.last) := hk1.cell 1
  have hiN := rTry_any W (.slice A xs.length c) xs M (h.below hbW) n
  rw [← hN] at hiN ⊢
  have HN := Lib.hid hN
  have H := Lib.hid h
  have HBW := Lib.hid hbW
  have HK1 := Lib.hid hk1
  have HK2 := Lib.hid hk2
  have HW := Lib.hid hW
  clear hN h hlen hbW hk1 hk2 hW
  unfold rtV at hiN ⊢
  go_enter Try.func27, Try.ntmps27
  go_wp2_with fail
  rw [← HW.out]
  refine hiN.mono ?_
  rintro e w1 ⟨rfl, hb1⟩
  have HB1 := Lib.hid (HBW.out.trans (hb1.mono HBW.out.size))
  have HL1 := Lib.hid (HK1.out.below hb1 HK1.out.lt)
  have HL2 := Lib.hid (HK2.out.below hb1 HK2.out.lt)
  clear hb1 z0 z1 hiN
  have z0 : w1.cell? ⟨w.heap.size, 0, none⟩ = some (.slice A N c) := HL1.out.cell 0
  have z1 : w1.cell? ⟨w.heap.size, 1, none⟩ = some (.int .i64 M.last) := HL1.out.cell 1
  have p0 : w1.cell? ⟨w.heap.size + 1, 0, none⟩ = some (.slice none 0 0) := HL2.out.cell 0
  have p1 : w1.cell? ⟨w.heap.size + 1, 1, none⟩ = some (.int .i64 0) := HL2.out.cell 1
  have f0 : w1.frozen? ⟨w.heap.size + 1, 0, none⟩ = false := HL2.out.frozen 0
  have f1 : w1.frozen? ⟨w.heap.size + 1, 1, none⟩ = false := HL2.out.frozen 1
  have hw1 : w.heap.size + 1 < w1.heap.size := HL2.out.lt
  have hw0 : w.heap.size < w1.heap.size := by omega
  cases hl : M.live? n with
  | none =>
    have HE : Hid (M.tryE n = 141) := Lib.hid (tryE_none hl)
    have HM : Hid (M.commit n = M) := Lib.hid (commit_none hl)
    have HC0 : Hid (M.commitT n = 0) := Lib.hid (by unfold MV.commitT; rw [tryE_none hl]; rfl)
    rw [tryE_none hl]
    clear hl
    go_wp2_with fail
    have bE := two_below HB1.out (show w.heap.size ≤ w.heap.size + 1 by omega) (.slice A N c) (.int .i64 M.last)
    have kE := two_set HL2.out (.slice A N c) (.int .i64 M.last)
    generalize (w1.setCell ⟨w.heap.size + 1, 0, none⟩ (.slice A N c)).setCell ⟨w.heap.size + 1, 1, none⟩ (.int .i64 M.last) = WE at *
    have r0 : WE.cell? ⟨w.heap.size + 1, 0, none⟩ = some (.slice A N c) := kE.cell 0
    have r1 : WE.cell? ⟨w.heap.size + 1, 1, none⟩ = some (.int .i64 M.last) := kE.cell 1
    refine bodyPost_ret (v := .tuple #[.agg #[.slice A N c, .int .i64 M.last], .int .i64 0, .int .i64 141]) (by simp [results, Try.results27, go_sem, r0, r1]) rfl ?_
    refine ⟨.slice A N c, xs, by rw [HM.out, HE.out, HC0.out]; rfl, ?_, bE⟩
    rw [HM.out, HN.out]
    exact H.out.below bE
  | some x =>
    have g141 := tryE_live hl
    have hlt := live_lt hl
    obtain ⟨j, rfl⟩ : ∃ j : Nat, n = (j : Int) + 1 := ⟨(n - 1).toNat, by omega⟩
    obtain ⟨hj, hjx, hjl⟩ := H.out.some_ hl
    have hjN : j < N := by have := HN.out; omega
    have hj3 : (j : Int) ≤ 400000 := by omega
    obtain ⟨b1, o1, rfl, hb1, hx1⟩ := HC.out j hj
    obtain ⟨u0, u1, u2, u3⟩ := cellTx hx1
    have x0 : w1.cell? ⟨b1, o1 + j * 4, none⟩ = _ := (HB1.out.cell (p := ⟨b1, o1 + j * 4, none⟩) hb1).trans u0
    have x1 : w1.cell? ⟨b1, o1 + j * 4 + 1, none⟩ = _ := (HB1.out.cell (p := ⟨b1, o1 + j * 4 + 1, none⟩) hb1).trans u1
    have x2 : w1.cell? ⟨b1, o1 + j * 4 + 2, none⟩ = _ := (HB1.out.cell (p := ⟨b1, o1 + j * 4 + 2, none⟩) hb1).trans u2
    have x3 : w1.cell? ⟨b1, o1 + j * 4 + 3, none⟩ = _ := (HB1.out.cell (p := ⟨b1, o1 + j * 4 + 3, none⟩) hb1).trans u3
    have HRJ := Lib.hid (H.out.row.refs _ (List.getElem_mem hj))
    obtain ⟨xv, hxv⟩ : ∃ xv, xv = xs[j] := ⟨_, rfl⟩
    rw [← hxv] at x0 x1 x2 x3 HRJ hjx
    obtain ⟨q0, qA, qn, qc, ql, qa, qr⟩ := xv
    dsimp only at x0 x1 x2 x3
    have HX : Hid (x = ⟨q0, qr, ql, qa⟩) := Lib.hid hjx.symm
    have HL := Lib.hid hl
    have HJ := Lib.hid hj
    clear hxv hl hlt hjx hjl u0 u1 u2 u3 hx1 hj
    obtain ⟨te, hte⟩ : ∃ te, te = M.tryE ((j : Int) + 1) := ⟨_, rfl⟩
    rw [← hte] at g141 ⊢
    have HTE := Lib.hid hte
    clear hte
    have hqn : qn = qr.length := by obtain ⟨_, _, e, _⟩ := HRJ.out.open_; injection e
    have HQN := Lib.hid hqn
    clear hqn
    by_cases hz : te = 0
    · subst hz
      by_cases hq0 : qn = 0
      · have hqr : qr = [] := List.eq_nil_of_length_eq_zero (by rw [← HQN.out]; exact hq0)
        have HCM : Hid (M.commit ((j : Int) + 1) = M.over ((j : Int) + 1)) := Lib.hid (by unfold MV.commit MV.refsOf; rw [HL.out, HX.out]; dsimp only; rw [if_neg (fun h => h.2 hqr)])
        have HCT : Hid (M.commitT ((j : Int) + 1) = q0) := Lib.hid (by unfold MV.commitT MV.refsOf MV.startOf; rw [HL.out, HX.out, ← HTE.out]; dsimp only; rw [if_pos rfl, if_pos hqr])
        subst hq0
        go_wp2_with fail
        obtain ⟨WB, hWB⟩ : ∃ WB, WB = w1.alloc (.cells #[.int .i64 q0, .slice qA 0 qc, .bool false, .int .i64 qa] 73) := ⟨_, rfl⟩
        rw [← hWB]
        have hBB : Below w.heap.size w WB := by rw [hWB]; exact HB1.out.alloc (by omega) _
        have hB4 : Blk WB (w.heap.size + 1) 28 #[.slice none 0 0, .int .i64 0] := by rw [hWB]; exact HL2.out.alloc _
        have hBT : Blk WB w.heap.size 28 #[.slice (some ⟨b1, o1, none⟩) N c, .int .i64 M.last] := by rw [hWB]; exact HL1.out.alloc _
        have hBX : Blk WB w1.heap.size 73 #[.int .i64 q0, .slice qA 0 qc, .bool false, .int .i64 qa] := by rw [hWB]; exact Blk.new _ _ _
        have hput := rPut_any WB.drew (.slice (some ⟨b1, o1, none⟩) xs.length c) xs M.last ((H.out.row.below (w' := WB.drew) (below_drewD hBB))).rk (by rw [← HN.out]; exact hsm) j HJ.out ⟨q0, qA, 0, qc, false, qa, qr⟩
        rw [← HN.out] at hput
        unfold rtV txVal at hput
        clear z0 z1 p0 p1 f0 f1 x0 x1 x2 x3
        have HBBX := Lib.hid hBB
        have HB4 := Lib.hid hB4
        have HBX := Lib.hid hBX
        have HBT := Lib.hid hBT
        have hne4 : w1.heap.size ≠ w.heap.size + 1 := by omega
        have hne5 : w.heap.size ≠ w.heap.size + 1 := by omega
        have HS0 := Lib.hid (six hBT.drew hBX.drew)
        clear hWB hBB hB4 hBT hBX
        go_region_held3 (fun w' => w'.cell? ⟨w.heap.size, 0, none⟩ = some (.slice (some ⟨b1, o1, none⟩) N c) ∧ w'.cell? ⟨w.heap.size, 1, none⟩ = some (.int .i64 M.last) ∧ w'.cell? ⟨w1.heap.size, 0, none⟩ = some (.int .i64 q0) ∧ w'.cell? ⟨w1.heap.size, 1, none⟩ = some (.slice qA 0 qc) ∧ w'.cell? ⟨w1.heap.size, 2, none⟩ = some (.bool false) ∧ w'.cell? ⟨w1.heap.size, 3, none⟩ = some (.int .i64 qa)) (first | exact HS0.out | exact HS2.out | exact HS3.out _ _)
          (first | (go_at_call 34; refine hput.mono ?_; rintro e w2 ⟨v', rfl, hrow, hb2⟩; have HB2 : Hid (Below w.heap.size w w2) := Lib.hid ((below_drewD HBBX.out).trans (hb2.mono (below_drewD HBBX.out).size)); have HM2 := Lib.hid (HB4.out.drew.below hb2 HB4.out.drew.lt); have HS2 := Lib.hid (six (HBT.out.drew.below hb2 HBT.out.drew.lt) (HBX.out.drew.below hb2 HBX.out.drew.lt)); have HS3 := Lib.hid (fun u v => six ((HBT.out.drew.below hb2 HBT.out.drew.lt).far2 hne5 u v) ((HBX.out.drew.below hb2 HBX.out.drew.lt).far2 hne4 u v)); obtain ⟨ys, hys⟩ : ∃ ys, ys = xs.set j ⟨q0, qA, 0, qc, false, qa, qr⟩ := ⟨_, rfl⟩; rw [← hys] at hrow; have HYS := Lib.hid hys; have HROW := Lib.hid hrow; clear hys; obtain ⟨vA, vc, hv, -, -, -, -⟩ := (HROW.out.rk encTx_len (Nat.le_refl _)).open_; subst hv; have p0 : w2.cell? ⟨w.heap.size + 1, 0, none⟩ = some (.slice none 0 0) := HM2.out.cell 0; have p1 : w2.cell? ⟨w.heap.size + 1, 1, none⟩ = some (.int .i64 0) := HM2.out.cell 1; have f0 : w2.frozen? ⟨w.heap.size + 1, 0, none⟩ = false := HM2.out.frozen 0; have f1 : w2.frozen? ⟨w.heap.size + 1, 1, none⟩ = false := HM2.out.frozen 1; clear hrow hb2))
        go_wp2_with fail
        obtain ⟨kE, rE, bE⟩ := ref_fin (last := M.last) HB2.out HM2.out (by omega) HROW.out (fun y hy => by
          rw [HYS.out] at hy
          rcases List.mem_or_eq_of_mem_set hy with hy | rfl
          · exact old_row (H.out.row.refs y hy) HB2.out (by omega)
          · exact old_row HRJ.out HB2.out (by omega))
        generalize (w2.setCell ⟨w.heap.size + 1, 0, none⟩ (.slice vA ys.length vc)).setCell ⟨w.heap.size + 1, 1, none⟩ (.int .i64 (M.last)) = WE at *
        have r0 : WE.cell? ⟨w.heap.size + 1, 0, none⟩ = some (.slice vA ys.length vc) := kE.cell 0
        have r1 : WE.cell? ⟨w.heap.size + 1, 1, none⟩ = some (.int .i64 (M.last)) := kE.cell 1
        refine bodyPost_ret (v := .tuple #[.agg #[.slice vA ys.length vc, .int .i64 (M.last)], .int .i64 q0, .int .i64 0]) (by simp [results, Try.results27, go_sem, r0, r1]) rfl ?_
        refine ⟨.slice vA ys.length vc, ys, by rw [HCM.out, HCT.out, ← HTE.out, over_last]; rfl, ?_, bE⟩
        rw [HCM.out]
        refine ⟨rE, ?_, over_ok H.out.ok _, by rw [len_over, bulk_over]; exact H.out.small⟩
        rw [over_eq HL.out, HYS.out, ← put_txs H.out.txs]
        unfold MV.put
        rw [show ((j : Int) + 1 - 1).toNat = j by omega, HX.out]
        rfl
      · have hq1 : (qn == 0) = false := by simpa using hq0
        have hqi : ((qn : Int) == 0) = false := by simpa using hq0
        have hlast : M.last < 1099511627776 := by
          have h1 := H.out.ok.last
          by_cases e : M.last = 1099511627776
          · exfalso
            have h2 := HTE.out
            unfold MV.tryE at h2
            rw [HL.out] at h2
            dsimp only at h2
            split at h2
            · omega
            · rw [if_pos ⟨by rw [HX.out]; intro e; exact hq0 (by have e' : qr = [] := e; rw [HQN.out, e']; rfl), e⟩] at h2; omega
          · omega
        have hl0 := H.out.ok.last.1
        have g1 : w1.frozen? ⟨w.heap.size, 1, none⟩ = false := HL1.out.frozen 1
        have hqr : qr ≠ [] := fun e => hq0 (by rw [HQN.out, e]; rfl)
        have HCM : Hid (M.commit ((j : Int) + 1) = (M.win ((j : Int) + 1)).over ((j : Int) + 1)) := Lib.hid (by unfold MV.commit MV.refsOf; rw [HL.out, ← HTE.out, HX.out]; dsimp only; rw [if_pos ⟨rfl, hqr⟩])
        have HCT : Hid (M.commitT ((j : Int) + 1) = M.last + 1) := Lib.hid (by unfold MV.commitT MV.refsOf MV.startOf; rw [HL.out, HX.out, ← HTE.out]; dsimp only; rw [if_pos rfl, if_neg hqr])
        have HLA : Hid ((M.commit ((j : Int) + 1)).last = M.last + 1) := Lib.hid (by rw [HCM.out, over_win HL.out])
        go_wp2_with fail
        obtain ⟨WB, hWB⟩ : ∃ WB, WB = (w1.setCell ⟨w.heap.size, 1, none⟩ (.int .i64 (M.last + 1))).alloc (.cells #[.int .i64 q0, .slice qA qn qc, .bool false, .int .i64 (M.last + 1)] 73) := ⟨_, rfl⟩
        rw [← hWB]
        have hsz : (w1.setCell ⟨w.heap.size, 1, none⟩ (.int .i64 (M.last + 1))).heap.size = w1.heap.size := by simp
        have hBB : Below w.heap.size w WB := by rw [hWB]; exact (HB1.out.setCell (p := ⟨w.heap.size, 1, none⟩) (Nat.le_refl _) _).alloc (by rw [hsz]; omega) _
        have hB4 : Blk WB (w.heap.size + 1) 28 #[.slice none 0 0, .int .i64 0] := by rw [hWB]; exact (HL2.out.far (p := ⟨w.heap.size, 1, none⟩) (show w.heap.size + 1 ≠ w.heap.size by omega) _).alloc _
        have hBT : Blk WB w.heap.size 28 #[.slice (some ⟨b1, o1, none⟩) N c, .int .i64 (M.last + 1)] := by
          rw [hWB]
          have := (HL1.out.set_ 1 (.int .i64 (M.last + 1))).alloc (.cells #[.int .i64 q0, .slice qA qn qc, .bool false, .int .i64 (M.last + 1)] 73)
          simpa using this
        have hBX : Blk WB w1.heap.size 73 #[.int .i64 q0, .slice qA qn qc, .bool false, .int .i64 (M.last + 1)] := by
          rw [hWB]
          have := Blk.new (w1.setCell ⟨w.heap.size, 1, none⟩ (.int .i64 (M.last + 1))) 73 #[.int .i64 q0, .slice qA qn qc, .bool false, .int .i64 (M.last + 1)]
          rw [hsz] at this
          exact this
        have hput := rPut_any WB.drew (.slice (some ⟨b1, o1, none⟩) xs.length c) xs (M.last + 1) ((H.out.row.below (w' := WB.drew) (below_drewD hBB))).rk (by rw [← HN.out]; exact hsm) j HJ.out ⟨q0, qA, qn, qc, false, M.last + 1, qr⟩
        rw [← HN.out] at hput
        unfold rtV txVal at hput
        clear z0 z1 p0 p1 f0 f1 x0 x1 x2 x3 g1
        have HBBX := Lib.hid hBB
        have HB4 := Lib.hid hB4
        have HBX := Lib.hid hBX
        have HBT := Lib.hid hBT
        have hne4 : w1.heap.size ≠ w.heap.size + 1 := by omega
        have hne5 : w.heap.size ≠ w.heap.size + 1 := by omega
        have HS0 := Lib.hid (six hBT.drew hBX.drew)
        clear hWB hBB hB4 hBT hBX hsz
        go_region_held3 (fun w' => w'.cell? ⟨w.heap.size, 0, none⟩ = some (.slice (some ⟨b1, o1, none⟩) N c) ∧ w'.cell? ⟨w.heap.size, 1, none⟩ = some (.int .i64 (M.last + 1)) ∧ w'.cell? ⟨w1.heap.size, 0, none⟩ = some (.int .i64 q0) ∧ w'.cell? ⟨w1.heap.size, 1, none⟩ = some (.slice qA qn qc) ∧ w'.cell? ⟨w1.heap.size, 2, none⟩ = some (.bool false) ∧ w'.cell? ⟨w1.heap.size, 3, none⟩ = some (.int .i64 (M.last + 1))) (first | exact HS0.out | exact HS2.out | exact HS3.out _ _)
          (first | (go_at_call 34; refine hput.mono ?_; rintro e w2 ⟨v', rfl, hrow, hb2⟩; have HB2 : Hid (Below w.heap.size w w2) := Lib.hid ((below_drewD HBBX.out).trans (hb2.mono (below_drewD HBBX.out).size)); have HM2 := Lib.hid (HB4.out.drew.below hb2 HB4.out.drew.lt); have HS2 := Lib.hid (six (HBT.out.drew.below hb2 HBT.out.drew.lt) (HBX.out.drew.below hb2 HBX.out.drew.lt)); have HS3 := Lib.hid (fun u v => six ((HBT.out.drew.below hb2 HBT.out.drew.lt).far2 hne5 u v) ((HBX.out.drew.below hb2 HBX.out.drew.lt).far2 hne4 u v)); obtain ⟨ys, hys⟩ : ∃ ys, ys = xs.set j ⟨q0, qA, qn, qc, false, M.last + 1, qr⟩ := ⟨_, rfl⟩; rw [← hys] at hrow; have HYS := Lib.hid hys; have HROW := Lib.hid hrow; clear hys; obtain ⟨vA, vc, hv, -, -, -, -⟩ := (HROW.out.rk encTx_len (Nat.le_refl _)).open_; subst hv; have p0 : w2.cell? ⟨w.heap.size + 1, 0, none⟩ = some (.slice none 0 0) := HM2.out.cell 0; have p1 : w2.cell? ⟨w.heap.size + 1, 1, none⟩ = some (.int .i64 0) := HM2.out.cell 1; have f0 : w2.frozen? ⟨w.heap.size + 1, 0, none⟩ = false := HM2.out.frozen 0; have f1 : w2.frozen? ⟨w.heap.size + 1, 1, none⟩ = false := HM2.out.frozen 1; clear hrow hb2))
        go_wp2_with fail
        obtain ⟨kE, rE, bE⟩ := ref_fin (last := M.last + 1) HB2.out HM2.out (by omega) HROW.out (fun y hy => by
          rw [HYS.out] at hy
          rcases List.mem_or_eq_of_mem_set hy with hy | rfl
          · exact old_row (H.out.row.refs y hy) HB2.out (by omega)
          · exact old_row HRJ.out HB2.out (by omega))
        generalize (w2.setCell ⟨w.heap.size + 1, 0, none⟩ (.slice vA ys.length vc)).setCell ⟨w.heap.size + 1, 1, none⟩ (.int .i64 (M.last + 1)) = WE at *
        have r0 : WE.cell? ⟨w.heap.size + 1, 0, none⟩ = some (.slice vA ys.length vc) := kE.cell 0
        have r1 : WE.cell? ⟨w.heap.size + 1, 1, none⟩ = some (.int .i64 (M.last + 1)) := kE.cell 1
        refine bodyPost_ret (v := .tuple #[.agg #[.slice vA ys.length vc, .int .i64 (M.last + 1)], .int .i64 (M.last + 1), .int .i64 0]) (by simp [results, Try.results27, go_sem, r0, r1]) rfl ?_
        refine ⟨.slice vA ys.length vc, ys, by rw [HLA.out, HCT.out, ← HTE.out]; rfl, ?_, bE⟩
        refine ⟨rE, ?_, by rw [HCM.out]; exact win_ok H.out.ok HL.out hlast, by rw [len_commit, bulk_commit]; exact H.out.small⟩
        rw [HCM.out, over_win HL.out, HYS.out, ← put_txs H.out.txs]
        dsimp only
        rw [show ((j : Int) + 1 - 1).toNat = j by omega, HX.out]
        rfl
    · have gz : (te != 0) = true := by simpa using hz
      have HCM : Hid (M.commit ((j : Int) + 1) = M.over ((j : Int) + 1)) := Lib.hid (by unfold MV.commit; rw [← HTE.out, if_neg (fun h => hz h.1)])
      have HCT : Hid (M.commitT ((j : Int) + 1) = 0) := Lib.hid (by unfold MV.commitT; rw [← HTE.out, if_neg hz])
      go_wp2_with fail
      have HBB : Hid (Below w.heap.size w (w1.alloc (.cells #[.int .i64 q0, .slice qA qn qc, .bool false, .int .i64 qa] 73))) := Lib.hid (HB1.out.alloc (by omega) _)
      have hput := rPut_any _ (.slice (some ⟨b1, o1, none⟩) xs.length c) xs M.last (H.out.row.below HBB.out).rk (by rw [← HN.out]; exact hsm) j HJ.out ⟨q0, qA, qn, qc, false, qa, qr⟩
      rw [← HN.out] at hput
      refine hput.mono ?_
      rintro e w2 ⟨v', rfl, hrow, hb2⟩
      have HB2 := Lib.hid (HBB.out.trans (hb2.mono HBB.out.size))
      have HM2 := Lib.hid ((HL2.out.alloc _).below hb2 (HL2.out.alloc _).lt)
      obtain ⟨ys, hys⟩ : ∃ ys, ys = xs.set j ⟨q0, qA, qn, qc, false, qa, qr⟩ := ⟨_, rfl⟩
      rw [← hys] at hrow
      have HYS := Lib.hid hys
      have HROW := Lib.hid hrow
      clear hb2 hput hrow p0 p1 f0 f1 hys
      have p0 : w2.cell? ⟨w.heap.size + 1, 0, none⟩ = some (.slice none 0 0) := HM2.out.cell 0
      have p1 : w2.cell? ⟨w.heap.size + 1, 1, none⟩ = some (.int .i64 0) := HM2.out.cell 1
      have f0 : w2.frozen? ⟨w.heap.size + 1, 0, none⟩ = false := HM2.out.frozen 0
      have f1 : w2.frozen? ⟨w.heap.size + 1, 1, none⟩ = false := HM2.out.frozen 1
      obtain ⟨vA, vc, rfl, -, -, -, -⟩ := (HROW.out.rk encTx_len (Nat.le_refl _)).open_
      unfold rtV
      go_wp2_with fail
      obtain ⟨kE, rE, bE⟩ := ref_fin (last := M.last) HB2.out HM2.out (by omega) HROW.out (fun y hy => by
        rw [HYS.out] at hy
        rcases List.mem_or_eq_of_mem_set hy with hy | rfl
        · exact old_row (H.out.row.refs y hy) HB2.out (by omega)
        · exact old_row HRJ.out HB2.out (by omega))
      generalize (w2.setCell ⟨w.heap.size + 1, 0, none⟩ (.slice vA ys.length vc)).setCell ⟨w.heap.size + 1, 1, none⟩ (.int .i64 M.last) = WE at *
      have r0 : WE.cell? ⟨w.heap.size + 1, 0, none⟩ = some (.slice vA ys.length vc) := kE.cell 0
      have r1 : WE.cell? ⟨w.heap.size + 1, 1, none⟩ = some (.int .i64 M.last) := kE.cell 1
      refine bodyPost_ret (v := .tuple #[.agg #[.slice vA ys.length vc, .int .i64 M.last], .int .i64 0, .int .i64 te]) (by simp [results, Try.results27, go_sem, r0, r1]) rfl ?_
      refine ⟨.slice vA ys.length vc, ys, by rw [HCM.out, HCT.out, ← HTE.out, over_last]; rfl, ?_, bE⟩
      rw [HCM.out]
      refine ⟨rE, ?_, over_ok H.out.ok _, by rw [len_over, bulk_over]; exact H.out.small⟩
      rw [over_eq HL.out, HYS.out, ← put_txs H.out.txs]
      unfold MV.put
      rw [show ((j : Int) + 1 - 1).toNat = j by omega, HX.out]
      rfl

end Go.Proofs.Ytgahkloldpjnkaa
