/-
  The walk of skeinref14's Begin.
-/
import Derived.Test.YtgahkloldpjnkaaMVR6
namespace Go.Proofs.Ytgahkloldpjnkaa
open Go.RowKit Go.Maps
set_option linter.unusedVariables false

theorem begin_ok {M : MV} (h : M.Ok) (hc : M.txns.length < 4611686018427387904) : M.begin.Ok := by
  unfold MV.begin
  split
  · rename_i hf
    refine ⟨h.last, ?_, ?_, ?_, by simp [MV.add]; omega⟩
    · intro x hx
      rcases List.mem_append.1 hx with hx | hx
      · exact h.tx x hx
      · rw [List.mem_singleton.1 hx]; have := h.last; dsimp only [MV.add]; omega
    · intro x hx r hr
      rcases List.mem_append.1 hx with hx | hx
      · exact h.refs x hx r hr
      · rw [List.mem_singleton.1 hx] at hr; cases hr
    · rw [nums_add, List.length_append]; simp; omega
  · exact h

theorem begin_last (M : MV) : M.begin.last = M.last := by
  unfold MV.begin
  split
  · rfl
  · rfl

set_option maxRecDepth 100000 in
set_option maxHeartbeats 2000000 in
theorem rBegin_any (w : World) (v : Value) (xs : List TxV) (M : MV) (h : RTab w v xs M) (hroom : M.txns.length + 1 ≤ 400000) :
    Calls Try.prog 25 #[rtV v M.last] w (RefOut w M.begin [.int .i64 M.beginN, .int .i64 M.beginE]) := by
  obtain ⟨A, c, rfl, hc1, hc2, hc3, HC⟩ := h.row.rk.open_
  have hsm := h.small.1
  have hlen := h.len
  rw [hlen] at hsm
  obtain ⟨N, hN⟩ : ∃ N, N = xs.length := ⟨_, rfl⟩
  rw [← hN] at hc1 hc3 hsm
  obtain ⟨W, hW⟩ : ∃ W, W = (w.alloc (.cells #[.slice A N c, .int .i64 M.last] 28)).alloc (.cells #[.slice none 0 0, .int .i64 0] 28) := ⟨_, rfl⟩
  have hbW : Below w.heap.size w W := by rw [hW]; exact ((Below.refl _ _).alloc (Nat.le_refl _) _).alloc (by simp) _
  have hk1 : Blk W w.heap.size 28 #[.slice A N c, .int .i64 M.last] := by rw [hW]; exact (Blk.new _ _ _).alloc _
  have hk2 : Blk W (w.heap.size + 1) 28 #[.slice none 0 0, .int .i64 0] := by
    rw [hW]
    have := Blk.new (w.alloc (.cells #[.slice A N c, .int .i64 M.last] 28)) 28 #[.slice none 0 0, .int .i64 0]
    simpa using this
  have z0 : W.cell? ⟨w.heap.size, 0, none⟩ = some (.slice A N c) := hk1.cell 0
  have z1 : W.cell? ⟨w.heap.size, 1, none⟩ = some (.int .i64 M.last) := hk1.cell 1
  have hiN := rLive_any W (.slice A xs.length c) xs M (h.below hbW)
  rw [← hN] at hiN ⊢
  have HN := Lib.hid hN
  have H := Lib.hid h
  have HLN := Lib.hid hlen
  have HBW := Lib.hid hbW
  have HK1 := Lib.hid hk1
  have HK2 := Lib.hid hk2
  have HW := Lib.hid hW
  have HRM : Hid (N + 1 ≤ 400000) := Lib.hid (by rw [hN, ← hlen]; exact hroom)
  clear hN h hlen hbW hk1 hk2 hW hroom
  unfold rtV at hiN ⊢
  go_enter Try.func25, Try.ntmps25
  go_wp2_with fail
  rw [← HW.out]
  refine hiN.mono ?_
  rintro e w1 ⟨lv, rfl, hli, hb1⟩
  obtain ⟨lA, lc, rfl, -, -, -, -⟩ := (hli.rk encI_len (Nat.le_refl _)).open_
  have HB1 := Lib.hid (HBW.out.trans (hb1.mono HBW.out.size))
  have HL1 := Lib.hid (HK1.out.below hb1 HK1.out.lt)
  have HL2 := Lib.hid (HK2.out.below hb1 HK2.out.lt)
  clear hb1 z0 z1 hiN hli
  have z0 : w1.cell? ⟨w.heap.size, 0, none⟩ = some (.slice A N c) := HL1.out.cell 0
  have z1 : w1.cell? ⟨w.heap.size, 1, none⟩ = some (.int .i64 M.last) := HL1.out.cell 1
  have p0 : w1.cell? ⟨w.heap.size + 1, 0, none⟩ = some (.slice none 0 0) := HL2.out.cell 0
  have p1 : w1.cell? ⟨w.heap.size + 1, 1, none⟩ = some (.int .i64 0) := HL2.out.cell 1
  have f0 : w1.frozen? ⟨w.heap.size + 1, 0, none⟩ = false := HL2.out.frozen 0
  have f1 : w1.frozen? ⟨w.heap.size + 1, 1, none⟩ = false := HL2.out.frozen 1
  have hw1 : w.heap.size + 1 < w1.heap.size := HL2.out.lt
  have hw0 : w.heap.size < w1.heap.size := by omega
  have hfew := H.out.ok.few
  obtain ⟨nl, hnl⟩ : ∃ nl, nl = M.nums.length := ⟨_, rfl⟩
  rw [← hnl] at hfew ⊢
  by_cases hf : nl < 8
  · have HM : Hid (M.begin = M.add) := Lib.hid (by unfold MV.begin; rw [if_pos (by omega)])
    have HE : Hid (M.beginE = 0) := Lib.hid (by unfold MV.beginE; rw [if_pos (by omega)])
    have HNN : Hid (M.beginN = (N : Int) + 1) := Lib.hid (by unfold MV.beginN; rw [if_pos (by omega), HLN.out, HN.out])
    clear hnl p0 p1 f0 f1
    have hl0 : OK encTx 4 73 (w1.alloc (.cells #[] 73)) (w.heap.size + 2) (.slice (some ⟨w1.heap.size, 0, none⟩) 0 0) (xs.take 0) := ⟨by simp, World.ownsRow_made w1 #[] 0 (by omega) (by simp) (by simp)⟩
    have HL0 := Lib.hid hl0
    clear hl0
    go_wp2_with fail
    go_loopw [5, 6] (fun l i wr => ∃ (m : Nat) (vA : Option Addr) (vn vc : Nat), m ≤ N ∧ i = .int .i64 m ∧ l = .slice vA vn vc ∧ Hid (OK encTx 4 73 wr (w.heap.size + 2) (.slice vA vn vc) (xs.take m)) ∧ Hid (Blk wr w.heap.size 28 #[.slice A N c, .int .i64 M.last]) ∧ Hid (Blk wr (w.heap.size + 1) 28 #[.slice none 0 0, .int .i64 0]) ∧ Hid (Below w.heap.size w wr)) (fun _ i _ => N - (intOf i).toNat)
    case atStart => exact ⟨0, _, _, _, Nat.zero_le _, rfl, rfl, HL0, Lib.hid (HL1.out.alloc _), Lib.hid (HL2.out.alloc _), Lib.hid (HB1.out.alloc (by omega) _)⟩
    case round =>
      obtain ⟨m, vA, vn, vc, hm, rfl, rfl, HLI, HB1r, HB2r, HB⟩ := hrel
      clear z0 z1
      have hw3 := HB2r.out.lt
      have hw4 : w.heap.size < wr.heap.size := by omega
      have z0 : wr.cell? ⟨w.heap.size, 0, none⟩ = some (.slice A N c) := HB1r.out.cell 0
      have z1 : wr.cell? ⟨w.heap.size, 1, none⟩ = some (.int .i64 M.last) := HB1r.out.cell 1
      have HLNm : Hid ((xs.take m).length + 1 ≤ 1000000) := Lib.hid (by rw [List.length_take]; have := HRM.out; have := HN.out; omega)
      have hb3 : w.heap.size + 2 ≤ wr.heap.size := by omega
      by_cases hmo : m < N
      · have hmx : m < xs.length := by rw [← HN.out]; exact hmo
        obtain ⟨b2, o2, rfl, hb2, hx2⟩ := HC.out m hmx
        obtain ⟨u0, u1, u2, u3⟩ := cellTx hx2
        have HT : Hid (xs.take (m + 1) = xs.take m ++ [xs[m]]) := Lib.hid (List.take_succ_eq_append_getElem hmx)
        have x0 : wr.cell? ⟨b2, o2 + m * 4, none⟩ = _ := (HB.out.cell (p := ⟨b2, o2 + m * 4, none⟩) hb2).trans u0
        have x1 : wr.cell? ⟨b2, o2 + m * 4 + 1, none⟩ = _ := (HB.out.cell (p := ⟨b2, o2 + m * 4 + 1, none⟩) hb2).trans u1
        have x2 : wr.cell? ⟨b2, o2 + m * 4 + 2, none⟩ = _ := (HB.out.cell (p := ⟨b2, o2 + m * 4 + 2, none⟩) hb2).trans u2
        have x3 : wr.cell? ⟨b2, o2 + m * 4 + 3, none⟩ = _ := (HB.out.cell (p := ⟨b2, o2 + m * 4 + 3, none⟩) hb2).trans u3
        obtain ⟨x, hx⟩ : ∃ x, x = xs[m] := ⟨_, rfl⟩
        rw [← hx] at x0 x1 x2 x3 HT
        obtain ⟨q0, qA, qn, qc, ql, qa, qr⟩ := x
        dsimp only at x0 x1 x2 x3
        clear hx u0 u1 u2 u3 hx2
        go_wp2_with (first
          | (at_builtin; refine wpList_appE etTx encTx_len encTx_one (y := ⟨q0, qA, qn, qc, ql, qa, qr⟩) rfl (.tmp 20) (.tmp 26) rfl rfl (HLI.out.alloc _) wr.heap.size rfl (oneTx wr ⟨q0, qA, qn, qc, ql, qa, qr⟩ _) HLNm.out (Nat.le_trans hb3 (base1 (Nat.le_refl _) _)) ?_; intro v6 w6 k1 k2 k3; obtain ⟨A6, c6, rfl, -, -, -, -⟩ := (k1.rk encTx_len (Nat.le_refl _)).open_; have K1 := Lib.hid k1; have K2 := Lib.hid k2; clear k1 k2 k3))
        go_roundw
        case rel =>
          have k1 := K1.out
          have e1 : (xs.take m ++ [(⟨q0, qA, qn, qc, ql, qa, qr⟩ : TxV)]).length = min m xs.length + 1 := by simp
          rw [e1] at k1
          rw [← HT.out] at k1
          exact ⟨m + 1, _, _, _, by omega, by go_num, rfl, Lib.hid k1, Lib.hid (HB1r.out.low HLI.out (by omega) K2.out), Lib.hid (HB2r.out.low HLI.out (by omega) K2.out), Lib.hid (below_low HB.out (by omega) HLI.out K2.out)⟩
        case measure => simp [intOf]; omega
      · have e : xs.take m = xs := List.take_of_length_le (by rw [← HN.out]; omega)
        have hli := HLI.out
        rw [e] at hli
        have HLI2 := Lib.hid hli
        have HLX : Hid (xs.length + 1 ≤ 1000000) := Lib.hid (by have := HRM.out; have := HN.out; omega)
        clear e hli
        go_wp2_with (first
          | (at_builtin; refine wpList_appE etTx encTx_len encTx_one (y := ⟨M.last, none, 0, 0, true, -1, []⟩) rfl (.tmp 28) (.tmp 32) rfl rfl (HLI2.out.alloc _) wr.heap.size rfl (oneTx wr ⟨M.last, none, 0, 0, true, -1, []⟩ _) HLX.out (Nat.le_trans hb3 (base1 (Nat.le_refl _) _)) ?_; intro v6 w6 k1 k2 k3; obtain ⟨ys, hys⟩ : ∃ ys, ys = xs ++ [(⟨M.last, none, 0, 0, true, -1, []⟩ : TxV)] := ⟨_, rfl⟩; rw [← hys] at k1; have HYS := Lib.hid hys; clear hys; obtain ⟨A6, c6, hv6, -, -, -, -⟩ := (k1.rk encTx_len (Nat.le_refl _)).open_; subst hv6; have K1 := Lib.hid k1; have K2 := Lib.hid k2; have hk1 := HB1r.out.low HLI2.out (by omega) k2; have hk2 := HB2r.out.low HLI2.out (by omega) k2; have t1 := hk1.cell 1; have g0 := hk1.frozen 0; have s0 := hk2.cell 0; have s1 := hk2.cell 1; have s2 := hk2.frozen 0; have s3 := hk2.frozen 1; have t0 := hk1.cell 0; have HT1 := Lib.hid hk1; have HT2 := Lib.hid hk2; clear k1 k2 k3 hk1 hk2))
        have hb6 := (below_low HB.out (by omega) HLI2.out K2.out).setCell (p := ⟨w.heap.size, 0, none⟩) (Nat.le_refl _) (.slice A6 ys.length c6)
        have kk := HT2.out.far (p := ⟨w.heap.size, 0, none⟩) (show w.heap.size + 1 ≠ w.heap.size by omega) (.slice A6 ys.length c6)
        have oo := K1.out.setBlk HT1.out (by decide) 0 (.slice A6 ys.length c6)
        obtain ⟨kE, rE, bE⟩ := ref_fin (last := M.last) hb6 kk (by omega) oo (fun y hy => by
          rw [HYS.out] at hy
          rcases List.mem_append.1 hy with hy | hy
          · exact old_row (H.out.row.refs y hy) hb6 (by omega)
          · rw [List.mem_singleton.1 hy]; exact ⟨RK.nil _ _, .inl rfl⟩)
        generalize ((w6.setCell ⟨w.heap.size, 0, none⟩ (.slice A6 ys.length c6)).setCell ⟨w.heap.size + 1, 0, none⟩ (.slice A6 ys.length c6)).setCell ⟨w.heap.size + 1, 1, none⟩ (.int .i64 M.last) = WE at *
        have r0 : WE.cell? ⟨w.heap.size + 1, 0, none⟩ = some (.slice A6 ys.length c6) := kE.cell 0
        have r1 : WE.cell? ⟨w.heap.size + 1, 1, none⟩ = some (.int .i64 M.last) := kE.cell 1
        have hyl : ys.length = xs.length + 1 := by rw [HYS.out]; simp
        have hN2 := HN.out
        have hL2 := HLN.out
        have hR2 := HRM.out
        refine bodyPost_ret (v := .tuple #[.agg #[.slice A6 ys.length c6, .int .i64 M.last], .int .i64 M.beginN, .int .i64 M.beginE]) (by rw [HE.out, HNN.out]; simp [results, Try.results25, go_sem, r0, r1, hyl, hN2]) rfl ?_
        refine ⟨.slice A6 ys.length c6, ys, by rw [begin_last]; rfl, ⟨rE, ?_, begin_ok H.out.ok (by omega), ?_, ?_⟩, bE⟩
        · rw [HM.out, HYS.out]; simp [MV.add, H.out.txs, TxV.tx]
        · rw [HM.out]; simp [MV.add]; omega
        · rw [bulk_begin]; exact H.out.small.2
  · have hf8 : nl = 8 := by omega
    have HM : Hid (M.begin = M) := Lib.hid (by unfold MV.begin; rw [if_neg (by omega)])
    have HE : Hid (M.beginE = 142) := Lib.hid (by unfold MV.beginE; rw [if_neg (by omega)])
    have HNN : Hid (M.beginN = 0) := Lib.hid (by unfold MV.beginN; rw [if_neg (by omega)])
    subst hf8
    clear hnl
    go_wp2_with fail
    have bE := two_below HB1.out (show w.heap.size ≤ w.heap.size + 1 by omega) (.slice A N c) (.int .i64 M.last)
    have kE := two_set HL2.out (.slice A N c) (.int .i64 M.last)
    generalize (w1.setCell ⟨w.heap.size + 1, 0, none⟩ (.slice A N c)).setCell ⟨w.heap.size + 1, 1, none⟩ (.int .i64 M.last) = WE at *
    have r0 : WE.cell? ⟨w.heap.size + 1, 0, none⟩ = some (.slice A N c) := kE.cell 0
    have r1 : WE.cell? ⟨w.heap.size + 1, 1, none⟩ = some (.int .i64 M.last) := kE.cell 1
    refine bodyPost_ret (v := .tuple #[.agg #[.slice A N c, .int .i64 M.last], .int .i64 0, .int .i64 142]) (by simp [results, Try.results25, go_sem, r0, r1]) rfl ?_
    refine ⟨.slice A N c, xs, by rw [HM.out, HE.out, HNN.out]; rfl, ?_, bE⟩
    rw [HM.out, HN.out]
    exact H.out.below bE

end Go.Proofs.Ytgahkloldpjnkaa
