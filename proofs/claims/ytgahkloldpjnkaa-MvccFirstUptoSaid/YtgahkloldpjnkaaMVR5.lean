/-
  The walk of skeinref14's Abort.
-/
import Derived.Test.YtgahkloldpjnkaaMVR4
namespace Go.Proofs.Ytgahkloldpjnkaa
open Go.RowKit Go.Maps
set_option linter.unusedVariables false

theorem over_ok {M : MV} (h : M.Ok) (n : Int) : (M.over n).Ok := by
  cases hl : M.live? n with
  | none => rw [over_none hl]; exact h
  | some x =>
    have hnums := over_nums hl
    have htx : ∀ z ∈ (M.over n).txns, z ∈ M.txns ∨ z = { x with live := false } := by
      intro z hz
      rw [over_eq hl] at hz
      exact (mem_set hz).symm
    have hlast : (M.over n).last = M.last := by rw [over_eq hl]; rfl
    refine ⟨by rw [hlast]; exact h.last, ?_, ?_, Nat.le_trans hnums h.few, by rw [len_over]; exact h.count⟩
    · intro z hz
      rw [hlast]
      rcases htx z hz with hz | rfl
      · exact h.tx z hz
      · exact h.tx x (live_mem hl)
    · intro z hz r hr'
      rcases htx z hz with hz | rfl
      · exact h.refs z hz r hr'
      · exact h.refs x (live_mem hl) r hr'

theorem over_last (M : MV) (n : Int) : (M.over n).last = M.last := by
  unfold MV.over
  split
  · rfl
  · rfl

theorem two_set {w1 : World} {b : Nat} {t : TypeId} {a0 a1 : Value} (h : Blk w1 b t #[a0, a1]) (u0 u1 : Value) : Blk ((w1.setCell ⟨b, 0, none⟩ u0).setCell ⟨b, 1, none⟩ u1) b t #[u0, u1] := by
  have := (h.set_ 0 u0).set_ 1 u1
  simpa using this

theorem two_below {w w1 : World} {b : Nat} (h : Below w.heap.size w w1) (hb : w.heap.size ≤ b) (u0 u1 : Value) : Below w.heap.size w ((w1.setCell ⟨b, 0, none⟩ u0).setCell ⟨b, 1, none⟩ u1) :=
  (h.setCell (p := ⟨b, 0, none⟩) hb u0).setCell (p := ⟨b, 1, none⟩) hb u1

/-- The row of the table with one transaction in another one's place. -/
theorem put_txs {xs : List TxV} {M : MV} (h : M.txns = xs.map TxV.tx) (j : Nat) (y : TxV) : M.txns.set j y.tx = (xs.set j y).map TxV.tx := by rw [List.map_set, h]

/-- What a call of the document's leaves. -/
def RefOut (w : World) (M' : MV) (es : List Value) (e : Ending) (w' : World) : Prop := ∃ v' xs', e = .returned (.tuple (rtV v' M'.last :: es).toArray) ∧ RTab w' v' xs' M' ∧ Below w.heap.size w w'

set_option maxRecDepth 100000 in
set_option maxHeartbeats 2000000 in
theorem rAbort_any (w : World) (v : Value) (xs : List TxV) (M : MV) (h : RTab w v xs M) (n : Int) :
    Calls Try.prog 28 #[rtV v M.last, .int .i64 n] w (RefOut w (M.over n) [.int .i64 (M.touchE n)]) := by
  obtain ⟨A, c, rfl, hc1, hc2, hc3, HC⟩ := h.row.rk.open_
  have hsm := h.small.1
  have hlen := h.len
  rw [hlen] at hsm
  obtain ⟨N, hN⟩ : ∃ N, N = xs.length := ⟨_, rfl⟩
  rw [← hN] at hc1 hc3 hsm
  obtain ⟨W, hW⟩ : ∃ W, W = (w.alloc (.cells #[.slice A N c, .int .i64 M.last] 28)).alloc (.cells #[.slice none 0 0, .int .i64 0] 28) := ⟨_, rfl⟩
  have hbW : Below w.heap.size w W := by rw [hW]; exact ((Below.refl _ _).alloc (Nat.le_refl _) _).alloc (by simp) _
  have hk1 : Blk W w.heap.size 28 #[.slice A N c, .int .i64 M.last] := by rw [hW]; exact (Blk.new _ _ _).alloc _
  have hk2 : Blk W (w.heap.size + 1) 28 #[.slice none 0 0, .int .i64 0] := by
    rw [hW]
    have := Blk.new (w.alloc (.cells #[.slice A N c, .int .i64 M.last] 28)) 28 #[.slice none 0 0, .int .i64 0]
    simpa using this
  have z0 : W.cell? ⟨w.heap.size, 0, none⟩ = some (.slice A N c) := hk1.cell 0
  have z1 : W.cell? ⟨w.heap.size, 1, none⟩ = some (.int .i64 M.last) := hk1.cell 1
  have hiN := rIs_any W (.slice A xs.length c) xs M (h.below hbW) n
  rw [← hN] at hiN ⊢
  have HN := Lib.hid hN
  have H := Lib.hid h
  have HBW := Lib.hid hbW
  have HK1 := Lib.hid hk1
  have HK2 := Lib.hid hk2
  have HW := Lib.hid hW
  clear hN h hlen hbW hk1 hk2 hW
  unfold rtV at hiN ⊢
  go_enter Try.func28, Try.ntmps28
  go_wp2_with fail
  rw [← HW.out]
  refine hiN.mono ?_
  rintro e w1 ⟨rfl, hb1⟩
  have HB1 := Lib.hid (HBW.out.trans (hb1.mono HBW.out.size))
  have HL1 := Lib.hid (HK1.out.below hb1 HK1.out.lt)
  have HL2 := Lib.hid (HK2.out.below hb1 HK2.out.lt)
  clear hb1 z0 z1 hiN
  have z0 : w1.cell? ⟨w.heap.size, 0, none⟩ = some (.slice A N c) := HL1.out.cell 0
  have z1 : w1.cell? ⟨w.heap.size, 1, none⟩ = some (.int .i64 M.last) := HL1.out.cell 1
  have p0 : w1.cell? ⟨w.heap.size + 1, 0, none⟩ = some (.slice none 0 0) := HL2.out.cell 0
  have p1 : w1.cell? ⟨w.heap.size + 1, 1, none⟩ = some (.int .i64 0) := HL2.out.cell 1
  have f0 : w1.frozen? ⟨w.heap.size + 1, 0, none⟩ = false := HL2.out.frozen 0
  have f1 : w1.frozen? ⟨w.heap.size + 1, 1, none⟩ = false := HL2.out.frozen 1
  have hw1 : w.heap.size + 1 < w1.heap.size := HL2.out.lt
  have hw0 : w.heap.size < w1.heap.size := by omega
  cases hl : M.live? n with
  | none =>
    have HE : Hid (M.touchE n = 141) := Lib.hid (touchE_none hl)
    have HM : Hid (M.over n = M) := Lib.hid (over_none hl)
    simp only [Option.isSome_none]
    clear hl
    go_wp2_with fail
    have bE := two_below HB1.out (show w.heap.size ≤ w.heap.size + 1 by omega) (.slice A N c) (.int .i64 M.last)
    have kE := two_set HL2.out (.slice A N c) (.int .i64 M.last)
    generalize (w1.setCell ⟨w.heap.size + 1, 0, none⟩ (.slice A N c)).setCell ⟨w.heap.size + 1, 1, none⟩ (.int .i64 M.last) = WE at *
    have r0 : WE.cell? ⟨w.heap.size + 1, 0, none⟩ = some (.slice A N c) := kE.cell 0
    have r1 : WE.cell? ⟨w.heap.size + 1, 1, none⟩ = some (.int .i64 M.last) := kE.cell 1
    refine bodyPost_ret (v := .tuple #[.agg #[.slice A N c, .int .i64 M.last], .int .i64 141]) (by simp [results, Try.results28, go_sem, r0, r1]) rfl ?_
    refine ⟨.slice A N c, xs, by rw [HM.out, HE.out]; rfl, ?_, bE⟩
    rw [HM.out, HN.out]
    exact H.out.below bE
  | some x =>
    have HE : Hid (M.touchE n = 0) := Lib.hid (touchE_live hl)
    simp only [Option.isSome_some]
    have hlt := live_lt hl
    obtain ⟨j, rfl⟩ : ∃ j : Nat, n = (j : Int) + 1 := ⟨(n - 1).toNat, by omega⟩
    obtain ⟨hj, hjx, hjl⟩ := H.out.some_ hl
    have hjN : j < N := by have := HN.out; omega
    have hj3 : (j : Int) ≤ 400000 := by omega
    obtain ⟨b1, o1, rfl, hb1, hx1⟩ := HC.out j hj
    obtain ⟨u0, u1, u2, u3⟩ := cellTx hx1
    have x0 : w1.cell? ⟨b1, o1 + j * 4, none⟩ = _ := (HB1.out.cell (p := ⟨b1, o1 + j * 4, none⟩) hb1).trans u0
    have x1 : w1.cell? ⟨b1, o1 + j * 4 + 1, none⟩ = _ := (HB1.out.cell (p := ⟨b1, o1 + j * 4 + 1, none⟩) hb1).trans u1
    have x2 : w1.cell? ⟨b1, o1 + j * 4 + 2, none⟩ = _ := (HB1.out.cell (p := ⟨b1, o1 + j * 4 + 2, none⟩) hb1).trans u2
    have x3 : w1.cell? ⟨b1, o1 + j * 4 + 3, none⟩ = _ := (HB1.out.cell (p := ⟨b1, o1 + j * 4 + 3, none⟩) hb1).trans u3
    have HRJ := Lib.hid (H.out.row.refs _ (List.getElem_mem hj))
    obtain ⟨xv, hxv⟩ : ∃ xv, xv = xs[j] := ⟨_, rfl⟩
    rw [← hxv] at x0 x1 x2 x3 HRJ hjx
    obtain ⟨q0, qA, qn, qc, ql, qa, qr⟩ := xv
    dsimp only at x0 x1 x2 x3
    have HX : Hid (x = ⟨q0, qr, ql, qa⟩) := Lib.hid hjx.symm
    have HL := Lib.hid hl
    have HJ := Lib.hid hj
    clear hxv hl hlt hjx hjl u0 u1 u2 u3 hx1 hj
    go_wp2_with fail
    have HBB : Hid (Below w.heap.size w (w1.alloc (.cells #[.int .i64 q0, .slice qA qn qc, .bool false, .int .i64 qa] 73))) := Lib.hid (HB1.out.alloc (by omega) _)
    have hput := rPut_any _ (.slice (some ⟨b1, o1, none⟩) xs.length c) xs M.last (H.out.row.below HBB.out).rk (by rw [← HN.out]; exact hsm) j HJ.out ⟨q0, qA, qn, qc, false, qa, qr⟩
    rw [← HN.out] at hput
    refine hput.mono ?_
    rintro e w2 ⟨v', rfl, hrow, hb2⟩
    have HB2 := Lib.hid (HBB.out.trans (hb2.mono HBB.out.size))
    have HM2 := Lib.hid ((HL2.out.alloc _).below hb2 (HL2.out.alloc _).lt)
    obtain ⟨ys, hys⟩ : ∃ ys, ys = xs.set j ⟨q0, qA, qn, qc, false, qa, qr⟩ := ⟨_, rfl⟩
    rw [← hys] at hrow
    have HYS := Lib.hid hys
    have HROW := Lib.hid hrow
    clear hb2 hput hrow p0 p1 f0 f1 hys
    have p0 : w2.cell? ⟨w.heap.size + 1, 0, none⟩ = some (.slice none 0 0) := HM2.out.cell 0
    have p1 : w2.cell? ⟨w.heap.size + 1, 1, none⟩ = some (.int .i64 0) := HM2.out.cell 1
    have f0 : w2.frozen? ⟨w.heap.size + 1, 0, none⟩ = false := HM2.out.frozen 0
    have f1 : w2.frozen? ⟨w.heap.size + 1, 1, none⟩ = false := HM2.out.frozen 1
    obtain ⟨vA, vc, rfl, -, -, -, -⟩ := (HROW.out.rk encTx_len (Nat.le_refl _)).open_
    unfold rtV
    go_wp2_with fail
    obtain ⟨kE, rE, bE⟩ := ref_fin (last := M.last) HB2.out HM2.out (by omega) HROW.out (fun y hy => by
      rw [HYS.out] at hy
      rcases List.mem_or_eq_of_mem_set hy with hy | rfl
      · exact old_row (H.out.row.refs y hy) HB2.out (by omega)
      · exact old_row HRJ.out HB2.out (by omega))
    generalize (w2.setCell ⟨w.heap.size + 1, 0, none⟩ (.slice vA ys.length vc)).setCell ⟨w.heap.size + 1, 1, none⟩ (.int .i64 M.last) = WE at *
    have r0 : WE.cell? ⟨w.heap.size + 1, 0, none⟩ = some (.slice vA ys.length vc) := kE.cell 0
    have r1 : WE.cell? ⟨w.heap.size + 1, 1, none⟩ = some (.int .i64 M.last) := kE.cell 1
    refine bodyPost_ret (v := .tuple #[.agg #[.slice vA ys.length vc, .int .i64 M.last], .int .i64 0]) (by simp [results, Try.results28, go_sem, r0, r1]) rfl ?_
    refine ⟨.slice vA ys.length vc, ys, by rw [HE.out, over_last]; rfl, ⟨rE, ?_, over_ok H.out.ok _, by rw [len_over, bulk_over]; exact H.out.small⟩, bE⟩
    rw [over_eq HL.out, HYS.out, ← put_txs H.out.txs]
    unfold MV.put
    rw [show ((j : Int) + 1 - 1).toNat = j by omega, HX.out]
    rfl

end Go.Proofs.Ytgahkloldpjnkaa
