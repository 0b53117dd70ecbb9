/-
  The walk of skeinref14's Try.
-/
import Derived.Test.YtgahkloldpjnkaaMVR3
import Derived.Deep.QuietTactic
import Derived.BigQuiet
namespace Go.Proofs.Ytgahkloldpjnkaa
open Go.RowKit Go.Maps
set_option linter.unusedVariables false

def MV.clashTo (M : MV) (x : Tx) (k : Nat) : Bool := (M.txns.take k).any fun y => decide (x.start < y.at_) && common y.refs x.refs

theorem clashTo_all (M : MV) (x : Tx) : M.clashTo x M.txns.length = M.clash x := by unfold MV.clashTo MV.clash; rw [List.take_length]

theorem clashTo_succ {M : MV} {x y : Tx} {k : Nat} (h : M.txns[k]? = some y) : M.clashTo x (k + 1) = (M.clashTo x k || (decide (x.start < y.at_) && common y.refs x.refs)) := by
  have hk := (List.getElem?_eq_some_iff.1 h).1
  unfold MV.clashTo
  rw [List.take_succ_eq_append_getElem hk, List.any_append, (List.getElem?_eq_some_iff.1 h).2]
  simp

theorem clash_hit {M : MV} {x y : Tx} {k : Nat} (h : M.txns[k]? = some y) (h1 : x.start < y.at_) (h2 : common y.refs x.refs = true) : M.clashTo x (k + 1) = true := by
  rw [clashTo_succ h, h2, decide_eq_true h1]; simp

theorem clash_miss1 {M : MV} {x y : Tx} {k : Nat} (h : M.txns[k]? = some y) (h0 : M.clashTo x k = false) (h2 : common y.refs x.refs = false) : M.clashTo x (k + 1) = false := by
  rw [clashTo_succ h, h0, h2]; simp

theorem clash_miss2 {M : MV} {x y : Tx} {k : Nat} (h : M.txns[k]? = some y) (h0 : M.clashTo x k = false) (h1 : ¬ x.start < y.at_) : M.clashTo x (k + 1) = false := by
  rw [clashTo_succ h, h0, decide_eq_false h1]; rfl

theorem clash_of_to {M : MV} {x : Tx} {k : Nat} (h : M.clashTo x k = true) : M.clash x = true := by
  unfold MV.clashTo at h
  obtain ⟨y, hy, hc⟩ := List.any_eq_true.1 h
  exact List.any_eq_true.2 ⟨y, List.mem_of_mem_take hy, hc⟩

theorem below_q {w : World} {n : Nat} : Below w.heap.size w (w.drewN n) := ⟨rfl, rfl, rfl, Nat.le_refl _, fun _ _ => rfl⟩

theorem common_q {w : World} {n : Nat} {u v : Value} {a b : List Rf} {cb : Bool} (hu : RR w w.heap.size u a) (hv : RR w w.heap.size v b) (ha : a.length ≤ 800000) (hb : b.length ≤ 800000) (hc : common a b = cb) :
    Calls Try.prog 35 #[u, v] (w.drewN n) fun e w' => e = .returned (.bool cb) ∧ ∃ m, w' = (w.drewN n).drewN m := by
  rw [← hc]
  exact rCommon_any (w.drewN n) u v a b (hu.drewN n) (hv.drewN n) ha hb

theorem RTab.some_ {w : World} {v : Value} {xs : List TxV} {M : MV} (h : RTab w v xs M) {j : Nat} {x : Tx} (hl : M.live? ((j : Int) + 1) = some x) : ∃ hj : j < xs.length, (xs[j]).tx = x ∧ (xs[j]).live = true := by
  have h1 := live_lt hl
  have h2 := h.len
  have hj : j < xs.length := by omega
  refine ⟨hj, ?_⟩
  rw [h.live hj] at hl
  split at hl
  · rename_i h3
    injection hl with hl
    exact ⟨hl, h3⟩
  · cases hl

theorem RTab.refs_small {w : World} {v : Value} {xs : List TxV} {M : MV} (h : RTab w v xs M) {i : Nat} (hi : i < xs.length) : (xs[i]).refs.length ≤ 800000 := by
  have h1 := mem_sum (fun x : Tx => x.refs.length) M.txns (xs[i]).tx (by rw [h.txs]; exact List.mem_map.2 ⟨_, List.getElem_mem hi, rfl⟩)
  exact Nat.le_trans h1 h.small.2

set_option maxRecDepth 100000 in
set_option maxHeartbeats 2000000 in
theorem rTry_any (w : World) (v : Value) (xs : List TxV) (M : MV) (h : RTab w v xs M) (n : Int) :
    Calls Try.prog 29 #[rtV v M.last, .int .i64 n] w fun e w' => e = .returned (.int .i64 (M.tryE n)) ∧ Below w.heap.size w w' := by
  obtain ⟨A, c, rfl, hc1, hc2, hc3, HC⟩ := h.row.rk.open_
  have hsm := h.small.1
  have hlen := h.len
  rw [hlen] at hsm
  obtain ⟨N, hN⟩ : ∃ N, N = xs.length := ⟨_, rfl⟩
  rw [← hN] at hc1 hc3 hsm
  obtain ⟨W, hW⟩ : ∃ W, W = w.alloc (.cells #[.slice A N c, .int .i64 M.last] 28) := ⟨_, rfl⟩
  have hbW : Below w.heap.size w W := by rw [hW]; exact (Below.refl _ _).alloc (Nat.le_refl _) _
  have hbk : Blk W w.heap.size 28 #[.slice A N c, .int .i64 M.last] := by rw [hW]; exact Blk.new _ _ _
  have z0 : W.cell? ⟨w.heap.size, 0, none⟩ = some (.slice A N c) := hbk.cell 0
  have z1 : W.cell? ⟨w.heap.size, 1, none⟩ = some (.int .i64 M.last) := hbk.cell 1
  have hiN := rIs_any W (.slice A xs.length c) xs M (h.below hbW) n
  rw [← hN] at hiN ⊢
  have HN := Lib.hid hN
  have H := Lib.hid h
  have HLN := Lib.hid hlen
  have HBW := Lib.hid hbW
  have HBK := Lib.hid hbk
  have HW := Lib.hid hW
  clear hN h hlen hbW hbk hW
  unfold rtV at hiN ⊢
  go_enter Try.func29, Try.ntmps29
  go_wp2_with fail
  rw [← HW.out]
  refine hiN.mono ?_
  rintro e w1 ⟨rfl, hb1⟩
  have HB1 := Lib.hid (HBW.out.trans (hb1.mono HBW.out.size))
  have HK1 := Lib.hid (HBK.out.below hb1 HBK.out.lt)
  clear hb1 z0 z1 hiN
  have z0 : w1.cell? ⟨w.heap.size, 0, none⟩ = some (.slice A N c) := HK1.out.cell 0
  have z1 : w1.cell? ⟨w.heap.size, 1, none⟩ = some (.int .i64 M.last) := HK1.out.cell 1
  have hw1 : w.heap.size < w1.heap.size := HK1.out.lt
  cases hl : M.live? n with
  | none =>
    have HE : Hid (M.tryE n = 141) := Lib.hid (tryE_none hl)
    simp only [Option.isSome_none]
    clear hl
    go_wp2_with fail
    go_ret
    exact ⟨by rw [HE.out]; rfl, HB1.out⟩
  | some x =>
    simp only [Option.isSome_some]
    have hlt := live_lt hl
    obtain ⟨j, rfl⟩ : ∃ j : Nat, n = (j : Int) + 1 := ⟨(n - 1).toNat, by omega⟩
    obtain ⟨hj, hjx, hjl⟩ := H.out.some_ hl
    have hjN : j < N := by have := HN.out; omega
    have hj3 : (j : Int) ≤ 400000 := by omega
    obtain ⟨b1, o1, rfl, hb1, hx1⟩ := HC.out j hj
    obtain ⟨u0, u1, u2, u3⟩ := cellTx hx1
    have x0 : w1.cell? ⟨b1, o1 + j * 4, none⟩ = _ := (HB1.out.cell (p := ⟨b1, o1 + j * 4, none⟩) hb1).trans u0
    have x1 : w1.cell? ⟨b1, o1 + j * 4 + 1, none⟩ = _ := (HB1.out.cell (p := ⟨b1, o1 + j * 4 + 1, none⟩) hb1).trans u1
    have x2 : w1.cell? ⟨b1, o1 + j * 4 + 2, none⟩ = _ := (HB1.out.cell (p := ⟨b1, o1 + j * 4 + 2, none⟩) hb1).trans u2
    have x3 : w1.cell? ⟨b1, o1 + j * 4 + 3, none⟩ = _ := (HB1.out.cell (p := ⟨b1, o1 + j * 4 + 3, none⟩) hb1).trans u3
    have HRJ := Lib.hid (H.out.row.refs _ (List.getElem_mem hj))
    have HSJ := Lib.hid (H.out.refs_small hj)
    obtain ⟨xv, hxv⟩ : ∃ xv, xv = xs[j] := ⟨_, rfl⟩
    rw [← hxv] at x0 x1 x2 x3 HRJ HSJ hjx
    obtain ⟨q0, qA, qn, qc, ql, qa, qr⟩ := xv
    dsimp only at x0 x1 x2 x3
    have HX : Hid (x = ⟨q0, qr, ql, qa⟩) := Lib.hid hjx.symm
    have HL := Lib.hid hl
    clear hxv hl hlt hjx hjl u0 u1 u2 u3 hx1
    go_wp2_with fail
    obtain ⟨WB, hWB⟩ : ∃ WB, WB = w1.alloc (.cells #[.int .i64 q0, .slice qA qn qc, .bool ql, .int .i64 qa] 73) := ⟨_, rfl⟩
    rw [← hWB]
    have hbB : Below w.heap.size w WB := by rw [hWB]; exact HB1.out.alloc (by omega) _
    have hkt : Blk WB w.heap.size 28 #[.slice (some ⟨b1, o1, none⟩) N c, .int .i64 M.last] := by rw [hWB]; exact HK1.out.alloc _
    have hkx : Blk WB w1.heap.size 73 #[.int .i64 q0, .slice qA qn qc, .bool ql, .int .i64 qa] := by rw [hWB]; exact Blk.new _ _ _
    have HBB := Lib.hid hbB
    have HKT := Lib.hid hkt
    have HKX := Lib.hid hkx
    have HTO : Hid (M.clashTo x 0 = false) := Lib.hid rfl
    clear hWB hbB hkt hkx z0 z1 x0 x1 x2 x3
    go_loopw [6] (fun i wr => ∃ m q : Nat, m ≤ N ∧ i = .int .i64 m ∧ wr = WB.drewN q ∧ Hid (M.clashTo x m = false)) (fun i _ => N - (intOf i).toNat)
    case atStart => exact ⟨0, 0, Nat.zero_le _, rfl, rfl, HTO⟩
    case round =>
      obtain ⟨m, q, hm, rfl, hwr, HCT⟩ := hrel
      have HWR := Lib.hid hwr
      have hbr : Below w.heap.size w wr := by rw [hwr]; exact ⟨HBB.out.os, HBB.out.tape, HBB.out.output, HBB.out.size, HBB.out.block⟩
      have t0 : wr.cell? ⟨w.heap.size, 0, none⟩ = some (.slice (some ⟨b1, o1, none⟩) N c) := by rw [hwr]; exact HKT.out.cell 0
      have t1 : wr.cell? ⟨w.heap.size, 1, none⟩ = some (.int .i64 M.last) := by rw [hwr]; exact HKT.out.cell 1
      have p0 : wr.cell? ⟨w1.heap.size, 0, none⟩ = some (.int .i64 q0) := by rw [hwr]; exact HKX.out.cell 0
      have p1 : wr.cell? ⟨w1.heap.size, 1, none⟩ = some (.slice qA qn qc) := by rw [hwr]; exact HKX.out.cell 1
      have HBR := Lib.hid hbr
      clear hwr hbr
      by_cases hmo : m < N
      · have hmx : m < xs.length := by have := HN.out; omega
        obtain ⟨b2, o2, e2, hb2, hx2⟩ := HC.out m hmx
        injection e2 with e2
        injection e2 with e3 e4
        subst e3 e4
        obtain ⟨u0, u1, u2, u3⟩ := cellTx hx2
        have y1 : wr.cell? ⟨b1, o1 + m * 4 + 1, none⟩ = _ := (HBR.out.cell (p := ⟨b1, o1 + m * 4 + 1, none⟩) hb1).trans u1
        have y3 : wr.cell? ⟨b1, o1 + m * 4 + 3, none⟩ = _ := (HBR.out.cell (p := ⟨b1, o1 + m * 4 + 3, none⟩) hb1).trans u3
        have HRM := Lib.hid (((H.out.row.refs _ (List.getElem_mem hmx)).below HBR.out).more HBR.out.size)
        have HRX := Lib.hid ((HRJ.out.below HBR.out).more HBR.out.size)
        have HSM := Lib.hid (H.out.refs_small hmx)
        have hat := H.out.at_ hmx
        obtain ⟨yv, hyv⟩ : ∃ yv, yv = xs[m] := ⟨_, rfl⟩
        rw [← hyv] at y1 y3 HRM HSM hat
        obtain ⟨s0, sA, sn, sc, sl, sa, sr⟩ := yv
        dsimp only at y1 y3
        have HAT : Hid (M.txns[m]? = some ⟨s0, sr, sl, sa⟩) := Lib.hid hat
        clear hyv u0 u1 u2 u3 hx2 hat hb2
        by_cases hgt : q0 < sa
        · cases hcb : common sr qr with
          | true =>
            have HE : Hid (M.tryE ((j : Int) + 1) = 140) := Lib.hid (by
              have h1 : M.clashTo x (m + 1) = true := clash_hit HAT.out (by rw [HX.out]; exact hgt) (by rw [HX.out]; exact hcb)
              unfold MV.tryE
              rw [HL.out]
              dsimp only
              rw [if_pos (clash_of_to h1)])
            have HCB := Lib.hid hcb
            clear hcb
            go_wp2_with fail
            go_quiet ((go_at_call 35; refine Calls.quiet_of (common_q HRM.out HRX.out HSM.out HSJ.out HCB.out)))
            go_wp2_with fail
            go_ret
            exact ⟨by rw [HE.out]; rfl, ⟨HBR.out.os, HBR.out.tape, HBR.out.output, HBR.out.size, HBR.out.block⟩⟩
          | false =>
            have HCN : Hid (M.clashTo x (m + 1) = false) := Lib.hid (clash_miss1 HAT.out HCT.out (by rw [HX.out]; exact hcb))
            have HCB := Lib.hid hcb
            clear hcb
            go_wp2_with fail
            go_quiet ((go_at_call 35; refine Calls.quiet_of (common_q HRM.out HRX.out HSM.out HSJ.out HCB.out)))
            go_wp2_with fail
            go_roundw
            case rel => exact ⟨m + 1, _, by omega, by go_num, by rw [HWR.out, World.drewN_drewN], HCN⟩
            case measure => simp [intOf]; omega
        · have HCN : Hid (M.clashTo x (m + 1) = false) := Lib.hid (clash_miss2 HAT.out HCT.out (by rw [HX.out]; exact hgt))
          have hgd : decide (q0 < sa) = false := decide_eq_false hgt
          go_wp2_with fail
          go_quiet (fail)
          go_wp2_with fail
          go_roundw
          case rel => exact ⟨m + 1, _, by omega, by go_num, by rw [HWR.out, World.drewN_drewN], HCN⟩
          case measure => simp [intOf]; omega
      · have hcl : M.clash x = false := by rw [← clashTo_all, HLN.out, ← HN.out, ← HCT.out]; congr 1; omega
        have hqn : qn = qr.length := by obtain ⟨_, _, e, _⟩ := HRJ.out.open_; injection e
        have HTR : Hid (M.tryE ((j : Int) + 1) = if qr ≠ [] ∧ M.last = 1099511627776 then 4 else 0) := Lib.hid (by unfold MV.tryE; rw [HL.out]; dsimp only; rw [hcl, if_neg (by decide), HX.out])
        have hla := H.out.ok.last
        have HQN := Lib.hid hqn
        have HLA := Lib.hid hla
        clear hcl hqn hla
        by_cases hq0 : qn = 0
        · have HE : Hid (M.tryE ((j : Int) + 1) = 0) := Lib.hid (by rw [HTR.out, if_neg (fun h => h.1 (List.eq_nil_of_length_eq_zero (by rw [← HQN.out]; exact hq0)))])
          subst hq0
          go_wp2_with fail
          go_ret
          exact ⟨by rw [HE.out]; rfl, HBR.out⟩
        · have hq1 : 0 < qn := Nat.pos_of_ne_zero hq0
          have hne : qr ≠ [] := fun e => hq0 (by rw [HQN.out, e]; rfl)
          by_cases hmax : M.last = 1099511627776
          · have HE : Hid (M.tryE ((j : Int) + 1) = 4) := Lib.hid (by rw [HTR.out, if_pos ⟨hne, hmax⟩])
            rw [hmax] at t1
            clear hmax hne hq0
            go_wp2_with fail
            go_ret
            exact ⟨by rw [HE.out]; rfl, HBR.out⟩
          · have HE : Hid (M.tryE ((j : Int) + 1) = 0) := Lib.hid (by rw [HTR.out, if_neg (fun h => hmax h.2)])
            have hlt : M.last < 1099511627776 := by have := HLA.out; omega
            clear hmax hne hq0
            go_wp2_with fail
            go_ret
            exact ⟨by rw [HE.out]; rfl, HBR.out⟩

end Go.Proofs.Ytgahkloldpjnkaa
