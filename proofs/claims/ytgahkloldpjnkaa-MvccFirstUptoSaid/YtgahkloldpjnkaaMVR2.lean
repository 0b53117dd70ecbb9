/-
  The walks of skeinref14's Horizon and common.
-/
import Derived.Test.YtgahkloldpjnkaaMVR1
import Derived.RegionTactic
namespace Go.Proofs.Ytgahkloldpjnkaa
open Go.RowKit Go.Maps
set_option linter.unusedVariables false

def MV.horTo (M : MV) (k : Nat) : Int := (M.txns.take k).foldl (fun h x => if x.live = true ∧ x.start < h then x.start else h) M.last

theorem horTo_all (M : MV) : M.horTo M.txns.length = M.hor := by unfold MV.horTo MV.hor; rw [List.take_length]

theorem horTo_succ {M : MV} {k : Nat} {x : Tx} (h : M.txns[k]? = some x) : M.horTo (k + 1) = if x.live = true ∧ x.start < M.horTo k then x.start else M.horTo k := by
  have hk := (List.getElem?_eq_some_iff.1 h).1
  unfold MV.horTo
  rw [List.take_succ_eq_append_getElem hk, List.foldl_append, (List.getElem?_eq_some_iff.1 h).2]
  rfl

theorem horTo_yes {M : MV} {k : Nat} {x : Tx} (h : M.txns[k]? = some x) (hl : x.live = true) (hlt : x.start < M.horTo k) : M.horTo (k + 1) = x.start := by rw [horTo_succ h, if_pos ⟨hl, hlt⟩]

theorem horTo_no {M : MV} {k : Nat} {x : Tx} (h : M.txns[k]? = some x) (hn : ¬ (x.live = true ∧ x.start < M.horTo k)) : M.horTo (k + 1) = M.horTo k := by rw [horTo_succ h, if_neg hn]

theorem RTab.at_ {w : World} {v : Value} {xs : List TxV} {M : MV} (h : RTab w v xs M) {i : Nat} (hi : i < xs.length) : M.txns[i]? = some (xs[i]).tx := by rw [h.txs, List.getElem?_map, List.getElem?_eq_getElem hi]; rfl

set_option maxRecDepth 100000 in
set_option maxHeartbeats 1000000 in
theorem rHor_any (w : World) (v : Value) (xs : List TxV) (M : MV) (h : RTab w v xs M) :
    Calls Try.prog 15 #[rtV v M.last] w fun e w' => e = .returned (.int .i64 M.hor) ∧ Below w.heap.size w w' := by
  obtain ⟨A, c, rfl, hc1, hc2, hc3, HC⟩ := h.row.rk.open_
  have hsm := h.small.1
  have hlen := h.len
  rw [hlen] at hsm
  obtain ⟨N, hN⟩ : ∃ N, N = xs.length := ⟨_, rfl⟩
  rw [← hN] at hc1 hc3 hsm ⊢
  have HN := Lib.hid hN
  have H := Lib.hid h
  have HLN := Lib.hid hlen
  obtain ⟨W, hW⟩ : ∃ W, W = w.alloc (.cells #[.slice A N c, .int .i64 M.last] 28) := ⟨_, rfl⟩
  have hb0 : Below w.heap.size w W := by rw [hW]; exact (Below.refl _ _).alloc (Nat.le_refl _) _
  have hbk : Blk W w.heap.size 28 #[.slice A N c, .int .i64 M.last] := by rw [hW]; exact Blk.new _ _ _
  have z0 : W.cell? ⟨w.heap.size, 0, none⟩ = some (.slice A N c) := hbk.cell 0
  have z1 : W.cell? ⟨w.heap.size, 1, none⟩ = some (.int .i64 M.last) := hbk.cell 1
  have HB0 := Lib.hid hb0
  have HBK := Lib.hid hbk
  have HW := Lib.hid hW
  clear hN h hlen hb0 hbk hW
  unfold rtV
  go_enter Try.func15, Try.ntmps15
  go_wp2_with fail
  rw [← HW.out]
  go_loopw [3, 4] (fun q i wr => ∃ m : Nat, m ≤ N ∧ i = .int .i64 m ∧ q = .int .i64 (M.horTo m) ∧ wr = W) (fun _ i _ => N - (intOf i).toNat)
  case atStart => exact ⟨0, Nat.zero_le _, rfl, rfl, rfl⟩
  case round =>
    obtain ⟨m, hm, rfl, rfl, rfl⟩ := hrel
    by_cases hmo : m < N
    · have hmx : m < xs.length := by rw [← HN.out]; exact hmo
      obtain ⟨b2, o2, rfl, hb2, hx2⟩ := HC.out m hmx
      obtain ⟨u0, _, u2, _⟩ := cellTx hx2
      have y0 : wr.cell? ⟨b2, o2 + m * 4, none⟩ = _ := (HB0.out.cell (p := ⟨b2, o2 + m * 4, none⟩) hb2).trans u0
      have y2 : wr.cell? ⟨b2, o2 + m * 4 + 2, none⟩ = _ := (HB0.out.cell (p := ⟨b2, o2 + m * 4 + 2, none⟩) hb2).trans u2
      have hat := H.out.at_ hmx
      obtain ⟨x, hx⟩ : ∃ x, x = xs[m] := ⟨_, rfl⟩
      rw [← hx] at y0 y2 hat
      obtain ⟨st, tA, tn, tc, lv, ta, rf⟩ := x
      obtain ⟨q, hq⟩ : ∃ q, q = M.horTo m := ⟨_, rfl⟩
      rw [← hq]
      have HQ := Lib.hid hq
      have HAT : Hid (M.txns[m]? = some ⟨st, rf, lv, ta⟩) := Lib.hid hat
      dsimp only at y0 y2
      clear hx hx2 u0 u2 hq hat
      by_cases hl : lv = true
      · subst hl
        by_cases hlt : st < q
        · go_wp2_with fail
          go_roundw
          case rel => exact ⟨m + 1, by omega, by go_num, by rw [horTo_yes HAT.out rfl (by rw [← HQ.out]; exact hlt)], by simp⟩
          case measure => simp [intOf]; omega
        · go_wp2_with fail
          go_roundw
          case rel => exact ⟨m + 1, by omega, by go_num, by rw [horTo_no HAT.out (fun h => hlt (by rw [HQ.out]; exact h.2)), ← HQ.out], by simp⟩
          case measure => simp [intOf]; omega
      · have hl : lv = false := by simpa using hl
        subst hl
        go_wp2_with fail
        go_roundw
        case rel => exact ⟨m + 1, by omega, by go_num, by rw [horTo_no HAT.out (fun h => nomatch h.1), ← HQ.out], by simp⟩
        case measure => simp [intOf]; omega
    · have e : m = xs.length := by rw [← HN.out]; omega
      have HE : Hid (M.horTo m = M.hor) := Lib.hid (by rw [e, ← HLN.out, horTo_all])
      clear e
      go_wp2_with fail
      go_ret
      exact ⟨by rw [← HE.out]; rfl, HB0.out⟩

theorem common_yes {a b : List Rf} {i j : Nat} (hi : i < a.length) (hj : j < b.length) (h : a[i] = b[j]) : common a b = true :=
  List.any_eq_true.2 ⟨a[i], List.getElem_mem hi, by rw [decide_eq_true_eq, h]; exact List.getElem_mem hj⟩

theorem common_no {a b : List Rf} (h : ∀ i (hi : i < a.length), ∀ j (hj : j < b.length), a[i] ≠ b[j]) : common a b = false := by
  rw [Bool.eq_false_iff]
  intro hc
  obtain ⟨r, hr, hb⟩ := List.any_eq_true.1 hc
  rw [decide_eq_true_eq] at hb
  obtain ⟨i, hi, rfl⟩ := List.mem_iff_getElem.1 hr
  obtain ⟨j, hj, e⟩ := List.mem_iff_getElem.1 hb
  exact h i hi j hj e.symm

set_option maxRecDepth 100000 in
set_option maxHeartbeats 1000000 in
theorem rCommon_any (w : World) (u v : Value) (a b : List Rf) (hu : RR w w.heap.size u a) (hv : RR w w.heap.size v b) (ha : a.length ≤ 800000) (hb : b.length ≤ 800000) :
    Calls Try.prog 35 #[u, v] w fun e w' => e = .returned (.bool (common a b)) ∧ ∃ n, w' = w.drewN n := by
  obtain ⟨A, c, rfl, hc1, hc2, hc3, HC⟩ := hu.open_
  obtain ⟨A2, c2, rfl, hd1, hd2, hd3, HD⟩ := hv.open_
  obtain ⟨N, hN⟩ : ∃ N, N = a.length := ⟨_, rfl⟩
  obtain ⟨K, hK⟩ : ∃ K, K = b.length := ⟨_, rfl⟩
  rw [← hN] at hc1 hc3 ha ⊢
  rw [← hK] at hd1 hd3 hb ⊢
  have HN := Lib.hid hN
  have HK := Lib.hid hK
  clear hN hK hu hv
  go_enter Try.func35, Try.ntmps35
  go_wp2_with fail
  go_loopw [5] (fun i wr => ∃ m : Nat, m ≤ N ∧ i = .int .i64 m ∧ Hid (∀ i (hi : i < a.length), i < m → ∀ j (hj : j < b.length), a[i] ≠ b[j]) ∧ Hid (∃ n, wr = w.drewN n)) (fun i _ => N - (intOf i).toNat)
  case atStart => exact ⟨0, Nat.zero_le _, rfl, Lib.hid (fun i hi h => absurd h (by omega)), Lib.hid ⟨0, rfl⟩⟩
  case round =>
    obtain ⟨m, hm, rfl, HNO, HB⟩ := hrel
    by_cases hmo : m < N
    · have hmx : m < a.length := by rw [← HN.out]; exact hmo
      obtain ⟨b1, o1, rfl, hb1, hx1⟩ := HC.out m hmx
      go_wp2_with fail
      go_loopw [6] (fun i wr => ∃ q : Nat, q ≤ K ∧ i = .int .i64 q ∧ Hid (∀ j (hj : j < b.length), j < q → a[m] ≠ b[j]) ∧ Hid (∃ n, wr = w.drewN n)) (fun i _ => K - (intOf i).toNat)
      case atStart => exact ⟨0, Nat.zero_le _, rfl, Lib.hid (fun i hi h => absurd h (by omega)), HB⟩
      case round =>
        obtain ⟨q, hq, rfl, HNQ, HBQ⟩ := hrel
        by_cases hqo : q < K
        · have hqx : q < b.length := by rw [← HK.out]; exact hqo
          obtain ⟨b2, o2, rfl, hb2, hx2⟩ := HD.out q hqx
          obtain ⟨u0, u1⟩ := cellR hx1
          obtain ⟨v0, v1⟩ := cellR hx2
          have hdd : ∃ n, wr.drew = w.drewN n := by obtain ⟨n, e⟩ := HBQ.out; exact ⟨n + 1, by rw [e, ← World.drewN_drewN]; rfl⟩
          have hbd : Below w.heap.size w wr.drew := by obtain ⟨n, e⟩ := hdd; rw [e]; exact ⟨rfl, rfl, rfl, Nat.le_refl _, fun _ _ => rfl⟩
          have p0 : wr.drew.cell? ⟨b1, o1 + m * 2, none⟩ = _ := (hbd.cell (p := ⟨b1, o1 + m * 2, none⟩) hb1).trans u0
          have p1 : wr.drew.cell? ⟨b1, o1 + m * 2 + 1, none⟩ = _ := (hbd.cell (p := ⟨b1, o1 + m * 2 + 1, none⟩) hb1).trans u1
          have q0 : wr.drew.cell? ⟨b2, o2 + q * 2, none⟩ = _ := (hbd.cell (p := ⟨b2, o2 + q * 2, none⟩) hb2).trans v0
          have q1 : wr.drew.cell? ⟨b2, o2 + q * 2 + 1, none⟩ = _ := (hbd.cell (p := ⟨b2, o2 + q * 2 + 1, none⟩) hb2).trans v1
          obtain ⟨x, hx⟩ : ∃ x, x = a[m] := ⟨_, rfl⟩
          obtain ⟨y, hy⟩ : ∃ y, y = b[q] := ⟨_, rfl⟩
          rw [← hx] at p0 p1
          rw [← hy] at q0 q1
          have HX := Lib.hid hx
          have HY := Lib.hid hy
          have HBD := Lib.hid hdd
          obtain ⟨x0, x1⟩ := x
          obtain ⟨y0, y1⟩ := y
          dsimp only at p0 p1 q0 q1
          clear hx hy u0 u1 v0 v1 hx2 hbd hdd
          by_cases h0 : x0 = y0
          · subst h0
            by_cases h1 : x1 = y1
            · subst h1
              have HCY : Hid (common a b = true) := Lib.hid (common_yes hmx hqx (by rw [← HX.out, ← HY.out]))
              go_wp2_with fail
              go_region
              go_wp2_with fail
              go_ret
              exact ⟨by rw [HCY.out]; rfl, HBD.out⟩
            · have HNE : Hid (a[m] ≠ b[q]) := Lib.hid (by rw [← HX.out, ← HY.out]; intro e; injection e with e1 e2; exact h1 e2)
              go_wp2_with fail
              go_region
              go_wp2_with fail
              go_roundw
              case rel => exact ⟨q + 1, by omega, by go_num, Lib.hid (fun j hj hlt => by rcases Nat.lt_succ_iff_lt_or_eq.1 hlt with h | h; exact HNQ.out j hj h; (subst h; exact HNE.out)), HBD⟩
              case measure => simp [intOf]; omega
          · have HNE : Hid (a[m] ≠ b[q]) := Lib.hid (by rw [← HX.out, ← HY.out]; intro e; injection e with e1 e2; exact h0 e1)
            go_wp2_with fail
            go_region
            go_wp2_with fail
            go_roundw
            case rel => exact ⟨q + 1, by omega, by go_num, Lib.hid (fun j hj hlt => by rcases Nat.lt_succ_iff_lt_or_eq.1 hlt with h | h; exact HNQ.out j hj h; (subst h; exact HNE.out)), HBD⟩
            case measure => simp [intOf]; omega
        · go_wp2_with fail
          go_roundw
          case rel => exact ⟨m + 1, by omega, by go_num, Lib.hid (fun i hi hlt j hj => by rcases Nat.lt_succ_iff_lt_or_eq.1 hlt with h | h; exact HNO.out i hi h j hj; (subst h; exact HNQ.out j hj (by have := HK.out; omega))), HBQ⟩
          case measure => simp [intOf]; omega
    · have HCN : Hid (common a b = false) := Lib.hid (common_no fun i hi j hj => HNO.out i hi (by have := HN.out; omega) j hj)
      go_wp2_with fail
      go_ret
      exact ⟨by rw [HCN.out]; rfl, HB.out⟩

end Go.Proofs.Ytgahkloldpjnkaa
