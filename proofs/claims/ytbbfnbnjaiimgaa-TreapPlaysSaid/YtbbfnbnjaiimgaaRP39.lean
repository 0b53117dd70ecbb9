/-
  The walk of TreapRows.
-/
import Derived.Test.YtbbfnbnjaiimgaaRP38
import Derived.Test.YtbbfnbnjaiimgaaAC
import Derived.Deep.Cut
import Derived.Deep.CutRange
import Derived.Deep.CutBlock
import Derived.Deep.DeepCutAuto
namespace Go.Proofs.Ytbbfnbnjaiimgaa
open Go.RowKit
set_option linter.unusedVariables false

theorem count_succ {l : List Nat} {n q : Nat} (h : q < l.length) : (l.take (q + 1)).count n = (l.take q).count n + if l[q] = n then 1 else 0 := by
  rw [List.take_succ_eq_append_getElem h, List.count_append, List.count_singleton]
  by_cases e : l[q] = n
  · simp [e]
  · simp [e]

theorem count_mem : ∀ {l : List Nat} {n : Nat}, l.Nodup → n ∈ l → l.count n = 1
  | [], _, _, h => nomatch h
  | x :: r, n, hd, h => by
    have hd2 := List.nodup_cons.1 hd
    rw [List.count_cons]
    by_cases e : x = n
    · subst e
      rw [List.count_eq_zero.2 hd2.1]
      simp
    · have hn : n ∈ r := (List.mem_cons.1 h).resolve_left (fun e' => e e'.symm)
      rw [count_mem hd2.2 hn]
      simp [e]

theorem count_one {M : RM SV} (h : M.Ok) {n : Nat} (hn : 1 ≤ n ∧ n ≤ M.own.length) : (M.rowOf n).count n = 1 := count_mem (row_nodup h (row_mem h hn).1) (row_mem h hn).2

theorem headLen_at {M : RM SV} {n y ln : Nat} (h0 : 0 < (M.rowOf n).length) (hy : y = (M.rowOf n)[0]) (hl : ln = (M.rowOf n).length) : M.headLen n = if y = n then ln else 0 := by
  unfold RM.headLen
  rw [List.head?_eq_getElem?, List.getElem?_eq_getElem h0, ← hy, hl]
  by_cases e : y = n
  · simp [e]
  · simp [e]

/-- What a join does to the rows that a law asks for. -/
theorem rows_join {M : RM SV} (h : M.Ok) {i j : Nat} (hi : 1 ≤ i ∧ i ≤ M.own.length) (hj : 1 ≤ j ∧ j ≤ M.own.length) (hne : M.sameA (i : Int) (j : Int) = false) :
    M.joinE (i : Int) (j : Int) = 0 ∧ (M.joinA (i : Int) (j : Int)).rowA (i : Int) = M.rowOf i ++ M.rowOf j ∧ (M.joinA (i : Int) (j : Int)).errA (i : Int) = 0 ∧ ∀ c, M.sameA (i : Int) c = false → M.sameA (j : Int) c = false → (M.joinA (i : Int) (j : Int)).rowA c = M.rowA c := by
  have hne2 : M.rowOf i ≠ M.rowOf j := by rw [sameA_nat hi hj] at hne; simpa using hne
  obtain ⟨e1, e2⟩ := joinA_nat hi hj hne2
  rw [e2]
  have hi' : 1 ≤ i ∧ i ≤ (M.join i j).own.length := hi
  refine ⟨e1, ?_, errA_nat hi', fun c h1 h2 => ?_⟩
  · rw [rowA_nat hi', rowOf_join h hi hj hne2 (List.mem_append_left _ (row_mem h hi).2)]
  · by_cases hc : M.known c = true
    · obtain ⟨k, rfl, hk⟩ := known_nat hc
      have hk' : 1 ≤ k ∧ k ≤ (M.join i j).own.length := hk
      rw [sameA_nat hi hk] at h1
      rw [sameA_nat hj hk] at h2
      rw [rowA_nat hk', rowA_nat hk, rowOf_join_far h hi hj hne2 hk (fun e => by rw [e] at h1; simp at h1) (fun e => by rw [e] at h2; simp at h2)]
    · have hc2 : (M.join i j).known c = M.known c := rfl
      unfold RM.rowA
      rw [hc2, if_neg hc, if_neg hc]

theorem same_known {M : RM SV} {a b : Int} (h : M.sameA a b = true) : M.joinE a b = 151 := by
  unfold RM.sameA at h
  by_cases hk : M.known a = true ∧ M.known b = true
  · rw [if_pos hk] at h
    unfold RM.joinE
    rw [if_pos hk, if_pos (by simpa using h)]
  · rw [if_neg hk] at h; cases h

theorem nk_fst {M : RM SV} {a : Int} (h : M.known a = false) (b : Int) : M.errA a = 150 ∧ M.sameA a b = false ∧ M.joinE a b = 150 :=
  ⟨(not_known h).2.1, (not_known h).2.2.2.2.2.1 b, (not_known h).2.2.2.2.2.2.2.1 b⟩

theorem nk_snd {M : RM SV} {b : Int} (h : M.known b = false) (a : Int) : M.errA b = 150 ∧ M.sameA a b = false ∧ M.joinE a b = 150 :=
  ⟨(not_known h).2.1, (not_known h).2.2.2.2.2.2.1 a, (not_known h).2.2.2.2.2.2.2.2 a⟩

theorem join_not {M : RM SV} {a b : Int} (h : M.joinE a b ≠ 0) : M.joinA a b = M := by unfold RM.joinA; rw [if_neg h]

set_option maxRecDepth 100000 in
set_option maxHeartbeats 16000000 in
theorem treapRows_walk (w : World) (v0 : Value) (V0 : List Int) (v1 : Value) (os : List OpT) (qa qb qc : Int) (h0 : RI w w.heap.size v0 V0) (hs : ScrT w v1 os) (hqa : I64 qa) (hqb : I64 qb) (hqc : I64 qc) :
    Calls Try.prog 7 #[v0, v1, .int .i64 qa, .int .i64 qb, .int .i64 qc] w fun e w' => e = .returned (.bool true) ∧ Below w.heap.size w w' := by
  clear hqa hqb hqc
  obtain ⟨A, c, rfl, hc1, hc2, hc3, hC⟩ := hs.rk.open_
  have HC := hC
  have HS := Lib.hid hs
  have R0 := Lib.hid h0
  clear hs h0 hC
  go_enter Try.func7, Try.ntmps7
  go_wp2_with fail
  refine (tNew w _ V0 R0.out).mono ?_
  rintro e w1 ⟨g, rfl, h1, t1⟩
  have H1 := Lib.hid h1
  have T1 := Lib.hid t1
  clear h1 t1
  go_wp2_with fail
  refine (alive_any w1).mono ?_
  rintro e w3 ⟨rfl, t3⟩
  have H3 := Lib.hid (H1.out.below t3)
  have T3 := Lib.hid (T1.out.trans (t3.mono T1.out.size))
  clear t3
  go_wp2_with fail
  go_loopw [50, 12] (fun i ct wr => ∃ k : Nat, k ≤ os.length ∧ i = .int .i64 k ∧ ct = .int .i64 (makes (os.take k) : Nat) ∧ Hid (RpT w.heap.size wr g (RM.new.runsT (os.take k))) ∧ Hid (Below w.heap.size w wr)) (fun i _ _ => os.length - (intOf i).toNat)
  case atStart => exact ⟨0, Nat.zero_le _, rfl, rfl, H3, T3⟩
  case round =>
    obtain ⟨k, hk, rfl, rfl, HTW, HT⟩ := hrel
    by_cases hkl : k < os.length
    · obtain ⟨b1, o1, rfl, hb, hx⟩ := HC.out k hkl
      obtain ⟨hx1, hx2, hx3, hx4, hx5⟩ := cellOT hx
      have y1 : wr.cell? ⟨b1, o1 + k * 5, none⟩ = _ := (HT.out.cell (p := ⟨b1, o1 + k * 5, none⟩) hb).trans hx1
      have y2 : wr.cell? ⟨b1, o1 + k * 5 + 1, none⟩ = _ := (HT.out.cell (p := ⟨b1, o1 + k * 5 + 1, none⟩) hb).trans hx2
      have y3 : wr.cell? ⟨b1, o1 + k * 5 + 2, none⟩ = _ := (HT.out.cell (p := ⟨b1, o1 + k * 5 + 2, none⟩) hb).trans hx3
      have y4 : wr.cell? ⟨b1, o1 + k * 5 + 3, none⟩ = _ := (HT.out.cell (p := ⟨b1, o1 + k * 5 + 3, none⟩) hb).trans hx4
      have y5 : wr.cell? ⟨b1, o1 + k * 5 + 4, none⟩ = _ := (HT.out.cell (p := ⟨b1, o1 + k * 5 + 4, none⟩) hb).trans hx5
      have HOP := Lib.hid (HS.out.at_ os[k] (List.getElem_mem hkl))
      have HTK := Lib.hid (List.take_succ_eq_append_getElem hkl)
      clear hx hx1 hx2 hx3 hx4 hx5
      obtain ⟨x, hx⟩ : ∃ x, x = os[k] := ⟨_, rfl⟩
      rw [← hx] at y1 y2 y3 y4 y5 HOP HTK
      clear hx
      obtain ⟨M, hM⟩ : ∃ M, M = (RM.new : RM SV).runsT (os.take k) := ⟨_, rfl⟩
      rw [← hM] at HTW
      have HM := Lib.hid hM
      clear hM
      obtain ⟨kd, a, b, n, m⟩ := x
      dsimp only at y1 y2 y3 y4 y5
      obtain ⟨mc, hmc⟩ : ∃ mc, mc = makes (os.take k) := ⟨_, rfl⟩
      have hmc2 : mc ≤ k := by rw [hmc]; exact Nat.le_trans (makes_le _) (by simp; omega)
      rw [← hmc]
      have HMC := Lib.hid hmc
      clear hmc
      obtain ⟨p, hp⟩ : ∃ p, p = wr.heap.size := ⟨_, rfl⟩
      obtain ⟨W, hW⟩ : ∃ x, x = wr.alloc (.cells #[.int .i64 kd, .int .i64 a, .int .i64 b, .int .i64 n, .int .u8 m] 34) := ⟨_, rfl⟩
      have hbW : Below wr.heap.size wr W := by rw [hW]; exact (Below.refl _ _).alloc (Nat.le_refl _) _
      have hkW : Blk W p 34 #[.int .i64 kd, .int .i64 a, .int .i64 b, .int .i64 n, .int .u8 m] := by rw [hW, hp]; exact Blk.new _ _ _
      have HPp := Lib.hid hp
      have HWW := Lib.hid hW
      clear hp hW
      have H_1 := Lib.hid (HTW.out.below hbW)
      have T_2 := Lib.hid (HT.out.trans (hbW.mono HT.out.size))
      clear HTW HT
      have K_3 := Lib.hid (hkW)
      clear hbW hkW
      go_upto_region 8 with fail
      rw [← HWW.out, ← HPp.out]
      clear y1 y2 y3 y4 y5
      have z0 := K_3.out.cell 0
      have z1 := K_3.out.cell 1
      have z2 := K_3.out.cell 2
      have z3 := K_3.out.cell 3
      have z4 := K_3.out.cell 4
      go_wp2_with fail
      refine (tChanges w.heap.size W g M H_1.out T_2.out.size kd a b n m HOP.out).mono ?_
      rintro e w4 ⟨⟨u4, x4, rfl⟩, h4, t4⟩
      have T_4 := Lib.hid (T_2.out.trans t4.below)
      clear z0
      clear z1
      clear z2
      clear z3
      clear z4
      have K_5 := Lib.hid (t4.blk (by decide) (by decide) K_3.out)
      have z0 := K_5.out.cell 0
      have z1 := K_5.out.cell 1
      have z2 := K_5.out.cell 2
      have z3 := K_5.out.cell 3
      have z4 := K_5.out.cell 4
      clear T_2 K_3
      have H_6 := Lib.hid (h4)
      clear h4 t4
      by_cases hkd : kd = 1
      · subst hkd
        have HMS : Hid (makes (os.take (k + 1)) = mc + 1) := Lib.hid (by rw [HTK.out, makes_snoc, if_pos rfl, HMC.out])
        go_wp2_with fail
        go_roundw
        case rel => exact ⟨k + 1, by omega, by go_num, by rw [HMS.out]; go_num, Lib.hid (by rw [HTK.out, runsT_snoc, ← HM.out]; exact H_6.out), T_4⟩
        case measure => simp [intOf]; omega
      · have hkd2 : (kd == 1) = false := by simpa using hkd
        have HMS : Hid (makes (os.take (k + 1)) = mc) := Lib.hid (by rw [HTK.out, makes_snoc, if_neg hkd, HMC.out]; rfl)
        go_wp2_with fail
        go_roundw
        case rel => exact ⟨k + 1, by omega, by go_num, by rw [HMS.out], Lib.hid (by rw [HTK.out, runsT_snoc, ← HM.out]; exact H_6.out), T_4⟩
        case measure => simp [intOf]; omega
    · obtain rfl : k = os.length := by omega
      obtain ⟨mc, hmc⟩ : ∃ mc, mc = makes (os.take os.length) := ⟨_, rfl⟩
      rw [← hmc]
      have hmc2 : mc ≤ os.length := by rw [hmc]; exact Nat.le_trans (makes_le _) (by simp)
      have HOWN : Hid ((RM.new.runsT (os.take os.length)).own.length = min mc 65536) := Lib.hid (by have := own_runs (os.take os.length) RM.new (by simp [RM.new]); rw [this, ← hmc]; simp [RM.new])
      rw [List.take_length] at HOWN
      clear hmc
      rw [List.take_length] at HTW
      obtain ⟨M, hM⟩ : ∃ M, M = (RM.new : RM SV).runsT os := ⟨_, rfl⟩
      rw [← hM] at HTW HOWN
      have HM := Lib.hid hM
      clear hM
      go_wp2_with fail
      have hbig : os.length ≤ 9223372036854775807 := Nat.le_trans hc1 hc2
      go_loopw [16, 15] (fun i tt wr => ∃ n : Nat, 1 ≤ n ∧ n ≤ min mc 199 + 1 ∧ i = .int .i64 n ∧ tt = .int .i64 (M.headSum (n - 1) : Nat) ∧ Hid (RpT w.heap.size wr g M) ∧ Hid (Below w.heap.size w wr)) (fun i _ _ => 200 - (intOf i).toNat)
      case atStart => exact ⟨1, Nat.le_refl _, by omega, rfl, rfl, HTW, HT⟩
      case round =>
        obtain ⟨n, hn1, hn2, rfl, rfl, HH, HTT⟩ := hrel
        by_cases hlt : n ≤ mc ∧ n < 200
        · have hn : 1 ≤ n ∧ n ≤ M.own.length := by have := HOWN.out; omega
          have d1 : decide (n ≤ mc) = true := by simp; omega
          have d2 : decide ((n : Int) < 200) = true := by simp; omega
          have d3 : decide (n < 200) = true := by simp; omega
          have E1 := Lib.hid (errA_nat hn)
          have E2 := Lib.hid (rowA_nat hn)
          have E3 := Lib.hid (count_one HH.out.1.ok hn)
          obtain ⟨hs0, hhs⟩ : ∃ z, z = M.headSum (n - 1) := ⟨_, rfl⟩
          have hs1 : hs0 ≤ 13107200 := by
            have h1 := headSum_le HH.out.1.ok (n - 1)
            have h2 := HH.out.1.few
            have h3 : (n - 1) * M.own.length ≤ 200 * 65536 := Nat.mul_le_mul (by omega) h2
            omega
          have E4 : Hid (M.headSum (n + 1 - 1) = hs0 + M.headLen n) := Lib.hid (by rw [hhs, show n + 1 - 1 = (n - 1) + 1 by omega, headSum_succ, show n - 1 + 1 = n by omega])
          rw [← hhs]
          obtain ⟨ln, hln⟩ : ∃ z, z = (M.rowOf n).length := ⟨_, rfl⟩
          have hl0 : 0 < (M.rowOf n).length := List.length_pos_of_mem (row_mem HH.out.1.ok hn).2
          have hl1 : ln ≤ 65536 := by rw [hln]; exact Nat.le_trans (row_len HH.out.1.ok (row_mem HH.out.1.ok hn).1) HH.out.1.few
          have HLN := Lib.hid hln
          have HL0 := Lib.hid hl0
          have hl2 : 0 < ln := by omega
          clear hhs hln hl0 hn
          go_wp2_with fail
          refine (bList w.heap.size noQ wr g M HH.out.1 n).mono ?_
          rw [E1.out, E2.out]
          rintro e w6 ⟨v6, rfl, hl6, t6⟩
          obtain ⟨A6, c6, hv6, -, -, -, -⟩ := (hl6.rk encI_len (Nat.le_refl _)).open_
          rw [List.length_map, ← HLN.out] at hv6
          subst hv6
          have H_7 := Lib.hid (HH.out.below t6)
          have T_8 := Lib.hid (HTT.out.trans (t6.mono HTT.out.size))
          clear HH HTT
          have X_9 := Lib.hid (hl6)
          clear hl6 t6 d1 d2 d3
          go_wp2_with fail
          go_loopw [83, 19] (fun j tm wx => ∃ q : Nat, q ≤ ln ∧ j = .int .i64 q ∧ tm = .int .i64 (((M.rowOf n).take q).count n : Nat) ∧ wx = w6) (fun j _ _ => ln - (intOf j).toNat)
          case atStart => exact ⟨0, Nat.zero_le _, rfl, rfl, rfl⟩
          case round =>
            obtain ⟨q, hq, rfl, rfl, hwx⟩ := hrel
            rw [hwx]
            clear hwx
            by_cases hqn : q < ln
            · have hqr : q < (M.rowOf n).length := by have := HLN.out; omega
              obtain ⟨bq, oq, rfl, hxq⟩ := X_9.out.cellRow (q := q) (by rw [List.length_map]; exact hqr)
              obtain ⟨y, hy⟩ : ∃ y, y = (M.rowOf n)[q] := ⟨_, rfl⟩
              have y1 : w6.cell? ⟨bq, oq + q, none⟩ = some (.int .i64 (y : Int)) := by rw [List.getElem_map, ← hy] at hxq; exact hxq
              have F1 : Hid (((M.rowOf n).take (q + 1)).count n = ((M.rowOf n).take q).count n + if y = n then 1 else 0) := Lib.hid (by rw [hy]; exact count_succ hqr)
              obtain ⟨cn, hcn⟩ : ∃ cn, cn = ((M.rowOf n).take q).count n := ⟨_, rfl⟩
              have hcl : cn ≤ 65536 := by
                rw [hcn]
                refine Nat.le_trans List.count_le_length ?_
                rw [List.length_take]; omega
              rw [← hcn]
              rw [← hcn] at F1
              clear hxq hy hcn
              by_cases hyn : y = n
              · subst hyn
                go_wp2_with fail
                go_roundw
                case rel => exact ⟨q + 1, by omega, by go_num, by rw [F1.out, if_pos rfl]; go_num, by first | rfl | trivial⟩
                case measure => simp [intOf]; omega
              · have d1 : ((y : Int) == (n : Int)) = false := by simp; omega
                have d2 : (y == n) = false := by simp; omega
                have d3 : decide (y = n) = false := by simp; omega
                go_wp2_with fail
                go_roundw
                case rel => exact ⟨q + 1, by omega, by go_num, by rw [F1.out, if_neg hyn, Nat.add_zero], by first | rfl | trivial⟩
                case measure => simp [intOf]; omega
            · obtain rfl : q = ln := by omega
              have hone : ((M.rowOf n).take q).count n = 1 := by rw [HLN.out, List.take_length]; exact E3.out
              rw [hone]
              clear hone
              obtain ⟨bq, oq, rfl, hxq⟩ := X_9.out.cellRow (q := 0) (by rw [List.length_map]; exact HL0.out)
              obtain ⟨y, hy⟩ : ∃ y, y = (M.rowOf n)[0]'HL0.out := ⟨_, rfl⟩
              have y1 : w6.cell? ⟨bq, oq, none⟩ = some (.int .i64 (y : Int)) := by rw [List.getElem_map, ← hy] at hxq; exact hxq
              have F1 := Lib.hid (headLen_at HL0.out hy HLN.out)
              clear hxq hy
              by_cases hyn : y = n
              · subst hyn
                go_wp2_with fail
                go_roundw
                case rel => exact ⟨y + 1, by omega, by omega, by go_num, by rw [E4.out, F1.out, if_pos rfl]; go_num, H_7, T_8⟩
                case measure => simp [intOf]; omega
              · have d1 : ((y : Int) == (n : Int)) = false := by simp; omega
                have d2 : (y == n) = false := by simp; omega
                have d3 : decide (y = n) = false := by simp; omega
                go_wp2_with fail
                go_roundw
                case rel => exact ⟨n + 1, by omega, by omega, by go_num, by rw [E4.out, F1.out, if_neg hyn]; rfl, H_7, T_8⟩
                case measure => simp [intOf]; omega
        · go_upto_region 14 with fail
          go_cut [70] from 64 (fun z wx => z = .bool false ∧ wx = wr)
          case first =>
            by_cases hm1 : n ≤ mc
            · have d1 : decide (n ≤ mc) = true := by simpa using hm1
              have d2 : decide ((n : Int) < 200) = false := by simp; omega
              have d3 : decide (n < 200) = false := by simp; omega
              go_wp2_with fail
              go_meet
              exact ⟨rfl, rfl⟩
            · have d1 : decide (n ≤ mc) = false := by simp; omega
              go_wp2_with fail
              go_meet
              exact ⟨rfl, rfl⟩
          case rest =>
          obtain ⟨rfl, hwc⟩ := hcut
          rw [hwc]
          clear hwc
          go_upto_region 30 with fail
          go_cut [110] from 104 (fun z wx => z = .bool false ∧ wx = wr)
          case first =>
            by_cases hm2 : mc < 200
            · have hn3 : n - 1 = mc := by omega
              have hhs : M.headSum (n - 1) = mc := by
                have h1 := headSum_all HH.out.1.ok
                have h2 := HOWN.out
                rw [hn3]
                rw [show M.own.length = mc by omega] at h1
                exact h1
              clear hn3
              have d4 : decide ((mc : Int) < 200) = true := by simp; omega
              have d5 : decide (mc < 200) = true := by simp; omega
              have d6 : (((M.headSum (n - 1) : Nat) : Int) != (mc : Int)) = false := by rw [hhs]; simp
              have d7 : decide (M.headSum (n - 1) = mc) = true := by simpa using hhs
              have d8 : (M.headSum (n - 1) != mc) = false := by rw [hhs]; simp
              have d9 : (M.headSum (n - 1) == mc) = true := by rw [hhs]; simp
              clear hhs
              go_wp2_with fail
              go_meet
              exact ⟨rfl, rfl⟩
            · have d4 : decide ((mc : Int) < 200) = false := by simp; omega
              have d5 : decide (mc < 200) = false := by simp; omega
              go_wp2_with fail
              go_meet
              exact ⟨rfl, rfl⟩
          case rest =>
          obtain ⟨rfl, hwc⟩ := hcut
          rw [hwc]
          clear hwc
          by_cases hka : M.known qa = true
          · obtain ⟨i, rfl, hi⟩ := known_nat hka
            by_cases hkb : M.known qb = true
            · obtain ⟨j, rfl, hj⟩ := known_nat hkb
              by_cases hsm : M.sameA (i : Int) (j : Int) = true
              · clear hka hkb
                have EA := Lib.hid (errA_nat hi)
                have EB := Lib.hid (errA_nat hj)
                have SAB := Lib.hid hsm
                have JE := Lib.hid (same_known hsm)
                obtain ⟨st, hst⟩ : ∃ z, M.sameA i qc = z := ⟨_, rfl⟩
                obtain ⟨sf, hsf⟩ : ∃ z, M.sameA j qc = z := ⟨_, rfl⟩
                have ST := Lib.hid hst
                have SF := Lib.hid hsf
                clear hst hsf
                obtain ⟨MJ, hMJ⟩ : ∃ z, M.joinA i j = z := ⟨_, rfl⟩
                have JM := Lib.hid hMJ
                have JR : Hid (MJ.rowA qc = M.rowA qc) := Lib.hid (by rw [← hMJ, join_not (by rw [JE.out]; decide)])
                clear hMJ
                go_wp2_with fail
                refine (bList w.heap.size noQ wr g M HH.out.1 i).mono ?_
                rw [EA.out]
                rintro e w6 ⟨vw6, rfl, hlw6, tw6⟩
                obtain ⟨Aw6, cw6, hvw6, -, -, -, -⟩ := (hlw6.rk encI_len (Nat.le_refl _)).open_
                obtain ⟨nw6, hnw6⟩ : ∃ z, z = ((M.rowA i).map natI).length := ⟨_, rfl⟩
                rw [← hnw6] at hvw6
                subst hvw6
                have HNw6 := Lib.hid hnw6
                clear hnw6
                have H_10 := Lib.hid (HH.out.below tw6)
                have T_11 := Lib.hid (HTT.out.trans (tw6.mono HTT.out.size))
                clear HH HTT
                have X_12 := Lib.hid (hlw6)
                clear hlw6 tw6
                go_wp2_with fail
                refine (bList w.heap.size noQ w6 g M H_10.out.1 j).mono ?_
                rw [EB.out]
                rintro e w7 ⟨vw7, rfl, hlw7, tw7⟩
                obtain ⟨Aw7, cw7, hvw7, -, -, -, -⟩ := (hlw7.rk encI_len (Nat.le_refl _)).open_
                obtain ⟨nw7, hnw7⟩ : ∃ z, z = ((M.rowA j).map natI).length := ⟨_, rfl⟩
                rw [← hnw7] at hvw7
                subst hvw7
                have HNw7 := Lib.hid hnw7
                clear hnw7
                have H_13 := Lib.hid (H_10.out.below tw7)
                have T_14 := Lib.hid (T_11.out.trans (tw7.mono T_11.out.size))
                have X_15 := Lib.hid (X_12.out.below tw7)
                clear H_10 T_11 X_12
                have Y_16 := Lib.hid (hlw7)
                clear hlw7 tw7
                go_wp2_with fail
                refine (bList w.heap.size noQ w7 g M H_13.out.1 qc).mono ?_
                rintro e w8 ⟨vw8, rfl, hlw8, tw8⟩
                obtain ⟨Aw8, cw8, hvw8, -, -, -, -⟩ := (hlw8.rk encI_len (Nat.le_refl _)).open_
                obtain ⟨nw8, hnw8⟩ : ∃ z, z = ((M.rowA qc).map natI).length := ⟨_, rfl⟩
                rw [← hnw8] at hvw8
                subst hvw8
                have HNw8 := Lib.hid hnw8
                clear hnw8
                have H_17 := Lib.hid (H_13.out.below tw8)
                have T_18 := Lib.hid (T_14.out.trans (tw8.mono T_14.out.size))
                have X_19 := Lib.hid (X_15.out.below tw8)
                have Y_20 := Lib.hid (Y_16.out.below tw8)
                clear H_13 T_14 X_15 Y_16
                have Z_21 := Lib.hid (hlw8)
                clear hlw8 tw8
                go_wp2_with fail
                refine (bSame w.heap.size noQ w8 g M H_17.out.1 i j).mono ?_
                rw [SAB.out]
                rintro e w9 ⟨rfl, h9⟩
                subst w9
                go_wp2_with fail
                refine (bSame w.heap.size noQ w8 g M H_17.out.1 i qc).mono ?_
                rw [ST.out]
                rintro e w9 ⟨rfl, h9⟩
                subst w9
                go_wp2_with fail
                refine (bSame w.heap.size noQ w8 g M H_17.out.1 j qc).mono ?_
                rw [SF.out]
                rintro e w9 ⟨rfl, h9⟩
                subst w9
                go_wp2_with fail
                refine (bJoin w.heap.size noQ w8 g M H_17.out.1 T_18.out.size i j).mono ?_
                rw [JE.out, JM.out]
                rintro e w10 ⟨rfl, h10, t10⟩
                have T_22 := Lib.hid (T_18.out.trans t10.below)
                have X_23 := Lib.hid (t10.row (by decide) (by decide) X_19.out)
                have Y_24 := Lib.hid (t10.row (by decide) (by decide) Y_20.out)
                have Z_25 := Lib.hid (t10.row (by decide) (by decide) Z_21.out)
                clear T_18 X_19 Y_20 Z_21
                clear H_17
                have H_26 := Lib.hid (h10)
                clear h10 t10
                go_wp2_with fail
                refine (bList w.heap.size noQ w10 g MJ H_26.out qc).mono ?_
                rintro e w11 ⟨vw11, rfl, hlw11, tw11⟩
                obtain ⟨Aw11, cw11, hvw11, -, -, -, -⟩ := (hlw11.rk encI_len (Nat.le_refl _)).open_
                obtain ⟨nw11, hnw11⟩ : ∃ z, z = ((MJ.rowA qc).map natI).length := ⟨_, rfl⟩
                rw [← hnw11] at hvw11
                subst hvw11
                have HNw11 := Lib.hid hnw11
                clear hnw11
                have H_27 := Lib.hid (H_26.out.below tw11)
                have T_28 := Lib.hid (T_22.out.trans (tw11.mono T_22.out.size))
                have X_29 := Lib.hid (X_23.out.below tw11)
                have Y_30 := Lib.hid (Y_24.out.below tw11)
                have Z_31 := Lib.hid (Z_25.out.below tw11)
                clear H_26 T_22 X_23 Y_24 Z_25
                have N_32 := Lib.hid (hlw11)
                clear hlw11 tw11
                go_wp2_with fail
                refine (SameInts_yes _ _ ((M.rowA qc).map natI) w11 w11.heap.size w11.heap.size (by have := N_32.out.rk encI_len (Nat.le_refl _); rw [JR.out] at this; exact this) (Z_31.out.rk encI_len (Nat.le_refl _))).mono ?_
                rintro e w12 ⟨rfl, q, rfl⟩
                have TE := Lib.hid (below_drewN T_28.out q)
                go_wp2_with fail
                go_ret
                exact ⟨rfl, TE.out⟩
              · clear hka hkb
                have hsm' : M.sameA (i : Int) (j : Int) = false := by simpa using hsm
                have EA := Lib.hid (errA_nat hi)
                have EB := Lib.hid (errA_nat hj)
                have SAB := Lib.hid hsm'
                have RJ := Lib.hid (rows_join HH.out.1.ok hi hj hsm')
                have JE := Lib.hid RJ.out.1
                have LX : Hid ((M.rowA (i : Int)).length ≤ 65536) := Lib.hid (by rw [rowA_nat hi]; exact Nat.le_trans (row_len HH.out.1.ok (row_mem HH.out.1.ok hi).1) HH.out.1.few)
                have LY : Hid ((M.rowA (j : Int)).length ≤ 65536) := Lib.hid (by rw [rowA_nat hj]; exact Nat.le_trans (row_len HH.out.1.ok (row_mem HH.out.1.ok hj).1) HH.out.1.few)
                have RI1 := Lib.hid (rowA_nat hi)
                have RI2 := Lib.hid (rowA_nat hj)
                clear hsm'
                obtain ⟨st, hst⟩ : ∃ z, M.sameA i qc = z := ⟨_, rfl⟩
                obtain ⟨sf, hsf⟩ : ∃ z, M.sameA j qc = z := ⟨_, rfl⟩
                have ST := Lib.hid hst
                have SF := Lib.hid hsf
                clear hst hsf
                obtain ⟨MJ, hMJ⟩ : ∃ z, M.joinA i j = z := ⟨_, rfl⟩
                have JM := Lib.hid hMJ
                rw [hMJ] at RJ
                clear hMJ
                go_wp2_with fail
                refine (bList w.heap.size noQ wr g M HH.out.1 i).mono ?_
                rw [EA.out]
                rintro e w6 ⟨vw6, rfl, hlw6, tw6⟩
                obtain ⟨Aw6, cw6, hvw6, -, -, -, -⟩ := (hlw6.rk encI_len (Nat.le_refl _)).open_
                obtain ⟨nw6, hnw6⟩ : ∃ z, z = ((M.rowA i).map natI).length := ⟨_, rfl⟩
                rw [← hnw6] at hvw6
                subst hvw6
                have HNw6 := Lib.hid hnw6
                clear hnw6
                have H_33 := Lib.hid (HH.out.below tw6)
                have T_34 := Lib.hid (HTT.out.trans (tw6.mono HTT.out.size))
                clear HH HTT
                have X_35 := Lib.hid (hlw6)
                clear hlw6 tw6
                go_wp2_with fail
                refine (bList w.heap.size noQ w6 g M H_33.out.1 j).mono ?_
                rw [EB.out]
                rintro e w7 ⟨vw7, rfl, hlw7, tw7⟩
                obtain ⟨Aw7, cw7, hvw7, -, -, -, -⟩ := (hlw7.rk encI_len (Nat.le_refl _)).open_
                obtain ⟨nw7, hnw7⟩ : ∃ z, z = ((M.rowA j).map natI).length := ⟨_, rfl⟩
                rw [← hnw7] at hvw7
                subst hvw7
                have HNw7 := Lib.hid hnw7
                clear hnw7
                have H_36 := Lib.hid (H_33.out.below tw7)
                have T_37 := Lib.hid (T_34.out.trans (tw7.mono T_34.out.size))
                have X_38 := Lib.hid (X_35.out.below tw7)
                clear H_33 T_34 X_35
                have Y_39 := Lib.hid (hlw7)
                clear hlw7 tw7
                go_wp2_with fail
                refine (bList w.heap.size noQ w7 g M H_36.out.1 qc).mono ?_
                rintro e w8 ⟨vw8, rfl, hlw8, tw8⟩
                obtain ⟨Aw8, cw8, hvw8, -, -, -, -⟩ := (hlw8.rk encI_len (Nat.le_refl _)).open_
                obtain ⟨nw8, hnw8⟩ : ∃ z, z = ((M.rowA qc).map natI).length := ⟨_, rfl⟩
                rw [← hnw8] at hvw8
                subst hvw8
                have HNw8 := Lib.hid hnw8
                clear hnw8
                have H_40 := Lib.hid (H_36.out.below tw8)
                have T_41 := Lib.hid (T_37.out.trans (tw8.mono T_37.out.size))
                have X_42 := Lib.hid (X_38.out.below tw8)
                have Y_43 := Lib.hid (Y_39.out.below tw8)
                clear H_36 T_37 X_38 Y_39
                have Z_44 := Lib.hid (hlw8)
                clear hlw8 tw8
                go_wp2_with fail
                refine (bSame w.heap.size noQ w8 g M H_40.out.1 i j).mono ?_
                rw [SAB.out]
                rintro e w9 ⟨rfl, h9⟩
                subst w9
                go_wp2_with fail
                refine (bSame w.heap.size noQ w8 g M H_40.out.1 i qc).mono ?_
                rw [ST.out]
                rintro e w9 ⟨rfl, h9⟩
                subst w9
                go_wp2_with fail
                refine (bSame w.heap.size noQ w8 g M H_40.out.1 j qc).mono ?_
                rw [SF.out]
                rintro e w9 ⟨rfl, h9⟩
                subst w9
                go_wp2_with fail
                refine (bJoin w.heap.size noQ w8 g M H_40.out.1 T_41.out.size i j).mono ?_
                rw [JE.out, JM.out]
                rintro e w10 ⟨rfl, h10, t10⟩
                have T_45 := Lib.hid (T_41.out.trans t10.below)
                have X_46 := Lib.hid (t10.row (by decide) (by decide) X_42.out)
                have Y_47 := Lib.hid (t10.row (by decide) (by decide) Y_43.out)
                have Z_48 := Lib.hid (t10.row (by decide) (by decide) Z_44.out)
                clear T_41 X_42 Y_43 Z_44
                clear H_40
                have H_49 := Lib.hid (h10)
                clear h10 t10
                go_wp2_with fail
                refine (bList w.heap.size noQ w10 g MJ H_49.out qc).mono ?_
                rintro e w11 ⟨vw11, rfl, hlw11, tw11⟩
                obtain ⟨Aw11, cw11, hvw11, -, -, -, -⟩ := (hlw11.rk encI_len (Nat.le_refl _)).open_
                obtain ⟨nw11, hnw11⟩ : ∃ z, z = ((MJ.rowA qc).map natI).length := ⟨_, rfl⟩
                rw [← hnw11] at hvw11
                subst hvw11
                have HNw11 := Lib.hid hnw11
                clear hnw11
                have H_50 := Lib.hid (H_49.out.below tw11)
                have T_51 := Lib.hid (T_45.out.trans (tw11.mono T_45.out.size))
                have X_52 := Lib.hid (X_46.out.below tw11)
                have Y_53 := Lib.hid (Y_47.out.below tw11)
                have Z_54 := Lib.hid (Z_48.out.below tw11)
                clear H_49 T_45 X_46 Y_47 Z_48
                have N_55 := Lib.hid (hlw11)
                clear hlw11 tw11
                go_wp2_with fail
                refine (CopyInts_any _ _ w11 w11.heap.size (X_52.out.rk encI_len (Nat.le_refl _)) (Nat.le_refl _) (by rw [List.length_map]; exact Nat.le_trans LX.out (by omega))).mono ?_
                rintro e w12 ⟨v12, rfl, hl12, t12⟩
                obtain ⟨A12, c12, hv12, -, -, -, -⟩ := (hl12.rk encI_len (Nat.le_refl _)).open_
                rw [← HNw6.out] at hv12
                subst hv12
                have HC12 := Lib.hid hl12
                have HT12 := Lib.hid t12
                have HY12 := Lib.hid (Y_53.out.below t12)
                clear hl12 t12
                go_wp2_with (at_builtin; go_loud (refine wpList_appN etInts encI_len encI_one rfl (.tmp 178) (.tmp 179) rfl rfl HC12.out rfl (HY12.out.rk encI_len (Nat.le_refl _)) (by rw [List.length_map, List.length_map]; have := LX.out; have := LY.out; omega) HT12.out.size ?_; intro v13 w13 k1 k2 k3; have hb13 : Below w11.heap.size w11 w13 := HT12.out.grown k2 HT12.out.size (fun q hq => (HC12.out.lt q hq).1); obtain ⟨A13, c13, hv13, -, -, -, -⟩ := (k1.rk encI_len (Nat.le_refl _)).open_; obtain ⟨n13, hn13⟩ : ∃ z, z = ((M.rowA (i : Int)).map natI ++ (M.rowA (j : Int)).map natI).length := ⟨_, rfl⟩; rw [← hn13] at hv13; subst hv13; have K13 := Lib.hid k1; have HB13 := Lib.hid hb13; clear k1 k2 k3 hb13 hn13))
                have t13 := HB13.out
                have H_56 := Lib.hid (H_50.out.below t13)
                have T_57 := Lib.hid (T_51.out.trans (t13.mono T_51.out.size))
                have Z_58 := Lib.hid (Z_54.out.below t13)
                have N_59 := Lib.hid (N_55.out.below t13)
                clear H_50 T_51 Z_54 N_55
                have C_60 := Lib.hid (K13.out)
                clear t13
                refine (bList w.heap.size noQ w13 g MJ H_56.out i).mono ?_
                rw [RJ.out.2.2.1]
                rintro e w14 ⟨v14, rfl, hl14, t14⟩
                obtain ⟨A14, c14, hv14, -, -, -, -⟩ := (hl14.rk encI_len (Nat.le_refl _)).open_
                obtain ⟨n14, hn14⟩ : ∃ z, z = ((MJ.rowA (i : Int)).map natI).length := ⟨_, rfl⟩
                rw [← hn14] at hv14
                subst hv14
                clear hn14
                have H_61 := Lib.hid (H_56.out.below t14)
                have T_62 := Lib.hid (T_57.out.trans (t14.mono T_57.out.size))
                have Z_63 := Lib.hid (Z_58.out.below t14)
                have N_64 := Lib.hid (N_59.out.below t14)
                have C_65 := Lib.hid (C_60.out.below t14)
                clear H_56 T_57 Z_58 N_59 C_60
                have L_66 := Lib.hid (hl14)
                clear hl14 t14
                have EQ : Hid ((MJ.rowA (i : Int)).map natI = (M.rowA (i : Int)).map natI ++ (M.rowA (j : Int)).map natI) := Lib.hid (by rw [RJ.out.2.1, RI1.out, RI2.out, List.map_append])
                by_cases hst : st = true
                · subst hst
                  go_wp2_with fail
                  refine (SameInts_yes _ _ ((M.rowA (i : Int)).map natI ++ (M.rowA (j : Int)).map natI) w14 w14.heap.size w14.heap.size (by have := L_66.out.rk encI_len (Nat.le_refl _); rw [EQ.out] at this; exact this) (C_65.out.rk encI_len (Nat.le_refl _))).mono ?_
                  rintro e w15 ⟨rfl, q, rfl⟩
                  have TE := Lib.hid (below_drewN T_62.out q)
                  go_wp2_with fail
                  go_ret
                  exact ⟨rfl, TE.out⟩
                · have hst2 : st = false := by simpa using hst
                  subst hst2
                  clear hst
                  by_cases hsf : sf = true
                  · subst hsf
                    go_wp2_with fail
                    refine (SameInts_yes _ _ ((M.rowA (i : Int)).map natI ++ (M.rowA (j : Int)).map natI) w14 w14.heap.size w14.heap.size (by have := L_66.out.rk encI_len (Nat.le_refl _); rw [EQ.out] at this; exact this) (C_65.out.rk encI_len (Nat.le_refl _))).mono ?_
                    rintro e w15 ⟨rfl, q, rfl⟩
                    have TE := Lib.hid (below_drewN T_62.out q)
                    go_wp2_with fail
                    go_ret
                    exact ⟨rfl, TE.out⟩
                  · have hsf2 : sf = false := by simpa using hsf
                    subst hsf2
                    clear hsf
                    have EQ2 : Hid ((MJ.rowA qc).map natI = (M.rowA qc).map natI) := Lib.hid (by rw [RJ.out.2.2.2 qc ST.out SF.out])
                    go_wp2_with fail
                    refine (SameInts_yes _ _ ((M.rowA (i : Int)).map natI ++ (M.rowA (j : Int)).map natI) w14 w14.heap.size w14.heap.size (by have := L_66.out.rk encI_len (Nat.le_refl _); rw [EQ.out] at this; exact this) (C_65.out.rk encI_len (Nat.le_refl _))).mono ?_
                    rintro e w15 ⟨rfl, q, rfl⟩
                    have TE := Lib.hid (below_drewN T_62.out q)
                    go_wp2_with fail
                    refine (SameInts_yes _ _ ((M.rowA qc).map natI) (w14.drewN q) w14.heap.size w14.heap.size (by have := N_64.out.rk encI_len (Nat.le_refl _); rw [EQ2.out] at this; exact this.drewN q) ((Z_63.out.rk encI_len (Nat.le_refl _)).drewN q)).mono ?_
                    rintro e w16 ⟨rfl, q2, rfl⟩
                    have TE2 := Lib.hid (below_drewN TE.out q2)
                    go_wp2_with fail
                    go_ret
                    exact ⟨rfl, by first | exact TE2.out | (rw [← World.drewN_drewN]; exact TE2.out)⟩
            ·
              have HX1 := Lib.hid (nk_snd (by simpa using hkb) (i : Int))
              have EA := Lib.hid (errA_nat hi)
              have EB := Lib.hid HX1.out.1
              have SAB := Lib.hid HX1.out.2.1
              have JE := Lib.hid HX1.out.2.2
              obtain ⟨st, hst⟩ : ∃ z, M.sameA i qc = z := ⟨_, rfl⟩
              obtain ⟨sf, hsf⟩ : ∃ z, M.sameA qb qc = z := ⟨_, rfl⟩
              have ST := Lib.hid hst
              have SF := Lib.hid hsf
              clear hst hsf
              obtain ⟨MJ, hMJ⟩ : ∃ z, M.joinA i qb = z := ⟨_, rfl⟩
              have JM := Lib.hid hMJ
              have JR : Hid (MJ.rowA qc = M.rowA qc) := Lib.hid (by rw [← hMJ, join_not (by rw [JE.out]; decide)])
              clear hMJ
              go_wp2_with fail
              refine (bList w.heap.size noQ wr g M HH.out.1 i).mono ?_
              rw [EA.out]
              rintro e w6 ⟨vw6, rfl, hlw6, tw6⟩
              obtain ⟨Aw6, cw6, hvw6, -, -, -, -⟩ := (hlw6.rk encI_len (Nat.le_refl _)).open_
              obtain ⟨nw6, hnw6⟩ : ∃ z, z = ((M.rowA i).map natI).length := ⟨_, rfl⟩
              rw [← hnw6] at hvw6
              subst hvw6
              have HNw6 := Lib.hid hnw6
              clear hnw6
              have H_67 := Lib.hid (HH.out.below tw6)
              have T_68 := Lib.hid (HTT.out.trans (tw6.mono HTT.out.size))
              clear HH HTT
              have X_69 := Lib.hid (hlw6)
              clear hlw6 tw6
              go_wp2_with fail
              refine (bList w.heap.size noQ w6 g M H_67.out.1 qb).mono ?_
              rw [EB.out]
              rintro e w7 ⟨vw7, rfl, hlw7, tw7⟩
              obtain ⟨Aw7, cw7, hvw7, -, -, -, -⟩ := (hlw7.rk encI_len (Nat.le_refl _)).open_
              obtain ⟨nw7, hnw7⟩ : ∃ z, z = ((M.rowA qb).map natI).length := ⟨_, rfl⟩
              rw [← hnw7] at hvw7
              subst hvw7
              have HNw7 := Lib.hid hnw7
              clear hnw7
              have H_70 := Lib.hid (H_67.out.below tw7)
              have T_71 := Lib.hid (T_68.out.trans (tw7.mono T_68.out.size))
              have X_72 := Lib.hid (X_69.out.below tw7)
              clear H_67 T_68 X_69
              have Y_73 := Lib.hid (hlw7)
              clear hlw7 tw7
              go_wp2_with fail
              refine (bList w.heap.size noQ w7 g M H_70.out.1 qc).mono ?_
              rintro e w8 ⟨vw8, rfl, hlw8, tw8⟩
              obtain ⟨Aw8, cw8, hvw8, -, -, -, -⟩ := (hlw8.rk encI_len (Nat.le_refl _)).open_
              obtain ⟨nw8, hnw8⟩ : ∃ z, z = ((M.rowA qc).map natI).length := ⟨_, rfl⟩
              rw [← hnw8] at hvw8
              subst hvw8
              have HNw8 := Lib.hid hnw8
              clear hnw8
              have H_74 := Lib.hid (H_70.out.below tw8)
              have T_75 := Lib.hid (T_71.out.trans (tw8.mono T_71.out.size))
              have X_76 := Lib.hid (X_72.out.below tw8)
              have Y_77 := Lib.hid (Y_73.out.below tw8)
              clear H_70 T_71 X_72 Y_73
              have Z_78 := Lib.hid (hlw8)
              clear hlw8 tw8
              go_wp2_with fail
              refine (bSame w.heap.size noQ w8 g M H_74.out.1 i qb).mono ?_
              rw [SAB.out]
              rintro e w9 ⟨rfl, h9⟩
              subst w9
              go_wp2_with fail
              refine (bSame w.heap.size noQ w8 g M H_74.out.1 i qc).mono ?_
              rw [ST.out]
              rintro e w9 ⟨rfl, h9⟩
              subst w9
              go_wp2_with fail
              refine (bSame w.heap.size noQ w8 g M H_74.out.1 qb qc).mono ?_
              rw [SF.out]
              rintro e w9 ⟨rfl, h9⟩
              subst w9
              go_wp2_with fail
              refine (bJoin w.heap.size noQ w8 g M H_74.out.1 T_75.out.size i qb).mono ?_
              rw [JE.out, JM.out]
              rintro e w10 ⟨rfl, h10, t10⟩
              have T_79 := Lib.hid (T_75.out.trans t10.below)
              have X_80 := Lib.hid (t10.row (by decide) (by decide) X_76.out)
              have Y_81 := Lib.hid (t10.row (by decide) (by decide) Y_77.out)
              have Z_82 := Lib.hid (t10.row (by decide) (by decide) Z_78.out)
              clear T_75 X_76 Y_77 Z_78
              clear H_74
              have H_83 := Lib.hid (h10)
              clear h10 t10
              go_wp2_with fail
              refine (bList w.heap.size noQ w10 g MJ H_83.out qc).mono ?_
              rintro e w11 ⟨vw11, rfl, hlw11, tw11⟩
              obtain ⟨Aw11, cw11, hvw11, -, -, -, -⟩ := (hlw11.rk encI_len (Nat.le_refl _)).open_
              obtain ⟨nw11, hnw11⟩ : ∃ z, z = ((MJ.rowA qc).map natI).length := ⟨_, rfl⟩
              rw [← hnw11] at hvw11
              subst hvw11
              have HNw11 := Lib.hid hnw11
              clear hnw11
              have H_84 := Lib.hid (H_83.out.below tw11)
              have T_85 := Lib.hid (T_79.out.trans (tw11.mono T_79.out.size))
              have X_86 := Lib.hid (X_80.out.below tw11)
              have Y_87 := Lib.hid (Y_81.out.below tw11)
              have Z_88 := Lib.hid (Z_82.out.below tw11)
              clear H_83 T_79 X_80 Y_81 Z_82
              have N_89 := Lib.hid (hlw11)
              clear hlw11 tw11
              go_wp2_with fail
              refine (SameInts_yes _ _ ((M.rowA qc).map natI) w11 w11.heap.size w11.heap.size (by have := N_89.out.rk encI_len (Nat.le_refl _); rw [JR.out] at this; exact this) (Z_88.out.rk encI_len (Nat.le_refl _))).mono ?_
              rintro e w12 ⟨rfl, q, rfl⟩
              have TE := Lib.hid (below_drewN T_85.out q)
              go_wp2_with fail
              go_ret
              exact ⟨rfl, TE.out⟩
          ·
            have HX1 := Lib.hid (nk_fst (by simpa using hka) qb)
            have EA := Lib.hid HX1.out.1
            have SAB := Lib.hid HX1.out.2.1
            have JE := Lib.hid HX1.out.2.2
            obtain ⟨eb, heb⟩ : ∃ z, M.errA qb = z := ⟨_, rfl⟩
            have EB := Lib.hid heb
            clear heb
            obtain ⟨st, hst⟩ : ∃ z, M.sameA qa qc = z := ⟨_, rfl⟩
            obtain ⟨sf, hsf⟩ : ∃ z, M.sameA qb qc = z := ⟨_, rfl⟩
            have ST := Lib.hid hst
            have SF := Lib.hid hsf
            clear hst hsf
            obtain ⟨MJ, hMJ⟩ : ∃ z, M.joinA qa qb = z := ⟨_, rfl⟩
            have JM := Lib.hid hMJ
            have JR : Hid (MJ.rowA qc = M.rowA qc) := Lib.hid (by rw [← hMJ, join_not (by rw [JE.out]; decide)])
            clear hMJ
            go_wp2_with fail
            refine (bList w.heap.size noQ wr g M HH.out.1 qa).mono ?_
            rw [EA.out]
            rintro e w6 ⟨vw6, rfl, hlw6, tw6⟩
            obtain ⟨Aw6, cw6, hvw6, -, -, -, -⟩ := (hlw6.rk encI_len (Nat.le_refl _)).open_
            obtain ⟨nw6, hnw6⟩ : ∃ z, z = ((M.rowA qa).map natI).length := ⟨_, rfl⟩
            rw [← hnw6] at hvw6
            subst hvw6
            have HNw6 := Lib.hid hnw6
            clear hnw6
            have H_90 := Lib.hid (HH.out.below tw6)
            have T_91 := Lib.hid (HTT.out.trans (tw6.mono HTT.out.size))
            clear HH HTT
            have X_92 := Lib.hid (hlw6)
            clear hlw6 tw6
            go_wp2_with fail
            refine (bList w.heap.size noQ w6 g M H_90.out.1 qb).mono ?_
            rw [EB.out]
            rintro e w7 ⟨vw7, rfl, hlw7, tw7⟩
            obtain ⟨Aw7, cw7, hvw7, -, -, -, -⟩ := (hlw7.rk encI_len (Nat.le_refl _)).open_
            obtain ⟨nw7, hnw7⟩ : ∃ z, z = ((M.rowA qb).map natI).length := ⟨_, rfl⟩
            rw [← hnw7] at hvw7
            subst hvw7
            have HNw7 := Lib.hid hnw7
            clear hnw7
            have H_93 := Lib.hid (H_90.out.below tw7)
            have T_94 := Lib.hid (T_91.out.trans (tw7.mono T_91.out.size))
            have X_95 := Lib.hid (X_92.out.below tw7)
            clear H_90 T_91 X_92
            have Y_96 := Lib.hid (hlw7)
            clear hlw7 tw7
            go_wp2_with fail
            refine (bList w.heap.size noQ w7 g M H_93.out.1 qc).mono ?_
            rintro e w8 ⟨vw8, rfl, hlw8, tw8⟩
            obtain ⟨Aw8, cw8, hvw8, -, -, -, -⟩ := (hlw8.rk encI_len (Nat.le_refl _)).open_
            obtain ⟨nw8, hnw8⟩ : ∃ z, z = ((M.rowA qc).map natI).length := ⟨_, rfl⟩
            rw [← hnw8] at hvw8
            subst hvw8
            have HNw8 := Lib.hid hnw8
            clear hnw8
            have H_97 := Lib.hid (H_93.out.below tw8)
            have T_98 := Lib.hid (T_94.out.trans (tw8.mono T_94.out.size))
            have X_99 := Lib.hid (X_95.out.below tw8)
            have Y_100 := Lib.hid (Y_96.out.below tw8)
            clear H_93 T_94 X_95 Y_96
            have Z_101 := Lib.hid (hlw8)
            clear hlw8 tw8
            go_wp2_with fail
            refine (bSame w.heap.size noQ w8 g M H_97.out.1 qa qb).mono ?_
            rw [SAB.out]
            rintro e w9 ⟨rfl, h9⟩
            subst w9
            go_wp2_with fail
            refine (bSame w.heap.size noQ w8 g M H_97.out.1 qa qc).mono ?_
            rw [ST.out]
            rintro e w9 ⟨rfl, h9⟩
            subst w9
            go_wp2_with fail
            refine (bSame w.heap.size noQ w8 g M H_97.out.1 qb qc).mono ?_
            rw [SF.out]
            rintro e w9 ⟨rfl, h9⟩
            subst w9
            go_wp2_with fail
            refine (bJoin w.heap.size noQ w8 g M H_97.out.1 T_98.out.size qa qb).mono ?_
            rw [JE.out, JM.out]
            rintro e w10 ⟨rfl, h10, t10⟩
            have T_102 := Lib.hid (T_98.out.trans t10.below)
            have X_103 := Lib.hid (t10.row (by decide) (by decide) X_99.out)
            have Y_104 := Lib.hid (t10.row (by decide) (by decide) Y_100.out)
            have Z_105 := Lib.hid (t10.row (by decide) (by decide) Z_101.out)
            clear T_98 X_99 Y_100 Z_101
            clear H_97
            have H_106 := Lib.hid (h10)
            clear h10 t10
            go_wp2_with fail
            refine (bList w.heap.size noQ w10 g MJ H_106.out qc).mono ?_
            rintro e w11 ⟨vw11, rfl, hlw11, tw11⟩
            obtain ⟨Aw11, cw11, hvw11, -, -, -, -⟩ := (hlw11.rk encI_len (Nat.le_refl _)).open_
            obtain ⟨nw11, hnw11⟩ : ∃ z, z = ((MJ.rowA qc).map natI).length := ⟨_, rfl⟩
            rw [← hnw11] at hvw11
            subst hvw11
            have HNw11 := Lib.hid hnw11
            clear hnw11
            have H_107 := Lib.hid (H_106.out.below tw11)
            have T_108 := Lib.hid (T_102.out.trans (tw11.mono T_102.out.size))
            have X_109 := Lib.hid (X_103.out.below tw11)
            have Y_110 := Lib.hid (Y_104.out.below tw11)
            have Z_111 := Lib.hid (Z_105.out.below tw11)
            clear H_106 T_102 X_103 Y_104 Z_105
            have N_112 := Lib.hid (hlw11)
            clear hlw11 tw11
            go_wp2_with fail
            refine (SameInts_yes _ _ ((M.rowA qc).map natI) w11 w11.heap.size w11.heap.size (by have := N_112.out.rk encI_len (Nat.le_refl _); rw [JR.out] at this; exact this) (Z_111.out.rk encI_len (Nat.le_refl _))).mono ?_
            rintro e w12 ⟨rfl, q, rfl⟩
            have TE := Lib.hid (below_drewN T_108.out q)
            go_wp2_with fail
            go_ret
            exact ⟨rfl, TE.out⟩

end Go.Proofs.Ytbbfnbnjaiimgaa
