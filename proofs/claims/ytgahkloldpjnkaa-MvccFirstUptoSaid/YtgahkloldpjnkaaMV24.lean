/-
  The walk of skeinlaw14's MvccAlone.
-/
import Derived.Test.YtgahkloldpjnkaaMV23
namespace Go.Proofs.Ytgahkloldpjnkaa
open Go.RowKit Go.Maps
set_option linter.unusedVariables false

theorem bAsk0 {B g : Nat} {M : MV} {w : World} (h : TbB B w g M) (hB : B ≤ w.heap.size) (kd n : Int) (rA : Option Addr) (rn rc : Nat) (rs : List Rf) (ho : OpMAt w ⟨kd, n, rA, rn, rc, rs⟩) (hr2 : rs.length ≤ 400000) (hr3 : M.txns.length ≤ 400000) (hr4 : M.bulk + rs.length ≤ 800000) :
    Calls Try.prog 11 #[.pointer (some ⟨g, 0, none⟩), .agg #[.slice none 0 0, .int .i64 0], .agg #[.int .i64 kd, .int .i64 n, .slice rA rn rc]] w fun e w' => (∃ u, e = .returned u) ∧ TbB B w' g (M.run ⟨kd, n, rA, rn, rc, rs⟩) ∧ Tame B w w' := by
  have hz : (MV.new 0).Ok := ⟨by decide, (fun _ hx => nomatch hx), (fun _ hx => nomatch hx), by decide, by decide⟩
  have hb0 : (MV.new 0).bulk = 0 := rfl
  refine (bAsks B w g M h hB (.slice none 0 0) [] (MV.new 0) (rtab_new w hz) kd n rA rn rc rs ho (by decide) (by omega) hr3 hr4).mono ?_
  rintro e w' ⟨v', xs', b, h6, h7, h8, h9, h10⟩
  exact ⟨⟨_, h6⟩, h8, h9⟩

/-- What is known of the table when nothing is under way. -/
structure Idle (Z : MV) : Prop where
  none_ : ∀ k, Z.live? k = none
  last : Z.last ≤ 300000
  bulk : Z.bulk ≤ 400000
  len : Z.txns.length ≤ 300000

theorem idle_of {os : List OpM} {w : World} {v : Value} (h : ScrAt w v os) (k : Nat) : Idle (((MV.new 0).runs (os.take k)).giveUp ((MV.new 0).runs (os.take k)).nums) := by
  obtain ⟨M, hM⟩ : ∃ M, M = (MV.new 0).runs (os.take k) := ⟨_, rfl⟩
  have h1 := runs_small (last := 0) h k
  have h2 := runs_last (MV.new 0) (os.take k)
  have h3 := h.len
  have h0 : (MV.new 0).last = 0 := by decide
  rw [← hM] at h1 h2 ⊢
  rw [List.length_take, h0] at h2
  refine ⟨fun k => ?_, by rw [giveUp_last]; omega, by rw [giveUp_bulk]; exact h1.2, by rw [giveUp_len]; exact h1.1⟩
  cases hl : (M.giveUp M.nums).live? k with
  | none => rfl
  | some x =>
    have := mem_nums.2 (show ((M.giveUp M.nums).live? k).isSome = true by rw [hl]; rfl)
    rw [giveUp_all] at this
    cases this

theorem idle_one {Z : MV} (hz : Idle Z) (rs : List Rf) : (Z.add.touch ((Z.txns.length : Int) + 1) rs).nums.length < 8 := by
  have h : (Z.add.touch ((Z.txns.length : Int) + 1) rs).nums.length ≤ [(Z.txns.length : Int) + 1].length := by
    refine (nums_nodup _).length_le_of_subset fun k hk => ?_
    rw [mem_nums, touch_live_new (add_live_new Z)] at hk
    by_cases e : k = (Z.txns.length : Int) + 1
    · rw [e]; exact List.mem_singleton_self _
    · rw [if_neg e, live_add, if_neg e, hz.none_ k] at hk
      cases hk
  simp only [List.length_singleton] at h
  omega

set_option maxRecDepth 100000 in
set_option maxHeartbeats 2000000 in
theorem mvccAlone_walk (v0 : Value) (os : List OpM) (v1 : Value) (rs1 : List Rf) (v2 : Value) (rs2 : List Rf) (bt : Bool) (w : World) (hs : ScrAt w v0 os) (h1 : RR w w.heap.size v1 rs1) (h1r : ∀ r ∈ rs1, I64 r.snd) (h1l : rs1.length ≤ 400000) (h2 : RR w w.heap.size v2 rs2) (h2r : ∀ r ∈ rs2, I64 r.snd) (h2l : rs2.length ≤ 400000) :
    Calls Try.prog 5 #[v0, v1, v2, .bool bt] w fun e w' => e = .returned (.bool true) ∧ Below w.heap.size w w' := by
  obtain ⟨A, c, rfl, hc1, hc2, hc3, HC⟩ := hs.rk.open_
  have hlen := hs.len
  have HS := Lib.hid hs
  have R1 := Lib.hid h1
  have R2 := Lib.hid h2
  have I1 := Lib.hid h1r
  have I2 := Lib.hid h2r
  clear hs h1 h2 h1r h2r
  go_enter Try.func5, Try.ntmps5
  go_wp2_with fail
  refine (bNew w.heap.size w (Nat.le_refl _) 0 (by unfold I64; omega)).mono ?_
  rintro e w1 ⟨rfl, h1, t1⟩
  obtain ⟨g, hg⟩ : ∃ g, g = w.heap.size + 2 := ⟨_, rfl⟩
  rw [← hg] at h1 ⊢
  have H1 := Lib.hid h1
  have T1 := Lib.hid t1
  clear h1 t1 hg
  go_wp2_with fail
  refine (alive_any w1).mono ?_
  rintro e w2 ⟨rfl, hb2⟩
  have H2 := Lib.hid (H1.out.below hb2)
  have T2 := Lib.hid (T1.out.below.trans (hb2.mono T1.out.below.size))
  clear hb2
  go_wp2_with fail
  go_loopw [34] (fun i wr => ∃ k : Nat, k ≤ os.length ∧ i = .int .i64 k ∧ Hid (TbB w.heap.size wr g ((MV.new 0).runs (os.take k))) ∧ Hid (Below w.heap.size w wr)) (fun i _ => os.length - (intOf i).toNat)
  case atStart => exact ⟨0, Nat.zero_le _, rfl, H2, T2⟩
  case round =>
    obtain ⟨k, hk, rfl, HTB, HT⟩ := hrel
    by_cases hkl : k < os.length
    · obtain ⟨b1, o1, rfl, hb, hx⟩ := HC.out k hkl
      obtain ⟨hx1, hx2, hx3⟩ := cellOM hx
      have y1 : wr.cell? ⟨b1, o1 + k * 3, none⟩ = _ := (HT.out.cell (p := ⟨b1, o1 + k * 3, none⟩) hb).trans hx1
      have y2 : wr.cell? ⟨b1, o1 + k * 3 + 1, none⟩ = _ := (HT.out.cell (p := ⟨b1, o1 + k * 3 + 1, none⟩) hb).trans hx2
      have y3 : wr.cell? ⟨b1, o1 + k * 3 + 2, none⟩ = _ := (HT.out.cell (p := ⟨b1, o1 + k * 3 + 2, none⟩) hb).trans hx3
      have HOP := Lib.hid (HS.out.at_ os[k] (List.getElem_mem hkl))
      have HTK := Lib.hid (List.take_succ_eq_append_getElem hkl)
      have HSM := Lib.hid (runs_small (last := 0) HS.out k)
      have HRL := Lib.hid (Nat.le_trans (mem_sum (fun x : OpM => x.refs.length) os os[k] (List.getElem_mem hkl)) HS.out.sum)
      clear hx hx1 hx2 hx3
      obtain ⟨x, hx⟩ : ∃ x, x = os[k] := ⟨_, rfl⟩
      rw [← hx] at y1 y2 y3 HOP HTK HRL
      clear hx
      obtain ⟨M, hM⟩ : ∃ M, M = (MV.new 0).runs (os.take k) := ⟨_, rfl⟩
      rw [← hM] at HTB HSM
      have HM := Lib.hid hM
      clear hM
      obtain ⟨kd, n, rA, rn, rc, refs⟩ := x
      dsimp only at y1 y2 y3
      have hrl : refs.length ≤ 400000 := HRL.out
      obtain ⟨W, hW⟩ : ∃ W, W = wr.alloc (.cells #[.int .i64 kd, .int .i64 n, .slice rA rn rc] 32) := ⟨_, rfl⟩
      have hbW : Below wr.heap.size wr W := by rw [hW]; exact (Below.refl _ _).alloc (Nat.le_refl _) _
      have hcall := bAsk0 (HTB.out.below hbW) (HT.out.trans (hbW.mono HT.out.size)).size kd n rA rn rc refs (HOP.out.below (HT.out.trans (hbW.mono HT.out.size))) hrl (by have := HSM.out.1; omega) (by have := HSM.out.2; omega)
      have HTW := Lib.hid (HT.out.trans (hbW.mono HT.out.size))
      have HW := Lib.hid hW
      clear hbW hW HTB HT
      go_wp2_with fail
      rw [← HW.out]
      refine hcall.mono ?_
      rintro e w4 ⟨⟨u, rfl⟩, h4, t4⟩
      have H4 := Lib.hid h4
      have T4 := Lib.hid (HTW.out.trans t4.below)
      clear h4 t4 hcall
      go_wp2_with fail
      go_roundw
      case rel => exact ⟨k + 1, by omega, by go_num, Lib.hid (by rw [HTK.out, runs_snoc, ← HM.out]; exact H4.out), T4⟩
      case measure => simp [intOf]; omega
    · have HID := Lib.hid (idle_of HS.out k)
      have HSM := Lib.hid (runs_small (last := 0) HS.out k)
      obtain ⟨M, hM⟩ : ∃ M, M = (MV.new 0).runs (os.take k) := ⟨_, rfl⟩
      rw [← hM] at HTB HID HSM
      clear hM
      go_wp2_with fail
      refine (bLive w.heap.size wr g M HTB.out).mono ?_
      rintro e w8 ⟨v8, rfl, h8, hb8⟩
      obtain ⟨V, hV⟩ : ∃ V, V = M.nums := ⟨_, rfl⟩
      rw [← hV] at h8
      obtain ⟨A8, c8, hv8, -, -, -, -⟩ := (h8.rk encI_len (Nat.le_refl _)).open_
      subst hv8
      have hn8 : V.length ≤ 8 := by rw [hV]; exact HTB.out.ok.few
      have HV := Lib.hid hV
      have H8 := Lib.hid (HTB.out.below hb8)
      have T8 := Lib.hid (HT.out.trans (hb8.mono HT.out.size))
      have O8 := Lib.hid h8
      obtain ⟨B8, hB8⟩ : ∃ B8, B8 = wr.heap.size := ⟨_, rfl⟩
      rw [← hB8] at O8
      clear h8 hb8 hB8 hV
      go_wp2_with fail
      go_loopw [46] (fun i wx => ∃ m : Nat, m ≤ V.length ∧ i = .int .i64 m ∧ Hid (TbB w.heap.size wx g (M.giveUp (V.take m))) ∧ Hid (Below w.heap.size w wx) ∧ Hid (OK encI 1 3 wx B8 (.slice A8 V.length c8) V)) (fun i _ => V.length - (intOf i).toNat)
      case atStart => exact ⟨0, Nat.zero_le _, rfl, H8, T8, O8⟩
      case round =>
        obtain ⟨m, hm, rfl, HTX, HTT, HOX⟩ := hrel
        have hwx := HTT.out.size
        by_cases hmo : m < V.length
        · obtain ⟨A9, c9, e9, -, -, -, HCV⟩ := (HOX.out.rk encI_len (Nat.le_refl _)).open_
          injection e9 with e91 e92 e93
          obtain ⟨b3, o3, e3, hb3, hx3⟩ := HCV.out m hmo
          rw [← e91] at e3
          subst e3
          have u0 : wr.cell? ⟨b3, o3 + m, none⟩ = some (.int .i64 V[m]) := by
            have := hx3 0 _ rfl
            simpa using this
          have HTK := Lib.hid (List.take_succ_eq_append_getElem hmo)
          obtain ⟨n, hn⟩ : ∃ n, n = V[m] := ⟨_, rfl⟩
          rw [← hn] at u0 HTK
          have hnm : (M.live? n).isSome = true := mem_nums.1 (by rw [← HV.out, hn]; exact List.getElem_mem hmo)
          have hnt : n ∉ V.take m := by
            intro h
            have hnd := nums_nodup M
            rw [← HV.out, ← List.take_append_drop m V] at hnd
            have := (List.nodup_append.1 hnd).2.2 n h n (by rw [hn]; exact List.mem_drop_iff_getElem.2 ⟨0, by simpa using hmo, by simp⟩)
            exact this rfl
          have hlv : ((M.giveUp (V.take m)).live? n) = M.live? n := by rw [giveUp_live, if_neg hnt]
          obtain ⟨x, hx⟩ := Option.isSome_iff_exists.1 hnm
          have hlt := live_lt hx
          have hsm := HSM.out.1
          have hn64 : I64 n := by unfold I64; omega
          have HTE := Lib.hid (touchE_live (hlv.trans hx))
          clear hnm hnt hlv hx hlt hn hx3 HCV e91 e92 e93 hb3
          go_wp2_with fail
          refine (bAbort w.heap.size wr g (M.giveUp (V.take m)) HTX.out hwx n hn64).mono ?_
          rintro e wy ⟨rfl, h5, t5⟩
          rw [HTE.out]
          have H5 := Lib.hid h5
          have T5 := Lib.hid (HTT.out.trans t5.below)
          have O5 := Lib.hid (t5.row (by decide) HOX.out)
          clear h5 t5
          go_wp2_with fail
          go_roundw
          case rel => exact ⟨m + 1, by omega, by go_num, Lib.hid (by rw [HTK.out, giveUp_snoc]; exact H5.out), T5, O5⟩
          case measure => simp [intOf]; omega
        · have hall : M.giveUp (V.take m) = M.giveUp M.nums := by rw [List.take_of_length_le (by omega), HV.out]
          have htx := HTX.out
          rw [hall] at htx
          obtain ⟨Z, hZ⟩ : ∃ Z, Z = M.giveUp M.nums := ⟨_, rfl⟩
          rw [← hZ] at htx HID
          have HZT := Lib.hid htx
          clear htx hall hZ HTX
          have F1 := Lib.hid (begin_free (M := Z) (by rw [nums_nil HID.out.none_]; decide))
          have hzl := HID.out.len
          have hzb := HID.out.bulk
          have hzt := HID.out.last
          obtain ⟨na, hna⟩ : ∃ na, na = (Z.txns.length : Int) + 1 := ⟨_, rfl⟩
          have hna64 : I64 na := by unfold I64; omega
          have LA := Lib.hid (add_live_new Z)
          have hone := idle_one HID.out rs1
          rw [← hna] at F1 LA hone
          have HNA := Lib.hid hna
          clear hna
          go_wp2_with fail
          refine (bBegin w.heap.size wr g Z HZT.out hwx (by omega)).mono ?_
          rintro e wa ⟨rfl, h5, t5⟩
          rw [F1.out.1] at h5
          rw [F1.out.2.1, F1.out.2.2]
          have HA := Lib.hid h5
          have TA := Lib.hid (HTT.out.trans t5.below)
          clear h5 t5 hwx
          have hwa := TA.out.size
          have hroom : Z.add.bulk + rs1.length ≤ 4611686018427387904 := by rw [show Z.add.bulk = Z.bulk by simp [MV.bulk, MV.add]]; omega
          go_wp2_with fail
          refine (bTouch w.heap.size wa g Z.add HA.out hwa na hna64 v1 rs1 ((R1.out.below TA.out).more TA.out.size) I1.out hroom).mono ?_
          rintro e wb ⟨rfl, h5, t5⟩
          rw [touchE_live LA.out]
          have hb1 : (Z.add.touch na rs1).bulk ≤ 800000 := by
            refine Nat.le_trans (bulk_touch Z.add na rs1) ?_
            rw [show Z.add.bulk = Z.bulk by simp [MV.bulk, MV.add]]
            omega
          clear hroom
          have X1L := Lib.hid (touch_live_new LA.out rs1 na)
          rw [if_pos rfl] at X1L
          have X1T := Lib.hid (touch_last Z.add na rs1)
          have X1N := Lib.hid (len_touch Z.add na rs1)
          obtain ⟨X1, hX1⟩ : ∃ X1, X1 = Z.add.touch na rs1 := ⟨_, rfl⟩
          rw [← hX1] at h5 hb1 X1L X1T X1N hone
          have HB := Lib.hid h5
          have TB := Lib.hid (TA.out.trans t5.below)
          have X1T2 : Hid (X1.last = Z.last) := Lib.hid (by rw [X1T.out]; rfl)
          have X1N2 : Hid (X1.txns.length = Z.txns.length + 1) := Lib.hid (by rw [X1N.out]; simp [MV.add])
          have T0 : Hid (X1.tryE na = 0) := Lib.hid (try_zero HB.out.ok X1L.out (by rw [X1T2.out]) (by rw [X1T2.out]; omega))
          clear h5 t5 hX1
          have hwb := TB.out.size
          cases bt with
          | false =>
            have CT := Lib.hid (commit_last X1L.out (by rw [X1T2.out]) T0.out)
            have CN : Hid ((X1.commit na).touchE na = 141) := Lib.hid (touchE_none (by rw [commit_live X1L.out, if_pos rfl]))
            go_wp2_with fail
            refine (bCommit w.heap.size wb g X1 HB.out hwb na hna64 (by omega)).mono ?_
            rintro e wc ⟨rfl, h5, t5⟩
            rw [T0.out, CT.out]
            obtain ⟨X2, hX2⟩ : ∃ X2, X2 = X1.commit na := ⟨_, rfl⟩
            rw [← hX2] at h5 CN
            rw [← hX2]
            have HE := Lib.hid h5
            have TE := Lib.hid (TB.out.trans t5.below)
            clear h5 t5 hX2
            have hwc := TE.out.size
            go_wp2_with fail
            refine (bLast w.heap.size _ g X2 HE.out).mono ?_
            rintro e _ ⟨rfl, rfl⟩
            go_wp2_with fail
            refine (bAbort w.heap.size _ g X2 HE.out hwc na hna64).mono ?_
            rintro e wd ⟨rfl, h6, t6⟩
            rw [CN.out]
            have TF := Lib.hid (TE.out.trans t6.below)
            clear h6 t6
            go_wp2_with fail
            go_ret
            exact ⟨rfl, TF.out⟩
          | true =>
            have F2 := Lib.hid (begin_free (M := X1) hone)
            obtain ⟨nb, hnb⟩ : ∃ nb, nb = (X1.txns.length : Int) + 1 := ⟨_, rfl⟩
            have hnab : na ≠ nb := by have := X1N2.out; have := HNA.out; omega
            have hnb64 : I64 nb := by have := X1N2.out; unfold I64; omega
            have LB := Lib.hid (add_live_new X1)
            rw [← hnb] at F2 LB
            have HNB := Lib.hid hnb
            have LBA : Hid (X1.add.live? na = some ⟨Z.last, [] ++ rs1, true, -1⟩) := Lib.hid (by rw [live_add, if_neg (by have := HNA.out; have := X1N2.out; omega), X1L.out])
            have HNAB := Lib.hid hnab
            clear hnab hnb
            go_wp2_with fail
            refine (bBegin w.heap.size wb g X1 HB.out hwb (by have := X1N2.out; omega)).mono ?_
            rintro e wc ⟨rfl, h5, t5⟩
            rw [F2.out.1] at h5
            rw [F2.out.2.1, F2.out.2.2]
            have HE := Lib.hid h5
            have TE := Lib.hid (TB.out.trans t5.below)
            clear h5 t5
            have hwc := TE.out.size
            have hroom : X1.add.bulk + rs2.length ≤ 4611686018427387904 := by rw [show X1.add.bulk = X1.bulk by simp [MV.bulk, MV.add]]; omega
            go_wp2_with fail
            refine (bTouch w.heap.size wc g X1.add HE.out hwc nb hnb64 v2 rs2 ((R2.out.below TE.out).more TE.out.size) I2.out hroom).mono ?_
            rintro e wd ⟨rfl, h5, t5⟩
            rw [touchE_live LB.out]
            have hb2 : (X1.add.touch nb rs2).bulk ≤ 1200000 := by
              refine Nat.le_trans (bulk_touch X1.add nb rs2) ?_
              rw [show X1.add.bulk = X1.bulk by simp [MV.bulk, MV.add]]
              omega
            clear hroom
            have X2B := Lib.hid (touch_live_new LB.out rs2 nb)
            rw [if_pos rfl] at X2B
            have X2A := Lib.hid (touch_live_new LB.out rs2 na)
            rw [if_neg HNAB.out, LBA.out] at X2A
            have X2T := Lib.hid (touch_last X1.add nb rs2)
            obtain ⟨X2, hX2⟩ : ∃ X2, X2 = X1.add.touch nb rs2 := ⟨_, rfl⟩
            rw [← hX2] at h5 hb2 X2A X2B X2T
            have HF := Lib.hid h5
            have TF := Lib.hid (TE.out.trans t5.below)
            have X2T2 : Hid (X2.last = Z.last) := Lib.hid (by rw [X2T.out]; exact X1T2.out)
            have T2 : Hid (X2.tryE nb = 0) := Lib.hid (try_zero HF.out.ok X2B.out (by rw [X2T.out]; rfl) (by rw [X2T2.out]; omega))
            have T3 : Hid ((X2.commit nb).tryE na = if common rs1 rs2 = true then 140 else 0) := Lib.hid (try_beside HF.out.ok HNAB.out X2A.out X2B.out (by rw [X2T2.out]) (by rw [X2T.out]; rfl) (by rw [X2T2.out]; omega))
            clear h5 t5 hX2
            have hwd := TF.out.size
            go_wp2_with fail
            refine (bCommit w.heap.size wd g X2 HF.out hwd nb hnb64 (by omega)).mono ?_
            rintro e we ⟨rfl, h5, t5⟩
            rw [T2.out]
            have hb3 := bulk_commit X2 nb
            obtain ⟨X3, hX3⟩ : ∃ X3, X3 = X2.commit nb := ⟨_, rfl⟩
            rw [← hX3] at h5 hb3 T3
            have HG := Lib.hid h5
            have TG := Lib.hid (TF.out.trans t5.below)
            clear h5 t5 hX3
            have hwe := TG.out.size
            go_wp2_with fail
            refine (bTry w.heap.size we g X3 HG.out na hna64).mono ?_
            rintro e wf ⟨rfl, hbf⟩
            have HH := Lib.hid (HG.out.below hbf)
            have TH := Lib.hid (TG.out.trans (hbf.mono TG.out.size))
            clear hbf
            have hwf := TH.out.size
            obtain ⟨te, hte⟩ : ∃ te, te = X3.tryE na := ⟨_, rfl⟩
            rw [← hte] at T3
            have HTE := Lib.hid hte
            rw [← hte]
            clear hte
            go_wp2_with fail
            refine (bCommit w.heap.size wf g X3 HH.out hwf na hna64 (by omega)).mono ?_
            rintro e wh ⟨rfl, h5, t5⟩
            rw [← HTE.out]
            have TI := Lib.hid (TH.out.trans t5.below)
            clear h5 t5
            go_wp2_with fail
            refine (rMeet_any wh v1 v2 rs1 rs2 ((R1.out.below TI.out).more TI.out.size) ((R2.out.below TI.out).more TI.out.size) (by omega) (by omega)).mono ?_
            rintro e wi ⟨rfl, hbi⟩
            have TJ := Lib.hid (TI.out.trans (hbi.mono TI.out.size))
            clear hbi
            have t3 := T3.out
            cases hc : common rs1 rs2 with
            | true =>
              rw [hc, if_pos rfl] at t3
              subst t3
              clear hc
              go_wp2_with fail
              go_ret
              exact ⟨rfl, TJ.out⟩
            | false =>
              rw [hc, if_neg (by decide)] at t3
              subst t3
              clear hc
              go_wp2_with fail
              go_ret
              exact ⟨rfl, TJ.out⟩

end Go.Proofs.Ytgahkloldpjnkaa
