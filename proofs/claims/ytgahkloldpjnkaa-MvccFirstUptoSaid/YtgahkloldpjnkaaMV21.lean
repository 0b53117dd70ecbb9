/-
  The walk of skeinlaw14's MvccPlays.
-/
import Derived.Test.YtgahkloldpjnkaaMV20
namespace Go.Proofs.Ytgahkloldpjnkaa
open Go.RowKit Go.Maps
set_option linter.unusedVariables false

theorem rNew_any (w : World) (last : Int) :
    Calls Try.prog 10 #[.int .i64 last] w fun e w' => e = .returned (rtV (.slice none 0 0) (MV.new last).last) ∧ Below w.heap.size w w' := by
  by_cases h1 : last < 0
  · rw [show (MV.new last).last = 0 by unfold MV.new; dsimp only; omega]; exact rNew_lo w last h1
  · by_cases h2 : 1099511627776 < last
    · rw [show (MV.new last).last = 1099511627776 by unfold MV.new; dsimp only; omega]; exact rNew_hi w last h2
    · rw [show (MV.new last).last = last by unfold MV.new; dsimp only; omega]; exact rNew_in w last ⟨by omega, by omega⟩

theorem rtab_new (w : World) {last : Int} (h : (MV.new last).Ok) : RTab w (.slice none 0 0) [] (MV.new last) :=
  ⟨⟨RK.nil _ _, fun _ hx => nomatch hx⟩, rfl, h, by simp [MV.new, MV.bulk]⟩

/-- The program's table and the document's, side by side; the latter lies in block b. -/
structure PS (B g b : Nat) (M : MV) (A : Option Addr) (c : Nat) (xs : List TxV) (w : World) : Prop where
  blk : Blk w b 28 #[.slice A xs.length c, .int .i64 M.last]
  rt : RTab w (.slice A xs.length c) xs M
  tb : TbB B w g M

section

variable {B g b : Nat} {M : MV} {A : Option Addr} {c : Nat} {xs : List TxV} {w w' : World}

theorem PS.below (h : PS B g b M A c xs w) (hb : Below w.heap.size w w') : PS B g b M A c xs w' := ⟨h.blk.below hb h.blk.lt, h.rt.below hb, h.tb.below hb⟩

theorem PS.two (h : PS B g b M A c xs w) : w.cell? ⟨b, 0, none⟩ = some (.slice A xs.length c) ∧ w.cell? ⟨b, 1, none⟩ = some (.int .i64 M.last) := ⟨h.blk.cell 0, h.blk.cell 1⟩

end

theorem ownInts_of {w : World} {B : Nat} {vA : Option Addr} {n vc : Nat} {xs : List Int} (h : OK encI 1 3 w B (.slice vA n vc) xs) (hne : 0 < xs.length) : ∃ b cur, vA = some ⟨b, 0, none⟩ ∧ B ≤ b ∧ Blk w b 3 cur ∧ xs.length ≤ cur.size := by
  obtain ⟨h1, h2, h3⟩ := h
  rcases h3 with ⟨e, hn⟩ | ⟨g, cap, cur, e, hgB, hg, hnc, hcm, hsz, htk⟩
  · omega
  · injection e with e1 e2 e3
    subst e1
    exact ⟨g, cur, rfl, hgB, hg, by omega⟩

theorem bthen {w8 wx wz : World} (h : Below w8.heap.size w8 wx) (hz : Below wx.heap.size wx wz) : Below w8.heap.size w8 wz := h.trans (hz.mono h.size)

theorem below_drewN {B : Nat} {w w1 : World} (h : Below B w w1) (q : Nat) : Below B w (w1.drewN q) := ⟨h.os, h.tape, h.output, h.size, h.block⟩

set_option maxRecDepth 100000 in
set_option maxHeartbeats 2000000 in
theorem mvccPlays_walk (last : Int) (v : Value) (os : List OpM) (w : World) (hl : I64 last) (hs : ScrAt w v os) :
    Calls Try.prog 3 #[.int .i64 last, v] w fun e w' => e = .returned (.bool true) ∧ Below w.heap.size w w' := by
  obtain ⟨A, c, rfl, hc1, hc2, hc3, HC⟩ := hs.rk.open_
  have hlen := hs.len
  have HS := Lib.hid hs
  have HL := Lib.hid hl
  clear hs hl
  go_enter Try.func3, Try.ntmps3
  go_wp2_with fail
  refine (bNew w.heap.size w (Nat.le_refl _) last HL.out).mono ?_
  rintro e w1 ⟨rfl, h1, t1⟩
  obtain ⟨g, hg⟩ : ∃ g, g = w.heap.size + 2 := ⟨_, rfl⟩
  rw [← hg] at h1 ⊢
  have H1 := Lib.hid h1
  have T1 := Lib.hid t1
  clear h1 t1 hg
  go_wp2_with fail
  refine (alive_any w1).mono ?_
  rintro e w2 ⟨rfl, hb2⟩
  have H2 := Lib.hid (H1.out.below hb2)
  have T2 := Lib.hid (T1.out.below.trans (hb2.mono T1.out.below.size))
  clear hb2
  go_wp2_with fail
  refine (rNew_any w2 last).mono ?_
  rintro e w3 ⟨rfl, hb3⟩
  have H3 := Lib.hid (H2.out.below hb3)
  have T3 := Lib.hid (T2.out.trans (hb3.mono T2.out.size))
  clear hb3
  unfold rtV
  go_wp2_with fail
  obtain ⟨b6, hb6⟩ : ∃ b, b = w3.heap.size := ⟨_, rfl⟩
  have hps : PS w.heap.size g b6 (MV.new last) none 0 [] (w3.alloc (.cells #[.slice none 0 0, .int .i64 (MV.new last).last] 28)) := ⟨by rw [hb6]; exact Blk.new _ _ _, rtab_new _ H3.out.ok, H3.out.alloc _⟩
  have HPS0 := Lib.hid hps
  have hw0 := T3.out.size
  have HT0 : Hid (Below w.heap.size w (w3.alloc (.cells #[.slice none 0 0, .int .i64 (MV.new last).last] 28))) := Lib.hid (T3.out.alloc hw0 _)
  have HB6 : Hid (w.heap.size ≤ b6) := Lib.hid (by omega)
  rw [← hb6]
  clear hps hb6 hw0
  go_loopw [25] (fun i wr => ∃ (k : Nat) (tA : Option Addr) (tc : Nat) (xs : List TxV), k ≤ os.length ∧ i = .int .i64 k ∧ Hid (PS w.heap.size g b6 ((MV.new last).runs (os.take k)) tA tc xs wr) ∧ Hid (Below w.heap.size w wr)) (fun i _ => os.length - (intOf i).toNat)
  case atStart => exact ⟨0, _, _, _, Nat.zero_le _, rfl, HPS0, HT0⟩
  case round =>
    obtain ⟨k, tA, tc, xs, hk, rfl, HPS, HT⟩ := hrel
    by_cases hkl : k < os.length
    · obtain ⟨b1, o1, rfl, hb, hx⟩ := HC.out k hkl
      obtain ⟨hx1, hx2, hx3⟩ := cellOM hx
      have y1 : wr.cell? ⟨b1, o1 + k * 3, none⟩ = _ := (HT.out.cell (p := ⟨b1, o1 + k * 3, none⟩) hb).trans hx1
      have y2 : wr.cell? ⟨b1, o1 + k * 3 + 1, none⟩ = _ := (HT.out.cell (p := ⟨b1, o1 + k * 3 + 1, none⟩) hb).trans hx2
      have y3 : wr.cell? ⟨b1, o1 + k * 3 + 2, none⟩ = _ := (HT.out.cell (p := ⟨b1, o1 + k * 3 + 2, none⟩) hb).trans hx3
      have HOP := Lib.hid ((HS.out.at_ os[k] (List.getElem_mem hkl)).below HT.out)
      have HTK := Lib.hid (List.take_succ_eq_append_getElem hkl)
      have HSM := Lib.hid (runs_small (last := last) HS.out k)
      have HRL := Lib.hid (Nat.le_trans (mem_sum (fun x : OpM => x.refs.length) os os[k] (List.getElem_mem hkl)) HS.out.sum)
      clear hx hx1 hx2 hx3
      obtain ⟨x, hx⟩ : ∃ x, x = os[k] := ⟨_, rfl⟩
      rw [← hx] at y1 y2 y3 HOP HTK HRL
      clear hx
      obtain ⟨M, hM⟩ : ∃ M, M = (MV.new last).runs (os.take k) := ⟨_, rfl⟩
      rw [← hM] at HPS HSM
      have HM := Lib.hid hM
      clear hM
      obtain ⟨kd, n, rA, rn, rc, refs⟩ := x
      dsimp only at y1 y2 y3
      have hrl : refs.length ≤ 400000 := HRL.out
      obtain ⟨q0, q1⟩ := HPS.out.two
      have hq6 := HPS.out.blk.lt
      obtain ⟨W, hW⟩ : ∃ W, W = wr.alloc (.cells #[.int .i64 kd, .int .i64 n, .slice rA rn rc] 32) := ⟨_, rfl⟩
      have hbW : Below wr.heap.size wr W := by rw [hW]; exact (Below.refl _ _).alloc (Nat.le_refl _) _
      have hpsW := HPS.out.below hbW
      have HTW := Lib.hid (HT.out.trans (hbW.mono HT.out.size))
      have hcall := bAsks w.heap.size W g M hpsW.tb HTW.out.size _ xs M hpsW.rt kd n rA rn rc refs (HOP.out.below hbW) (by have := HSM.out.1; omega) (by have := HSM.out.2; have := HRL.out; omega) (by have := HSM.out.1; omega) (by have := HSM.out.2; have := HRL.out; omega)
      unfold rtV at hcall
      have HPW := Lib.hid hpsW
      have HW := Lib.hid hW
      clear hbW hW hpsW
      go_wp2_with fail
      rw [← HW.out]
      refine hcall.mono ?_
      rintro e w4 ⟨v4, xs4, b4, rfl, hr4, ht4, t4, hb4⟩
      have e4 := hb4 (by trivial)
      subst e4
      obtain ⟨M', hM'⟩ : ∃ M', M' = M.run ⟨kd, n, rA, rn, rc, refs⟩ := ⟨_, rfl⟩
      rw [← hM'] at hr4 ht4
      rw [← hM']
      have HREL : Hid ((MV.new last).runs (os.take (k + 1)) = M') := Lib.hid (by rw [HTK.out, runs_snoc, ← HM.out, ← hM'])
      clear hM'
      obtain ⟨A4, c4, hv4, -, -, -, -⟩ := hr4.row.rk.open_
      subst hv4
      have HR4 := Lib.hid hr4
      have HT4 := Lib.hid ht4
      have HK4 := Lib.hid (t4.blk (by decide) HPW.out.blk)
      have HB4 := Lib.hid (HTW.out.trans t4.below)
      clear hr4 ht4 hb4 t4 hcall q0 q1 hq6 y1 y2 y3 HPW HPS HT HTW
      obtain ⟨q0, q1⟩ : w4.cell? ⟨b6, 0, none⟩ = _ ∧ w4.cell? ⟨b6, 1, none⟩ = _ := ⟨HK4.out.cell 0, HK4.out.cell 1⟩
      have q2 : w4.frozen? ⟨b6, 0, none⟩ = false := HK4.out.frozen 0
      have q3 : w4.frozen? ⟨b6, 1, none⟩ = false := HK4.out.frozen 1
      have hq6 := HK4.out.lt
      go_wp2_with fail
      obtain ⟨wq, hwq⟩ : ∃ wq, wq = ((w4.setCell ⟨b6, 0, none⟩ (.slice A4 xs4.length c4)).setCell ⟨b6, 1, none⟩ (.int .i64 M'.last)).alloc (.cells #[.slice A4 xs4.length c4, .int .i64 M'.last] 28) := ⟨_, rfl⟩
      rw [← hwq]
      have hpq : PS w.heap.size g b6 M' A4 c4 xs4 wq := by
        rw [hwq]
        exact ⟨(two_set HK4.out _ _).alloc _, (HR4.out.setRes HK4.out _ _).below ((Below.refl _ _).alloc (Nat.le_refl _) _), ((HT4.out.setBlk HK4.out (by decide) 0 _).setBlk (HK4.out.set_ 0 _) (by decide) 1 _).alloc _⟩
      have hbq : Below w.heap.size w wq := by
        rw [hwq]
        exact (two_below HB4.out HB6.out _ _).alloc (by have := HB4.out.size; simpa using this) _
      have HPQ := Lib.hid hpq
      have HBQ := Lib.hid hbq
      clear hwq hpq hbq q0 q1 q2 q3 hq6 HK4 HR4 HT4 HB4
      refine (bLive w.heap.size wq g M' HPQ.out.tb).mono ?_
      rintro e w8 ⟨v8, rfl, h8, hb8⟩
      obtain ⟨A8, c8, hv8, -, -, -, -⟩ := (h8.rk encI_len (Nat.le_refl _)).open_
      subst hv8
      have hps8 := HPQ.out.below hb8
      have HP8 := Lib.hid hps8
      have HB8 := Lib.hid hb8
      have HO8 := Lib.hid h8
      have CL : Hid (∀ wx, Below w8.heap.size w8 wx → Calls Try.prog 13 #[.pointer (some ⟨g, 0, none⟩)] wx fun e w' => e = .returned (.int .i64 M'.last) ∧ w' = wx) := Lib.hid (fun wx hx => bLast w.heap.size wx g M' (HP8.out.below hx).tb)
      have CH : Hid (∀ wx, Below w8.heap.size w8 wx → Calls Try.prog 14 #[.pointer (some ⟨g, 0, none⟩)] wx fun e w' => e = .returned (.int .i64 M'.hor) ∧ Below wx.heap.size wx w') := Lib.hid (fun wx hx => bHorizon w.heap.size wx g M' (HP8.out.below hx).tb)
      have CRH : Hid (∀ wx, Below w8.heap.size w8 wx → Calls Try.prog 15 #[.agg #[.slice A4 xs4.length c4, .int .i64 M'.last]] wx fun e w' => e = .returned (.int .i64 M'.hor) ∧ Below wx.heap.size wx w') := Lib.hid (fun wx hx => rHor_any wx _ xs4 M' (HP8.out.below hx).rt)
      have CRL : Hid (∀ wx, Below w8.heap.size w8 wx → Calls Try.prog 17 #[.agg #[.slice A4 xs4.length c4, .int .i64 M'.last]] wx fun e w' => ∃ v', e = .returned v' ∧ OK encI 1 3 w' wx.heap.size v' M'.nums ∧ Below wx.heap.size wx w') := Lib.hid (fun wx hx => rLive_any wx _ xs4 M' (HP8.out.below hx).rt)
      have HD : Hid (Below w8.heap.size w8 w8.drew) := Lib.hid ⟨rfl, rfl, rfl, Nat.le_refl _, fun _ _ => rfl⟩
      obtain ⟨nl, hnl⟩ : ∃ nl, nl = M'.nums.length := ⟨_, rfl⟩
      have HNL := Lib.hid hnl
      have hn8 : nl ≤ 8 := by rw [hnl]; exact hps8.tb.ok.few
      rw [← hnl] at HO8
      rw [← hnl]
      clear hps8 hb8 h8 hnl
      go_wp2_with fail
      go_region_held3 (fun w' => w'.cell? ⟨b6, 0, none⟩ = some (.slice A4 xs4.length c4) ∧ w'.cell? ⟨b6, 1, none⟩ = some (.int .i64 M'.last)) (first | exact (HP8.out.below HZ.out).two | exact (HP8.out.below HD.out).two)
        (first | (go_at_call 13; refine (CL.out _ (by first | exact HZ.out | exact HD.out)).mono ?_; rintro e _ ⟨rfl, rfl⟩) | (go_at_call 14; refine (CH.out _ (by first | exact HZ.out | exact HD.out)).mono ?_; rintro e wz ⟨rfl, hbz⟩; have HZ := Lib.hid (bthen (by first | exact HZ.out | exact HD.out) hbz); clear hbz) | (go_at_call 15; refine (CRH.out _ (by first | exact HZ.out | exact HD.out)).mono ?_; rintro e wz ⟨rfl, hbz⟩; have HZ := Lib.hid (bthen (by first | exact HZ.out | exact HD.out) hbz); clear hbz) | (go_at_call 17; refine (CRL.out _ (by first | exact HZ.out | exact HD.out)).mono ?_; rintro e wz ⟨v9, rfl, h9, hbz⟩; have hz := bthen (by first | exact HZ.out | exact HD.out : Below w8.heap.size w8 _) hbz; have HZ := Lib.hid hz; have HV9 := Lib.hid (h9.rk encI_len (Nat.le_refl _)); have HV8 := Lib.hid (((HO8.out.rk encI_len (Nat.le_refl _)).below hz).more hz.size); clear hbz hz h9) | (go_at_call 16; refine (SameInts_yes _ _ M'.nums _ _ _ HV8.out HV9.out).mono ?_; rintro e wz ⟨rfl, q, rfl⟩; have HZ := Lib.hid (below_drewN HZ.out q)))
      go_wp2_with fail
      have hlv : 0 < nl → ∃ gb cur, A8 = some ⟨gb, 0, none⟩ ∧ wq.heap.size ≤ gb ∧ Blk w8 gb 3 cur ∧ nl ≤ cur.size := fun hne => by
        obtain ⟨gb, cur, h1, h2, h3, h4⟩ := ownInts_of HO8.out (by rw [← HNL.out]; exact hne)
        exact ⟨gb, cur, h1, h2, h3, by rw [HNL.out]; exact h4⟩
      have HLV := Lib.hid hlv
      clear hlv
      go_loopw [64] (fun i wr => ∃ m : Nat, m ≤ nl ∧ i = .int .i64 m ∧ Hid (Below wq.heap.size wq wr) ∧ Hid (0 < nl → ∃ gb cur, A8 = some ⟨gb, 0, none⟩ ∧ wq.heap.size ≤ gb ∧ Blk wr gb 3 cur ∧ nl ≤ cur.size)) (fun i _ => nl - (intOf i).toNat)
      case atStart => exact ⟨0, Nat.zero_le _, rfl, Lib.hid (HB8.out.trans (HZ.out.mono HB8.out.size)), Lib.hid (fun hne => by obtain ⟨gb, cur, h1, h2, h3, h4⟩ := HLV.out hne; exact ⟨gb, cur, h1, h2, h3.below HZ.out h3.lt, h4⟩)⟩
      case round =>
        obtain ⟨m, hm, rfl, HBI, HGI⟩ := hrel
        by_cases hmo : m < nl
        · obtain ⟨gb, cur, rfl, hgb, hbk, hcs⟩ := HGI.out (by omega)
          have hmc : m < cur.size := by omega
          obtain ⟨cm, hcm⟩ : ∃ cm, cm = cur[m] := ⟨_, rfl⟩
          have c0 : wr.cell? ⟨gb, m, none⟩ = some cm := by rw [hbk.cell m, Array.getElem?_eq_getElem hmc, hcm]
          have c1 : wr.frozen? ⟨gb, m, none⟩ = false := hbk.frozen m
          have HBK := Lib.hid hbk
          have HCS := Lib.hid hcs
          clear hbk hcm hcs hmc
          go_wp2_with fail
          go_roundw
          case rel => exact ⟨m + 1, by omega, by go_num, Lib.hid (HBI.out.setCell (p := ⟨gb, m, none⟩) hgb _), Lib.hid (fun _ => ⟨gb, _, rfl, hgb, HBK.out.set_ m _, by simpa using HCS.out⟩)⟩
          case measure => simp [intOf]; omega
        · go_wp2_with fail
          go_roundw
          case rel =>
            exact ⟨k + 1, A4, c4, xs4, by omega, by go_num, Lib.hid (by rw [HREL.out]; exact HPQ.out.below HBI.out), Lib.hid (HBQ.out.trans (HBI.out.mono HBQ.out.size))⟩
          case measure => simp [intOf]; omega
    · obtain ⟨M, hM⟩ : ∃ M, M = (MV.new last).runs (os.take k) := ⟨_, rfl⟩
      rw [← hM] at HPS
      clear hM
      have CV : Hid (∀ wx, Below wr.heap.size wr wx → Calls Try.prog 12 #[.pointer (some ⟨g, 0, none⟩)] wx fun e w' => ∃ v', e = .returned v' ∧ OK encI 1 3 w' wx.heap.size v' M.nums ∧ Below wx.heap.size wx w') := Lib.hid (fun wx hx => bLive w.heap.size wx g M (HPS.out.below hx).tb)
      have CRL : Hid (∀ wx, Below wr.heap.size wr wx → Calls Try.prog 17 #[.agg #[.slice tA xs.length tc, .int .i64 M.last]] wx fun e w' => ∃ v', e = .returned v' ∧ OK encI 1 3 w' wx.heap.size v' M.nums ∧ Below wx.heap.size wx w') := Lib.hid (fun wx hx => rLive_any wx _ xs M (HPS.out.below hx).rt)
      have HD : Hid (Below wr.heap.size wr wr.drew) := Lib.hid ⟨rfl, rfl, rfl, Nat.le_refl _, fun _ _ => rfl⟩
      obtain ⟨q0, q1⟩ := HPS.out.two
      have hq6 := HPS.out.blk.lt
      go_wp2_with fail
      go_region_held3 (fun w' => w'.cell? ⟨b6, 0, none⟩ = some (.slice tA xs.length tc) ∧ w'.cell? ⟨b6, 1, none⟩ = some (.int .i64 M.last)) (first | exact (HPS.out.below HZ.out).two | exact (HPS.out.below HD.out).two)
        (first | (go_at_call 12; refine (CV.out _ (by first | exact HZ.out | exact HD.out)).mono ?_; rintro e wz ⟨v9, rfl, h9, hbz⟩; have HZ := Lib.hid (bthen (by first | exact HZ.out | exact HD.out) hbz); have HVA := Lib.hid (h9.rk encI_len (Nat.le_refl _)); (first | (have hvb := Lib.hid ((HVB.out.below hbz).more hbz.size); have HVB := hvb) | skip); clear hbz h9) | (go_at_call 17; refine (CRL.out _ (by first | exact HZ.out | exact HD.out)).mono ?_; rintro e wz ⟨v9, rfl, h9, hbz⟩; have HZ := Lib.hid (bthen (by first | exact HZ.out | exact HD.out) hbz); have HVB := Lib.hid (h9.rk encI_len (Nat.le_refl _)); (first | (have hva := Lib.hid ((HVA.out.below hbz).more hbz.size); have HVA := hva) | skip); clear hbz h9) | (go_at_call 16; refine (SameInts_yes _ _ M.nums _ _ _ HVA.out HVB.out).mono ?_; rintro e wz ⟨rfl, q, rfl⟩; have HZ := Lib.hid (below_drewN HZ.out q)))
      all_goals go_wp2_with fail
      all_goals go_ret
      all_goals exact ⟨rfl, HT.out.trans (HZ.out.mono HT.out.size)⟩

end Go.Proofs.Ytgahkloldpjnkaa
