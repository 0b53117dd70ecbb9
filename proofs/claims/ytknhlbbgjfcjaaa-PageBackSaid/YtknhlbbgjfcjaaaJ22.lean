/-
  The walk of PageBack.
-/
import Derived.Test.YtknhlbbgjfcjaaaJ21
namespace Go.Proofs.Ytknhlbbgjfcjaaa
open Go.RowKit Go.Maps
set_option linter.unusedVariables false

set_option maxRecDepth 100000 in
set_option maxHeartbeats 2000000 in
theorem pageBack_any (w : World) (sv : Value) (os : List PgOpV) (mv : Value) (ms : List PgOpV) (hs : PgScript w sv os) (hm0 : PgScript w mv ms) :
    Calls Try.prog 5 #[sv, mv] w fun e w' => e = .returned (.bool true) ∧ Below w.heap.size w w' := by
  have HSC := Lib.hid hs
  have HMS := Lib.hid hm0
  obtain ⟨A, c, rfl, ha1, ha2, ha3, HA⟩ := hm0.rk.open_
  have hol := hm0.len
  clear hs hm0
  go_enter Try.func5, Try.ntmps5
  go_wp2_with fail
  refine (filled_any w sv os HSC.out).mono ?_
  rintro e w1 ⟨p, v, xs, rfl, hp1, hb1⟩
  obtain ⟨m, hm⟩ : ∃ m, m = (PG.new 3 9).runs os := ⟨_, rfl⟩
  have hfit : m.Fit := by rw [hm]; exact (new_fit 3 9).runs os
  rw [← hm] at hp1
  have HP1 := Lib.hid hp1
  have HB1 := Lib.hid hb1
  have HFIT := Lib.hid hfit
  clear hp1 hb1 hm hfit
  go_wp2_with fail
  refine (alive8_any w1).mono ?_
  rintro e w2 ⟨rfl, hb2⟩
  have HP2 := Lib.hid (HP1.out.below hb2)
  have HB2 := Lib.hid (HB1.out.trans (hb2.mono HB1.out.size))
  clear hb2
  go_wp2_with fail
  refine (pageBytes_any w2 p _ v xs m HP2.out HFIT.out).mono ?_
  rintro e w3 ⟨g, rfl, hg3, hbb3, hb3⟩
  have HP3 := Lib.hid (HP2.out.below hb3)
  have HB3 := Lib.hid (HB2.out.trans (hb3.mono HB2.out.size))
  have hrow := hbb3.row512 (pageL_len HFIT.out)
  have hgl := hbb3.size
  have HROW := Lib.hid hrow
  clear hbb3 hb3 hg3 hrow
  go_wp2_with fail
  refine (pageParse_in w3 m HP3.out.ok HFIT.out g 0 512 (by omega) (by omega) hgl HROW.out).mono ?_
  rintro e w4 ⟨q, v', xs', rfl, hq4, hb4, hi4⟩
  have hrl := HP3.out.rowlt
  have hql : ∀ k, (k = q ∨ v'.ownBlock = some k) → w3.heap.size ≤ k := fun k e => by
    rcases e with e | e
    · have := hq4.base; omega
    · exact (hq4.row.lt k e).1
  have hduo : Duo w4 p w.heap.size v xs m q w3.heap.size v' xs' m :=
    ⟨HP3.out.below hb4, hq4, fun k e e' => by have := hrl k e; have := hql k e'; omega, HP3.out.itemsIn.mono fun k hk e => by have := hql k e; have hk : k < w3.heap.size := hk; omega, hi4.mono fun k hk e => by have := hrl k e; have hk : w3.heap.size ≤ k := hk; omega⟩
  have hz3 := HB3.out.size
  have hbase := HP3.out.base
  have HD4 := Lib.hid hduo
  have HB4 := Lib.hid (HB3.out.trans (hb4.mono HB3.out.size))
  clear hrl hql hduo hq4 hb4 hi4
  go_wp2_with fail
  obtain ⟨Bq, hBq⟩ : ∃ Bq, Bq = w3.heap.size := ⟨_, rfl⟩
  rw [← hBq] at HD4
  have hwq : w.heap.size ≤ Bq := by omega
  clear hBq
  go_loopw [32] (fun x wr => ∃ k : Nat, k ≤ ms.length ∧ x = .int .i64 k ∧ Hid (∃ v xs v' xs', Duo wr p w.heap.size v xs (m.runs (ms.take k)) q Bq v' xs' (m.runs (ms.take k))) ∧ Hid (Below w.heap.size w wr)) (fun x wr => ms.length - (intOf x).toNat)
  case atStart => exact ⟨0, Nat.zero_le _, rfl, ⟨_, _, _, _, HD4.out⟩, HB4⟩
  case round =>
    obtain ⟨k, hk, rfl, HDD, HB⟩ := hrel
    obtain ⟨va, xa, vb, xb, hd⟩ := HDD.out
    obtain ⟨M, hM⟩ : ∃ M, M = m.runs (ms.take k) := ⟨_, rfl⟩
    rw [← hM] at hd
    have HD := Lib.hid hd
    have HM := Lib.hid hM
    clear hd hM HDD
    by_cases hlt : k < ms.length
    · obtain ⟨b, o, rfl, hb, hx⟩ := HA.out k hlt
      have hat := HMS.out.at_ ms[k] (List.getElem_mem hlt)
      obtain ⟨x, hxx⟩ : ∃ x, x = ms[k] := ⟨_, rfl⟩
      rw [← hxx] at hx hat
      have HXX := Lib.hid hxx
      obtain ⟨y0, y1, y2⟩ := cellPO hx
      have z0 : wr.cell? ⟨b, o + k * 3, none⟩ = _ := (HB.out.cell (p := ⟨b, o + k * 3, none⟩) hb).trans y0
      have z1 : wr.cell? ⟨b, o + k * 3 + 1, none⟩ = _ := (HB.out.cell (p := ⟨b, o + k * 3 + 1, none⟩) hb).trans y1
      have z2 : wr.cell? ⟨b, o + k * 3 + 2, none⟩ = _ := (HB.out.cell (p := ⟨b, o + k * 3 + 2, none⟩) hb).trans y2
      obtain ⟨D1, d1, e1, -, -, -, -⟩ := hat.1.open_
      rw [e1] at z2
      have HE1 := Lib.hid e1
      have HAT := Lib.hid hat
      clear hat hxx hx y0 y1 y2 e1
      go_wp2_with fail
      obtain ⟨wl, hwl⟩ : ∃ wl, wl = wr.alloc (.cells #[.int .i64 x.op.kind, .int .i64 x.op.i, .slice D1 x.op.data.length d1] 58) := ⟨_, rfl⟩
      have hbl : Below wr.heap.size wr wl := by rw [hwl]; exact (Below.refl _ _).alloc (Nat.le_refl _) _
      have hnb : Blk wl wr.heap.size 58 #[.int .i64 x.op.kind, .int .i64 x.op.i, .slice D1 x.op.data.length d1] := by rw [hwl]; exact Blk.new _ _ _
      have hdl := HD.out.below hbl
      have hbwl := HB.out.trans (hbl.mono HB.out.size)
      have hat1 := HAT.out.below hbwl
      have hpw : ∀ j, (j = p ∨ va.ownBlock = some j) → w.heap.size ≤ j ∧ j < wr.heap.size := fun j e => by
        refine ⟨?_, HD.out.one.rowlt j e⟩
        rcases e with e | e
        · omega
        · exact (HD.out.one.row.lt j e).1
      have hqw : ∀ j, (j = q ∨ vb.ownBlock = some j) → w.heap.size ≤ j ∧ j < wr.heap.size := fun j e => by
        refine ⟨?_, HD.out.two.rowlt j e⟩
        rcases e with e | e
        · have := HD.out.two.base; omega
        · have := (HD.out.two.row.lt j e).1; omega
      have hask := asks_any wl p w.heap.size va xa M hdl.one x.op x.dv hat1.1 (HAT.out.1.off fun j hj e => by have := hpw j e; omega) hat1.2.2.2 hat1.2.2.1.2
      unfold refP at hask
      rw [HE1.out] at hask
      rw [← hwl]
      have HBL := Lib.hid hbwl
      have HDL := Lib.hid hdl
      have HNB := Lib.hid hnb
      have HPW := Lib.hid hpw
      have HQW := Lib.hid hqw
      clear hwl hbl hnb hdl hbwl hat1 hpw hqw z0 z1 z2
      refine hask.mono ?_
      rintro e wA ⟨⟨r1, rfl⟩, hout⟩
      clear hask
      obtain ⟨vc, xc, hdA⟩ := HDL.out.step hout
      have hbA := hout.belowB HBL.out HBL.out.size (HPW.out p (.inl rfl)).1 (fun j e => (HPW.out j (.inr e)).1)
      obtain ⟨_, _, _, hsA, _⟩ := hout
      have hnA := HNB.out.mod hsA.mod (fun e => by have := HPW.out _ e; omega)
      have a0 : wA.cell? ⟨wr.heap.size, 0, none⟩ = some (.int .i64 x.op.kind) := hnA.cell 0
      have a1 : wA.cell? ⟨wr.heap.size, 1, none⟩ = some (.int .i64 x.op.i) := hnA.cell 1
      have a2 : wA.cell? ⟨wr.heap.size, 2, none⟩ = some (.slice D1 x.op.data.length d1) := hnA.cell 2
      have HDA := Lib.hid hdA
      have HBA := Lib.hid hbA
      clear hdA hbA hsA hnA
      go_wp2_with fail
      have hat2 := HAT.out.below HBA.out
      have hask := asks_any wA q Bq vb xb M HDA.out.two x.op x.dv hat2.1 (HAT.out.1.off fun j hj e => by have := HQW.out j e; omega) hat2.2.2.2 hat2.2.2.1.2
      unfold refP at hask
      rw [HE1.out] at hask
      clear hat2 a0 a1 a2
      refine hask.mono ?_
      rintro e wB ⟨⟨r2, rfl⟩, hout⟩
      clear hask
      obtain ⟨vd, xd, hdB⟩ := HDA.out.symm.step hout
      have hbB := hout.belowB HBA.out HBA.out.size (HQW.out q (.inl rfl)).1 (fun j e => (HQW.out j (.inr e)).1)
      obtain ⟨n, hn⟩ : ∃ n, n = (M.run x.op).items.length := ⟨_, rfl⟩
      obtain ⟨r, hr⟩ : ∃ r, r = (M.run x.op).room := ⟨_, rfl⟩
      have HDB := Lib.hid hdB.symm
      have HBB := Lib.hid hbB
      have HN := Lib.hid hn
      have HR := Lib.hid hr
      clear hdB hbB hout hn hr
      go_wp2_with fail
      refine (pageLen_n HDB.out.one HN.out).mono ?_
      rintro e wC ⟨rfl, hwC⟩
      subst wC
      go_wp2_with fail
      refine (pageLen_n HDB.out.two HN.out).mono ?_
      rintro e wC ⟨rfl, hwC⟩
      subst wC
      go_wp2_with fail
      refine (pageRoom_any wB p _ vc xc _ HDB.out.one).mono ?_
      rw [← HR.out]
      rintro e wC ⟨rfl, rfl⟩
      go_wp2_with fail
      refine (pageRoom_any wB q _ vd xd _ HDB.out.two).mono ?_
      rw [← HR.out]
      rintro e wC ⟨rfl, rfl⟩
      have HNX : Hid (∃ v xs v' xs', Duo wB p w.heap.size v xs (m.runs (ms.take (k + 1))) q Bq v' xs' (m.runs (ms.take (k + 1)))) := ⟨vc, xc, vd, xd, by
        rw [List.take_succ_eq_append_getElem hlt, pgruns_snoc, ← HXX.out, ← HM.out]; exact HDB.out⟩
      go_wp2_with fail
      go_roundw
      case rel => exact ⟨k + 1, by omega, by go_num, HNX, HBB⟩
      case measure => simp [intOf]; omega
    · obtain rfl : k = ms.length := by omega
      have hfM : M.Fit := by rw [HM.out]; exact HFIT.out.runs _
      have HFM := Lib.hid hfM
      have hlenM := pageL_len hfM
      have HLM := Lib.hid hlenM
      clear hfM hlenM
      go_wp2_with fail
      refine (pageBytes_any wr p _ va xa M HD.out.one HFM.out).mono ?_
      rintro e wA ⟨gA, rfl, hgA, hbbA, hbA⟩
      have HDA := Lib.hid (HD.out.below hbA)
      have HBA := Lib.hid (HB.out.trans (hbA.mono HB.out.size))
      have HGA := Lib.hid hbbA
      clear hgA hbbA hbA
      go_wp2_with fail
      refine (pageBytes_any wA q _ vb xb M HDA.out.two HFM.out).mono ?_
      rintro e wB ⟨gB, rfl, hgB, hbbB, hbB⟩
      have HDB := Lib.hid (HDA.out.below hbB)
      have HBB := Lib.hid (HBA.out.trans (hbB.mono HBA.out.size))
      have hr1 := ((HGA.out.row512 HLM.out).below hbB).more hbB.size
      have hr2 := hbbB.row512 HLM.out
      have HR1 := Lib.hid hr1
      have HR2 := Lib.hid hr2
      clear hgB hbbB hbB hr1 hr2
      go_wp2_with fail
      refine (same_b HR1.out HR2.out).mono ?_
      rw [sameB_self]
      rintro e wC ⟨rfl, hbC⟩
      have HDC := Lib.hid (HDB.out.below hbC)
      have HBC := Lib.hid (HBB.out.trans (hbC.mono HBB.out.size))
      clear hbC
      go_wp2_with fail
      refine (items_any wC p _ va xa M HDC.out.one).mono ?_
      rintro e wE ⟨uE, yE, rfl, htE, hbE⟩
      obtain ⟨AE, cE, rfl⟩ := htE.open_
      have HDE := Lib.hid (HDC.out.below hbE)
      have HBE := Lib.hid (HBC.out.trans (hbE.mono HBC.out.size))
      have HTE := Lib.hid htE
      clear htE hbE
      go_wp2_with fail
      refine (items_any wE q _ vb xb M HDE.out.two).mono ?_
      rintro e wG ⟨uG, yG, rfl, htG, hbG⟩
      obtain ⟨AG, cG, rfl⟩ := htG.open_
      have HDG := Lib.hid (HDE.out.below hbG)
      have HBG := Lib.hid (HBE.out.trans (hbG.mono HBE.out.size))
      have HTE2 := Lib.hid (HTE.out.below hbG)
      have HTG := Lib.hid htG
      clear htG hbG
      go_wp2_with fail
      refine (same8_any wG _ _ _ _ _ _ _ _ HTE2.out HTG.out).mono ?_
      rw [sameT_self]
      rintro e wI ⟨rfl, hbI⟩
      have HDI := Lib.hid (HDG.out.below hbI)
      have HBI := Lib.hid (HBG.out.trans (hbI.mono HBG.out.size))
      obtain ⟨ls, hls⟩ : ∃ ls, ls = M.lsn := ⟨_, rfl⟩
      obtain ⟨ex, hex⟩ : ∃ ex, ex = M.extra := ⟨_, rfl⟩
      have HLS := Lib.hid hls
      have HEX := Lib.hid hex
      clear hbI hls hex
      go_wp2_with fail
      refine (pageLSN_any wI p _ va xa M HDI.out.one).mono ?_
      rw [← HLS.out]
      rintro e wJ ⟨rfl, rfl⟩
      go_wp2_with fail
      refine (pageLSN_any wI q _ vb xb M HDI.out.two).mono ?_
      rw [← HLS.out]
      rintro e wJ ⟨rfl, rfl⟩
      go_wp2_with fail
      refine (pageExtra_any wI p _ va xa M HDI.out.one).mono ?_
      rw [← HEX.out]
      rintro e wJ ⟨rfl, rfl⟩
      go_wp2_with fail
      refine (pageExtra_any wI q _ vb xb M HDI.out.two).mono ?_
      rw [← HEX.out]
      rintro e wJ ⟨rfl, rfl⟩
      go_wp2_with fail
      go_ret
      exact ⟨rfl, HBI.out⟩
end Go.Proofs.Ytknhlbbgjfcjaaa
