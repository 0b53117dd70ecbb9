/-
  The walk of WalRuns.
-/
import Derived.Test.YtplkdcegfpiofaaZV53
import Derived.Test.YtplkdcegfpiofaaZV51
import Derived.Test.YtplkdcegfpiofaaZV33
import Derived.Test.YtplkdcegfpiofaaYV291
namespace Go.Proofs.Ytplkdcegfpiofaa
open Go.RowKit Go.Maps
set_option linter.unusedVariables false

/-- What holds between two rounds. -/
def RunsR (w wr : World) (p sb mb g count k : Nat) : Prop :=
  ∃ B s sv bv m rs, WalAt wr p sb mb none s g B sv bv m ∧ RunsS s m rs count k ∧ (w.heap.size ≤ p ∧ w.heap.size ≤ sb ∧ w.heap.size ≤ mb ∧ w.heap.size ≤ B) ∧ Below w.heap.size w wr
theorem RunsR.next {w wr w' : World} {p sb mb g count k : Nat} (h : RunsR w wr p sb mb g count k) (hb : Below wr.heap.size wr w') : RunsR w w' p sb mb g count (k + 1) := by
  obtain ⟨B, s, sv, bv, m, rs, h1, h2, h3, h4⟩ := h
  exact ⟨B, s, sv, bv, m, rs, h1.below hb, h2.next, h3, h4.trans (hb.mono h4.size)⟩

set_option maxRecDepth 100000 in
set_option maxHeartbeats 4000000 in
theorem walRuns_run (w : World) (count : Nat) (ov : Value) (os : List OpC) (kv : Value) (ks : List Int) (hc : 1 ≤ count ∧ count ≤ 9) (hO : OpsAt w ov os) (hK : RI w w.heap.size kv ks) (hks : ∀ x ∈ ks, I64 x) :
    Calls Try.prog 6 #[.int .i64 (count : Int), ov, kv] w fun e w' => e = .returned (.bool true) ∧ Below w.heap.size w w' := by
  obtain ⟨AO, cO, rfl, hO1, hO2, hO3, HX⟩ := hO.rk.open_
  obtain ⟨AK, cK, rfl, -, -, -, -⟩ := hK.open_
  obtain ⟨N, hN⟩ : ∃ N, N = os.length := ⟨_, rfl⟩
  obtain ⟨nk, hnk⟩ : ∃ nk, nk = ks.length := ⟨_, rfl⟩
  rw [← hnk] at hK ⊢
  have hNb : N ≤ 1900000 := by rw [hN]; exact hO.len
  rw [← hN] at hO hO1 ⊢
  have HO := Lib.hid hO
  have HK := Lib.hid hK
  have HKS := Lib.hid hks
  have HN := Lib.hid hN
  have HCC := Lib.hid hc
  have hc1 : ¬ (count : Int) < 1 := by omega
  have hc2 : ¬ (9 : Int) < (count : Int) := by omega
  obtain ⟨s0, hs0⟩ : ∃ s0, s0 = begS (DS.new 10) 1 count := ⟨_, rfl⟩
  obtain ⟨m0, hm0⟩ : ∃ m0, m0 = begL (DS.new 10) 1 count := ⟨_, rfl⟩
  have HR0 : Hid (RunsS s0 m0 [] count 0) := Lib.hid (by rw [hs0, hm0]; exact RunsS.begun count hc)
  have HMD : Hid (∀ W : World, Calls Try.prog 23 #[.int .i64 (count : Int)] W (MadeOut W s0 m0)) := Lib.hid (fun W => by rw [hs0, hm0]; exact made_any W count hc)
  clear hO hN hK hks hnk hs0 hm0 hc hO2 hO3
  go_enter Try.func6, Try.ntmps6
  go_wp2_with fail
  refine (alive9_any w).mono ?_
  rintro e Wa ⟨rfl, hba⟩
  have HBA := Lib.hid hba
  clear hba
  go_wp2_with fail
  refine (HMD.out Wa).mono ?_
  rintro e W0 ⟨p, sb, mb, g, B, sv, bv, rfl, hw0, hz0, hb0⟩
  have HRR : Hid (RunsR w W0 p sb mb g count 0) := Lib.hid ⟨B, s0, sv, bv, m0, [], hw0, HR0.out, by have := HBA.out.size; omega, HBA.out.trans (hb0.mono HBA.out.size)⟩
  clear hw0 hz0 hb0
  go_wp2_with fail
  go_loopw [37] (fun i wr => ∃ (k : Nat), i = .int .i64 (k : Int) ∧ k ≤ N ∧ Hid (RunsR w wr p sb mb g count k)) (fun i wr => N - (intOf i).toNat)
  case atStart => exact ⟨0, rfl, Nat.zero_le _, HRR⟩
  case round =>
    obtain ⟨k, rfl, hk, HR⟩ := hrel
    obtain ⟨B1, s, sv1, bv1, m, rs, hw1, hs1, hz1, hb1⟩ := HR.out
    have HW := Lib.hid hw1
    have HS := Lib.hid hs1
    have HZ := Lib.hid hz1
    have HB := Lib.hid hb1
    have hk2m : k ≤ 2000000 := by omega
    have HOFF : Hid (∀ (v : Value) (l : List Nat), RB w w.heap.size v l → Off (OwnL g sv1 bv1) v l) := Lib.hid (fun v l h => h.off (fun j hj e => by have h5 := (hw1.lg.own j e).1; have h6 := hz1.2.2.2; omega))
    have hzw := hb1.size
    clear hw1 hs1 hz1 hb1
    by_cases hkN : k < N
    · obtain ⟨bo, off, rfl, hblt, hcell⟩ := HX.out k (by rw [← HN.out]; exact hkN)
      obtain ⟨x, hx⟩ : ∃ x, x = os[k]'(by rw [← HN.out]; exact hkN) := ⟨_, rfl⟩
      rw [← hx] at hcell
      have hxat := HO.out.at_ x (by rw [hx]; exact List.getElem_mem _)
      obtain ⟨ok, on, ot, dA, dn, dc, kA, kn, kc, fA, fn, fc, data, keeps, fates⟩ := x
      obtain ⟨x0, x1, x2, x3, x4, x5⟩ := cellO hcell
      dsimp only at x0 x1 x2 x3 x4 x5
      have y0 : wr.cell? ⟨bo, off + k * 6, none⟩ = some (.int .i64 ok) := (HB.out.cell (p := ⟨bo, off + k * 6, none⟩) hblt).trans x0
      have y1 : wr.cell? ⟨bo, off + k * 6 + 1, none⟩ = some (.int .i64 on) := (HB.out.cell (p := ⟨bo, off + k * 6 + 1, none⟩) hblt).trans x1
      have y2 : wr.cell? ⟨bo, off + k * 6 + 2, none⟩ = some (.int .i64 ot) := (HB.out.cell (p := ⟨bo, off + k * 6 + 2, none⟩) hblt).trans x2
      have y3 : wr.cell? ⟨bo, off + k * 6 + 3, none⟩ = some (.slice dA dn dc) := (HB.out.cell (p := ⟨bo, off + k * 6 + 3, none⟩) hblt).trans x3
      have y4 : wr.cell? ⟨bo, off + k * 6 + 4, none⟩ = some (.slice kA kn kc) := (HB.out.cell (p := ⟨bo, off + k * 6 + 4, none⟩) hblt).trans x4
      have y5 : wr.cell? ⟨bo, off + k * 6 + 5, none⟩ = some (.slice fA fn fc) := (HB.out.cell (p := ⟨bo, off + k * 6 + 5, none⟩) hblt).trans x5
      have HXA := Lib.hid hxat
      clear hcell hx hxat x0 x1 x2 x3 x4 x5
      have hba1 : Below wr.heap.size wr (wr.alloc (.cells #[.int .i64 ok, .int .i64 on, .int .i64 ot, .slice dA dn dc, .slice kA kn kc, .slice fA fn fc] 77)) := (Below.refl _ _).alloc (Nat.le_refl _) _
      have HBA1 := Lib.hid hba1
      clear hba1
      by_cases hk1 : ok = 1
      · subst hk1
        go_wp2_with fail
        refine (asks_append _ p sb mb g B1 s sv1 bv1 m (HW.out.below HBA1.out) (by rw [HS.out.cnt]; have := HCC.out; omega) data on ot dA kA fA dn dc kn kc fn fc (((HXA.out.data.below HB.out).more hzw).below HBA1.out |>.more HBA1.out.size) (HOFF.out _ _ HXA.out.data) HXA.out.dlen).mono ?_
        rintro e w2 ⟨⟨v, rfl⟩, ⟨sv2, bv2, hw2⟩, hm2⟩
        obtain ⟨rs2, hs2⟩ := HS.out.append on data HXA.out.data.1
        have HRN : Hid (RunsR w w2 p sb mb g count (k + 1)) := Lib.hid ⟨B1, s, sv2, bv2, _, rs2, hw2, hs2, HZ.out, below_by (HB.out.trans (HBA1.out.mono hzw)) hm2 (HW.out.ownL HZ.out.2.2.2)⟩
        clear hw2 hm2 hs2
        go_wp2_with fail
        go_roundw
        case rel => exact ⟨k + 1, by go_num, by omega, HRN⟩
        case measure => simp [intOf]; omega
      · by_cases hk2 : ok = 2
        · subst hk2
          go_wp2_with fail
          refine (asks_flush _ p sb mb g B1 s sv1 bv1 m (HW.out.below HBA1.out) (by have := HS.out.steps; omega) on ot dA kA fA dn dc kn kc fn fc).mono ?_
          rintro e w2 ⟨⟨v, rfl⟩, hw2, hm2⟩
          have HRN : Hid (RunsR w w2 p sb mb g count (k + 1)) := Lib.hid ⟨B1, _, sv1, bv1, _, rs, hw2, HS.out.flush, HZ.out, below_by (HB.out.trans (HBA1.out.mono hzw)) hm2 (HW.out.ownW HZ.out)⟩
          clear hw2 hm2
          go_wp2_with fail
          go_roundw
          case rel => exact ⟨k + 1, by go_num, by omega, HRN⟩
          case measure => simp [intOf]; omega
        · by_cases hk3 : ok = 3
          · subst hk3
            go_wp2_with fail
            refine (asks_reset _ p sb mb g B1 s sv1 bv1 m (HW.out.below HBA1.out) (by have := HS.out.steps; omega) on ot dA kA fA dn dc kn kc fn fc).mono ?_
            rintro e w2 ⟨⟨v, rfl⟩, ⟨sv2, bv2, hw2⟩, hm2⟩
            have HRN : Hid (RunsR w w2 p sb mb g count (k + 1)) := Lib.hid ⟨B1, _, sv2, bv2, _, _, hw2, (HS.out.reset hk2m).1, HZ.out, below_by (HB.out.trans (HBA1.out.mono hzw)) hm2 (HW.out.ownW HZ.out)⟩
            clear hw2 hm2
            go_wp2_with fail
            go_roundw
            case rel => exact ⟨k + 1, by go_num, by omega, HRN⟩
            case measure => simp [intOf]; omega
          · have HRN : Hid (RunsR w (wr.alloc (.cells #[.int .i64 ok, .int .i64 on, .int .i64 ot, .slice dA dn dc, .slice kA kn kc, .slice fA fn fc] 77)) p sb mb g count (k + 1)) := Lib.hid (HR.out.next HBA1.out)
            have hout : ¬ (1 ≤ ok ∧ ok ≤ 3) := by omega
            by_cases h1k : 1 ≤ ok
            · have h3k : ¬ ok ≤ 3 := by omega
              go_wp2_with fail
              go_roundw
              case rel => exact ⟨k + 1, by go_num, by omega, HRN⟩
              case measure => simp [intOf]; omega
            · go_wp2_with fail
              go_roundw
              case rel => exact ⟨k + 1, by go_num, by omega, HRN⟩
              case measure => simp [intOf]; omega
    · have HFI := Lib.hid (HS.out.finish hk2m ks)
      have HRE := Lib.hid (HS.out.reset hk2m)
      have HR00 := Lib.hid (HS.out.reset0 hk2m)
      obtain ⟨en, hen⟩ : ∃ en, en = m.lsn m.st.length := ⟨_, rfl⟩
      obtain ⟨ea, hea⟩ : ∃ ea, ea = m.anew.lsn 0 := ⟨_, rfl⟩
      have hup : en < ea := by rw [hen, hea]; exact HFI.out.up
      have HEN := Lib.hid hen
      have HEA := Lib.hid hea
      clear hen hea
      go_wp2_with fail
      refine (logEnd_any wr p g B1 sv1 bv1 m HW.out.lg).mono ?_
      rw [← HEN.out]
      rintro e w1 ⟨rfl, h1⟩
      subst h1
      go_wp2_with fail
      refine (Reset_any w1 p sb mb g B1 none s sv1 bv1 m HW.out (by have := HS.out.steps; omega)).mono ?_
      rw [HR00.out, HRE.out.2]
      obtain ⟨s2, hs2⟩ : ∃ s2, s2 = (m.reset s).1 := ⟨_, rfl⟩
      rw [← hs2] at HFI ⊢
      rintro e w2 ⟨rfl, ⟨sv2, bv2, hw2⟩, hm2⟩
      have HW2 : Hid (WalAt w2 p sb mb none s2 g B1 sv2 bv2 m.anew) := Lib.hid hw2
      have HB2 : Hid (Below w.heap.size w w2) := Lib.hid (below_by HB.out hm2 (HW.out.ownW HZ.out))
      have HEA2 : Hid (m.anew.lsn m.anew.st.length = ea) := Lib.hid (by rw [HEA.out]; rfl)
      have HSA2 : Hid (m.anew.lsn m.anew.safe = ea) := Lib.hid (by rw [HEA.out]; rfl)
      have HRM2 : Hid (m.anew.room = count * 498) := Lib.hid (by unfold LG.room; show m.count * 498 - 0 = _; rw [HS.out.cnt]; rfl)
      have HRC2 : Hid (Recs m.anew []) := Lib.hid ((HRE.out.2 ▸ HRE.out.1.good.recs))
      clear hw2 hm2 hs2
      have hup1 : ¬ (ea : Int) ≤ (en : Int) := by omega
      go_wp2_with fail
      refine (logEnd_any w2 p g B1 sv2 bv2 m.anew HW2.out.lg).mono ?_
      rw [HEA2.out]
      rintro e w3 ⟨rfl, h3⟩
      subst h3
      go_wp2_with fail
      refine (logSafe_any w3 p g B1 sv2 bv2 m.anew HW2.out.lg).mono ?_
      rw [HSA2.out]
      rintro e w4 ⟨rfl, h4⟩
      subst h4
      go_wp2_with fail
      refine (logEnd_any w4 p g B1 sv2 bv2 m.anew HW2.out.lg).mono ?_
      rw [HEA2.out]
      rintro e w5 ⟨rfl, h5⟩
      subst h5
      have hcm : IntKind.i64.wrap ((count : Int) * 498) = (count : Int) * 498 := by have := HCC.out; rw [IntKind.wrap_i64]; omega
      have hcm2 : ((count * 498 : Nat) : Int) = (count : Int) * 498 := by omega
      go_wp2_with fail
      refine (logRoom_any w5 p g B1 sv2 bv2 m.anew HW2.out.lg).mono ?_
      rw [HRM2.out, hcm2]
      rintro e w6 ⟨rfl, q6, hq6⟩
      have hb6 : Below w5.heap.size w5 w6 := by rw [hq6]; exact below_drewN (Below.refl _ _) q6
      have HW6 : Hid (WalAt w6 p sb mb none s2 g B1 sv2 bv2 m.anew) := Lib.hid (HW2.out.below hb6)
      have HB6 : Hid (Below w.heap.size w w6) := Lib.hid (HB2.out.trans (hb6.mono HB2.out.size))
      clear hq6 hb6
      go_wp2_with fail
      refine (Records_all w6 p g B1 sv2 bv2 m.anew [] HW6.out.lg HRC2.out (by show (0 : Nat) ≤ 900000; omega)).mono ?_
      rintro e w7 ⟨A7, n7, c7, rfl, hn7, hr7, hb7⟩
      have HW7 : Hid (WalAt w7 p sb mb none s2 g B1 sv2 bv2 m.anew) := Lib.hid (HW6.out.below hb7)
      have HB7 : Hid (Below w.heap.size w w7) := Lib.hid (HB6.out.trans (hb7.mono HB6.out.size))
      have hn70 : n7 = 0 := hn7
      subst hn70
      clear hn7 hr7 hb7
      go_wp2_with fail
      refine (logEnd_any w7 p g B1 sv2 bv2 m.anew HW7.out.lg).mono ?_
      rw [HEA2.out]
      rintro e w8 ⟨rfl, h8⟩
      subst h8
      have HK8 : Hid (RI w8 w8.heap.size (.slice AK nk cK) ks) := Lib.hid ((HK.out.below HB7.out).more HB7.out.size)
      go_wp2_with fail
      refine (On_any w8 p sb mb none s2 (.slice AK nk cK) ks HW7.out.dk HK8.out HKS.out (HK.out.off (fun j hj e => by have := HZ.out.2.1; omega))).mono ?_
      rintro e w9 ⟨rfl, hd9, hm9⟩
      have HD9 := Lib.hid hd9
      have HB9 : Hid (Below w.heap.size w w9) := Lib.hid (below_by HB7.out hm9 (fun j hj => HW7.out.ownW HZ.out j (.inl hj)))
      clear hd9 hm9
      obtain ⟨s3, hs3⟩ : ∃ s3, s3 = s2.on ks := ⟨_, rfl⟩
      rw [← hs3] at HD9 HFI
      clear hs3
      go_wp2_with fail
      refine (Open_any w9 p sb mb none s3 1 count HD9.out HFI.out.off (by rw [HFI.out.len]; have := HCC.out; omega) ⟨HCC.out.1, by have := HCC.out; omega⟩ HFI.out.log).mono ?_
      obtain ⟨m3, hm3⟩ : ∃ m3, m3 = LG.opened s3 1 count := ⟨_, rfl⟩
      have HM3 : Hid (m3.lsn m3.st.length = ea ∧ (m3.reset s3).2.2 = 0 ∧ (m3.reset s3).2.1 = m3.anew ∧ ea < m3.anew.lsn 0 ∧ m3.begs.length = 0) := Lib.hid (by
        rw [hm3, HEA.out]
        refine ⟨HFI.out.last, HFI.out.res, HFI.out.anew, HFI.out.up2, ?_⟩
        have := congrArg List.length HFI.out.tells
        unfold LG.tells at this
        simpa using this)
      rw [← hm3]
      rintro e w10 ⟨g3, sv3, bv3, A3, n3, c3, rfl, hn3, hw10, hr10, hb10⟩
      have hn30 : n3 = 0 := hn3.trans HM3.out.2.2.2.2
      subst hn30
      have HW10 := Lib.hid hw10
      have HZ9 : Hid (w.heap.size ≤ w9.heap.size) := Lib.hid HB9.out.size
      have HB10 : Hid (Below w.heap.size w w10) := Lib.hid (HB9.out.trans (hb10.mono HB9.out.size))
      have HST3 : Hid (s3.steps < 1000000000000) := Lib.hid HFI.out.steps
      clear hn3 hw10 hr10 hb10 hm3
      go_wp2_with fail
      refine (logEnd_any w10 p g3 _ sv3 bv3 m3 HW10.out.lg).mono ?_
      rw [HM3.out.1]
      rintro e w11 ⟨rfl, h11⟩
      subst h11
      go_wp2_with fail
      refine (Reset_any w11 p sb mb g3 _ none s3 sv3 bv3 m3 HW10.out (by have := HST3.out; omega)).mono ?_
      rw [HM3.out.2.1, HM3.out.2.2.1]
      rintro e w12 ⟨rfl, ⟨sv4, bv4, hw12⟩, hm12⟩
      have HW12 := Lib.hid hw12
      have HB12 : Hid (Below w.heap.size w w12) := Lib.hid (below_by HB10.out hm12 (HW10.out.ownW ⟨HZ.out.1, HZ.out.2.1, HZ.out.2.2.1, HZ9.out⟩))
      obtain ⟨eN, heN⟩ : ∃ eN, eN = m3.anew.lsn 0 := ⟨_, rfl⟩
      have hup2 : (ea : Int) < (eN : Int) := by have := HM3.out.2.2.2.1; omega
      have HEN2 : Hid (m3.anew.lsn m3.anew.st.length = eN) := Lib.hid (by rw [heN]; rfl)
      clear hw12 hm12 heN
      go_wp2_with fail
      refine (logEnd_any w12 p g3 _ sv4 bv4 m3.anew HW12.out.lg).mono ?_
      rw [HEN2.out]
      rintro e w13 ⟨rfl, h13⟩
      subst h13
      go_wp2_with fail
      go_ret
      exact ⟨rfl, HB12.out⟩
end Go.Proofs.Ytplkdcegfpiofaa

/-
  The walk of WalRuns, at all arguments.
-/
namespace Go.Proofs.Ytplkdcegfpiofaa
open Go.RowKit Go.Maps
set_option linter.unusedVariables false

set_option maxRecDepth 100000 in
set_option maxHeartbeats 1000000 in
theorem walRuns_early (w : World) (A A2 : Option Addr) (n c n2 c2 : Nat) (count : Int) (hbad : count < 1 ∨ 9 < count) :
    Calls Try.prog 6 #[.int .i64 count, .slice A n c, .slice A2 n2 c2] w fun e w' => e = .returned (.bool true) ∧ Below w.heap.size w w' := by
  by_cases h1 : count < 1
  · clear hbad
    go_enter Try.func6, Try.ntmps6
    go_wp2_with fail
    refine (alive9_any w).mono ?_
    rintro e W0 ⟨rfl, hb0⟩
    have HB0 := Lib.hid hb0
    clear hb0
    go_wp2_with fail
    go_ret
    exact ⟨rfl, HB0.out⟩
  · have h2 : 9 < count := by omega
    clear hbad
    go_enter Try.func6, Try.ntmps6
    go_wp2_with fail
    refine (alive9_any w).mono ?_
    rintro e W0 ⟨rfl, hb0⟩
    have HB0 := Lib.hid hb0
    clear hb0
    go_wp2_with fail
    go_ret
    exact ⟨rfl, HB0.out⟩
theorem walRuns_walk (count : Int) (v : Value) (os : List OpC) (kv : Value) (ks : List Int) (w : World) (h1 : (Lit.int .i64 count).wf = true) (h : OpsAt w v os) (hK : RI w w.heap.size kv ks) (hks : ∀ x ∈ ks, I64 x) :
    Calls Try.prog 6 #[.int .i64 count, v, kv] w fun e w' => e = .returned (.bool true) ∧ Below w.heap.size w w' := by
  by_cases hbad : count < 1 ∨ 9 < count
  · obtain ⟨A, c, e, _⟩ := h.rk.open_
    obtain ⟨A2, c2, e2, _⟩ := hK.open_
    subst e e2
    exact walRuns_early w A A2 _ c _ c2 count hbad
  · obtain ⟨n, rfl⟩ : ∃ n : Nat, count = (n : Int) := ⟨count.toNat, by omega⟩
    exact walRuns_run w n v os kv ks (by omega) h hK hks
end Go.Proofs.Ytplkdcegfpiofaa
