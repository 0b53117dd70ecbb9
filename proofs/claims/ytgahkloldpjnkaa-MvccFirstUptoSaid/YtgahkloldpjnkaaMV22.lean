/-
  The walk of skeinlaw14's MvccTry.
-/
import Derived.Test.YtgahkloldpjnkaaMV21
namespace Go.Proofs.Ytgahkloldpjnkaa
open Go.RowKit Go.Maps
set_option linter.unusedVariables false

/-- Two tables side by side, each in blocks of its own. -/
def Two (B : Nat) (g g2 : Nat) (M N : MV) (w : World) : Prop := ∃ S S2, Tb w g S M ∧ Tb w g2 S2 N ∧ (∀ k, S k → B ≤ k) ∧ (∀ k, S2 k → B ≤ k) ∧ ∀ k, S k → ¬ S2 k

theorem Two.swap {B g g2 : Nat} {M N : MV} {w : World} (h : Two B g g2 M N w) : Two B g2 g N M w := by
  obtain ⟨S, S2, h1, h2, h3, h4, h5⟩ := h
  exact ⟨S2, S, h2, h1, h4, h3, fun k hk hk2 => h5 k hk2 hk⟩

theorem Two.below {B g g2 : Nat} {M N : MV} {w w' : World} (h : Two B g g2 M N w) (hb : Below w.heap.size w w') : Two B g g2 M N w' := by
  obtain ⟨S, S2, h1, h2, h3, h4, h5⟩ := h
  exact ⟨S, S2, h1.below hb, h2.below hb, h3, h4, h5⟩

theorem Two.tb {B g g2 : Nat} {M N : MV} {w : World} (h : Two B g g2 M N w) : TbB B w g M := by
  obtain ⟨S, S2, h1, h2, h3, h4, h5⟩ := h
  exact ⟨S, h1, h3⟩

theorem two_turn {B g g2 : Nat} {S S2 : Nat → Prop} {M N M' : MV} {w w' : World} (hB : B ≤ w.heap.size) (h1 : Tb w g S M) (h2 : Tb w g2 S2 N) (h3 : ∀ k, S k → B ≤ k) (h4 : ∀ k, S2 k → B ≤ k) (h5 : ∀ k, S k → ¬ S2 k) (ht : Turn w g S M' w') : Two B g g2 M' N w' := by
  obtain ⟨S', h6, h7, h8⟩ := ht
  refine ⟨S', S2, h6, h2.mod h7 (fun k hk hk2 => h5 k hk2 hk), fun k hk => ?_, h4, fun k hk hk2 => ?_⟩
  · rcases h8 k hk with h9 | h9
    · exact h3 k h9
    · omega
  · rcases h8 k hk with h9 | h9
    · exact h5 k h9 hk2
    · have := h2.lt hk2; omega

theorem xCommit {B g g2 : Nat} {M N : MV} {w : World} (h : Two B g g2 M N w) (hB : B ≤ w.heap.size) (n : Int) (hn : I64 n) (hb : M.bulk ≤ 4611686018427387904) :
    Calls Try.prog 21 #[.pointer (some ⟨g, 0, none⟩), .int .i64 n] w fun e w' => e = .returned (.tuple #[.int .i64 (M.commitT n), .int .i64 (M.tryE n)]) ∧ Two B g g2 (M.commit n) N w' ∧ Tame B w w' := by
  obtain ⟨S, S2, h1, h2, h3, h4, h5⟩ := h
  exact (tCommit w g S M h1 n hn hb).mono fun e w' ⟨h6, h7⟩ => ⟨h6, two_turn hB h1 h2 h3 h4 h5 h7, (turn_b h1 h3 hB h7).2⟩

theorem xAsks {B g g2 : Nat} {M N : MV} {w : World} (h : Two B g g2 M N w) (hB : B ≤ w.heap.size) (kd n : Int) (rA : Option Addr) (rn rc : Nat) (rs : List Rf) (ho : OpMAt w ⟨kd, n, rA, rn, rc, rs⟩) (hr2 : rs.length ≤ 400000) (hr3 : M.txns.length ≤ 400000) (hr4 : M.bulk + rs.length ≤ 800000) :
    Calls Try.prog 11 #[.pointer (some ⟨g, 0, none⟩), .agg #[.slice none 0 0, .int .i64 0], .agg #[.int .i64 kd, .int .i64 n, .slice rA rn rc]] w fun e w' => (∃ u, e = .returned u) ∧ Two B g g2 (M.run ⟨kd, n, rA, rn, rc, rs⟩) N w' ∧ Tame B w w' := by
  obtain ⟨S, S2, h1, h2, h3, h4, h5⟩ := h
  have hz : (MV.new 0).Ok := ⟨by decide, (fun _ hx => nomatch hx), (fun _ hx => nomatch hx), by decide, by decide⟩
  have hb0 : (MV.new 0).bulk = 0 := rfl
  refine (asks_any w g S M h1 (.slice none 0 0) [] (MV.new 0) (rtab_new w hz) kd n rA rn rc rs ho (by decide) (by omega) hr3 hr4).mono ?_
  rintro e w' ⟨v', xs', b, h6, h7, h8, h9⟩
  exact ⟨⟨_, h6⟩, two_turn hB h1 h2 h3 h4 h5 h8, (turn_b h1 h3 hB h8).2⟩

set_option maxRecDepth 100000 in
set_option maxHeartbeats 2000000 in
theorem mvccTry_walk (last : Int) (v : Value) (os : List OpM) (w : World) (hl : I64 last) (hs : ScrAt w v os) :
    Calls Try.prog 7 #[.int .i64 last, v] w fun e w' => e = .returned (.bool true) ∧ Below w.heap.size w w' := by
  obtain ⟨A, c, rfl, hc1, hc2, hc3, HC⟩ := hs.rk.open_
  have hlen := hs.len
  have HS := Lib.hid hs
  have HL := Lib.hid hl
  clear hs hl
  go_enter Try.func7, Try.ntmps7
  go_wp2_with fail
  refine (tNew w last HL.out).mono ?_
  rintro e w1 ⟨rfl, ⟨S1, h1, s1⟩, b1⟩
  obtain ⟨g, hg⟩ : ∃ g, g = w.heap.size + 2 := ⟨_, rfl⟩
  rw [← hg] at h1 ⊢
  have H1 := Lib.hid h1
  have HS1 := Lib.hid s1
  have HB1 := Lib.hid b1
  clear h1 s1 b1 hg
  go_wp2_with fail
  refine (tNew w1 last HL.out).mono ?_
  rintro e w2 ⟨rfl, ⟨S2, h2, s2⟩, b2⟩
  obtain ⟨g2, hg2⟩ : ∃ g2, g2 = w1.heap.size + 2 := ⟨_, rfl⟩
  rw [← hg2] at h2 ⊢
  have h12 : Two w.heap.size g g2 (MV.new last) (MV.new last) w2 := ⟨S1, S2, H1.out.below b2, h2, HS1.out, fun k hk => Nat.le_trans HB1.out.size (s2 k hk), fun k hk hk2 => by have := H1.out.lt hk; have := s2 k hk2; omega⟩
  have H2 := Lib.hid h12
  have T2 := Lib.hid (HB1.out.trans (b2.mono HB1.out.size))
  clear h2 s2 b2 h12 hg2
  go_wp2_with fail
  refine (alive_any w2).mono ?_
  rintro e w3 ⟨rfl, hb3⟩
  have H3 := Lib.hid (H2.out.below hb3)
  have T3 := Lib.hid (T2.out.trans (hb3.mono T2.out.size))
  clear hb3
  go_wp2_with fail
  go_loopw [31] (fun i wr => ∃ k : Nat, k ≤ os.length ∧ i = .int .i64 k ∧ Hid (Two w.heap.size g g2 ((MV.new last).runs (os.take k)) ((MV.new last).runs (os.take k)) wr) ∧ Hid (Below w.heap.size w wr)) (fun i _ => os.length - (intOf i).toNat)
  case atStart => exact ⟨0, Nat.zero_le _, rfl, H3, T3⟩
  case round =>
    obtain ⟨k, hk, rfl, HTW, HT⟩ := hrel
    by_cases hkl : k < os.length
    · obtain ⟨b1, o1, rfl, hb, hx⟩ := HC.out k hkl
      obtain ⟨hx1, hx2, hx3⟩ := cellOM hx
      have y1 : wr.cell? ⟨b1, o1 + k * 3, none⟩ = _ := (HT.out.cell (p := ⟨b1, o1 + k * 3, none⟩) hb).trans hx1
      have y2 : wr.cell? ⟨b1, o1 + k * 3 + 1, none⟩ = _ := (HT.out.cell (p := ⟨b1, o1 + k * 3 + 1, none⟩) hb).trans hx2
      have y3 : wr.cell? ⟨b1, o1 + k * 3 + 2, none⟩ = _ := (HT.out.cell (p := ⟨b1, o1 + k * 3 + 2, none⟩) hb).trans hx3
      have HOP := Lib.hid (HS.out.at_ os[k] (List.getElem_mem hkl))
      have HTK := Lib.hid (List.take_succ_eq_append_getElem hkl)
      have HSM := Lib.hid (runs_small (last := last) HS.out k)
      have HRL := Lib.hid (Nat.le_trans (mem_sum (fun x : OpM => x.refs.length) os os[k] (List.getElem_mem hkl)) HS.out.sum)
      clear hx hx1 hx2 hx3
      obtain ⟨x, hx⟩ : ∃ x, x = os[k] := ⟨_, rfl⟩
      rw [← hx] at y1 y2 y3 HOP HTK HRL
      clear hx
      obtain ⟨M, hM⟩ : ∃ M, M = (MV.new last).runs (os.take k) := ⟨_, rfl⟩
      rw [← hM] at HTW HSM
      have HM := Lib.hid hM
      clear hM
      obtain ⟨kd, n, rA, rn, rc, refs⟩ := x
      dsimp only at y1 y2 y3
      have hrl : refs.length ≤ 400000 := HRL.out
      have HN64 : Hid (I64 n) := Lib.hid HOP.out.n64
      obtain ⟨W, hW⟩ : ∃ W, W = wr.alloc (.cells #[.int .i64 kd, .int .i64 n, .slice rA rn rc] 32) := ⟨_, rfl⟩
      have hbW : Below wr.heap.size wr W := by rw [hW]; exact (Below.refl _ _).alloc (Nat.le_refl _) _
      have hbx : Blk W wr.heap.size 32 #[.int .i64 kd, .int .i64 n, .slice rA rn rc] := by rw [hW]; exact Blk.new _ _ _
      have HBX := Lib.hid hbx
      have H4 := Lib.hid (HTW.out.below hbW)
      have HT4 := Lib.hid (HT.out.trans (hbW.mono HT.out.size))
      have HW := Lib.hid hW
      clear hbx hbW hW HTW HT
      go_wp2_with fail
      rw [← HW.out]
      obtain ⟨bo, hbo⟩ : ∃ bo, bo = wr.heap.size := ⟨_, rfl⟩
      rw [← hbo] at HBX ⊢
      clear hbo HW
      go_loopw [9] (fun i wx => ∃ j : Nat, j ≤ 6 ∧ i = .int .i64 j ∧ Hid (Two w.heap.size g g2 M M wx) ∧ Hid (Below w.heap.size w wx) ∧ Hid (Blk wx bo 32 #[.int .i64 kd, .int .i64 n, .slice rA rn rc])) (fun i _ => 6 - (intOf i).toNat)
      case atStart => exact ⟨0, by omega, rfl, H4, HT4, HBX⟩
      case round =>
        obtain ⟨j, hj, rfl, HTX, HTT, HBB⟩ := hrel
        have hb0 := HBB.out.lt
        have z0 : wr.cell? ⟨bo, 0, none⟩ = some (.int .i64 kd) := HBB.out.cell 0
        have z1 : wr.cell? ⟨bo, 1, none⟩ = some (.int .i64 n) := HBB.out.cell 1
        have z2 : wr.cell? ⟨bo, 2, none⟩ = some (.slice rA rn rc) := HBB.out.cell 2
        have HWB := Lib.hid HTT.out.size
        by_cases hj6 : j < 6
        · have i64 : I64 (j : Int) := by unfold I64; omega
          go_wp2_with fail
          refine (bTry w.heap.size wr g2 M HTX.out.swap.tb (j : Int) i64).mono ?_
          rintro e wa ⟨rfl, hba⟩
          have HT1 := Lib.hid (HTX.out.below hba)
          have HT2 := Lib.hid (HTT.out.trans (hba.mono HTT.out.size))
          have HT3 := Lib.hid (HBB.out.below hba HBB.out.lt)
          clear hba
          go_wp2_with fail
          go_roundw
          case rel => exact ⟨j + 1, by omega, by go_num, HT1, HT2, HT3⟩
          case measure => simp [intOf]; omega
        · have HM6 : Hid (j = 6) := Lib.hid (by omega)
          by_cases h3 : kd = 3
          · subst h3
            obtain ⟨te, hte⟩ : ∃ te, te = M.tryE n := ⟨_, rfl⟩
            obtain ⟨ct, hct⟩ : ∃ ct, ct = M.commitT n := ⟨_, rfl⟩
            have HTE := Lib.hid hte
            have HCT := Lib.hid hct
            clear hte hct
            obtain ⟨M', hM'⟩ : ∃ M', M' = M.commit n := ⟨_, rfl⟩
            have HREL : Hid ((MV.new last).runs (os.take (k + 1)) = M') := Lib.hid (by rw [HTK.out, runs_snoc, ← HM.out, hM']; rfl)
            go_wp2_with fail
            refine (bTry w.heap.size wr g2 M HTX.out.swap.tb n HN64.out).mono ?_
            rintro e wa ⟨rfl, hba⟩
            rw [← HTE.out]
            have HTa := Lib.hid (HTX.out.below hba)
            have HBa := Lib.hid (HTT.out.trans (hba.mono HTT.out.size))
            have HKa := Lib.hid (HBB.out.below hba HBB.out.lt)
            clear hba
            have za : wa.cell? ⟨bo, 1, none⟩ = some (.int .i64 n) := HKa.out.cell 1
            go_wp2_with fail
            refine (xCommit HTa.out.swap HBa.out.size n HN64.out (by have := HSM.out.2; omega)).mono ?_
            rintro e wb ⟨rfl, h5, t5⟩
            rw [← HTE.out, ← HCT.out, ]
            rw [← hM'] at h5
            have HTb := Lib.hid h5
            have HBb := Lib.hid (HBa.out.trans t5.below)
            have HKb := Lib.hid (t5.blk (by decide) HKa.out)
            clear h5 t5
            have zb : wb.cell? ⟨bo, 1, none⟩ = some (.int .i64 n) := HKb.out.cell 1
            go_wp2_with fail
            refine (xCommit HTb.out.swap HBb.out.size n HN64.out (by have := HSM.out.2; omega)).mono ?_
            rintro e wz ⟨rfl, h5, t5⟩
            rw [← HTE.out, ← HCT.out]
            rw [← hM'] at h5
            have HE := Lib.hid h5
            have HZ := Lib.hid (HBb.out.trans t5.below)
            clear h5 t5 hM'
            go_wp2_with fail
            refine (bLast w.heap.size _ g M' HE.out.tb).mono ?_
            rintro e _ ⟨rfl, rfl⟩
            go_wp2_with fail
            refine (bLast w.heap.size _ g2 M' HE.out.swap.tb).mono ?_
            rintro e _ ⟨rfl, rfl⟩
            go_wp2_with fail
            refine (bHorizon w.heap.size _ g M' HE.out.tb).mono ?_
            rintro e wc ⟨rfl, hbc⟩
            have HE1 := Lib.hid (HE.out.below hbc)
            have HZ1 := Lib.hid (HZ.out.trans (hbc.mono HZ.out.size))
            clear hbc
            go_wp2_with fail
            refine (bHorizon w.heap.size wc g2 M' HE1.out.swap.tb).mono ?_
            rintro e wd ⟨rfl, hbd⟩
            have HE2 := Lib.hid (HE1.out.below hbd)
            have HZ2 := Lib.hid (HZ1.out.trans (hbd.mono HZ1.out.size))
            clear hbd
            go_wp2_with fail
            refine (bLive w.heap.size wd g M' HE2.out.tb).mono ?_
            rintro e we ⟨v8, rfl, h8, hbe⟩
            have HE3 := Lib.hid (HE2.out.below hbe)
            have HZ3 := Lib.hid (HZ2.out.trans (hbe.mono HZ2.out.size))
            have HV8 := Lib.hid (h8.rk encI_len (Nat.le_refl _))
            clear hbe h8
            go_wp2_with fail
            refine (bLive w.heap.size we g2 M' HE3.out.swap.tb).mono ?_
            rintro e wf ⟨v9, rfl, h9, hbf⟩
            have HE4 := Lib.hid (HE3.out.below hbf)
            have HZ4 := Lib.hid (HZ3.out.trans (hbf.mono HZ3.out.size))
            have HV9 := Lib.hid (h9.rk encI_len (Nat.le_refl _))
            have HV8f := Lib.hid ((HV8.out.below hbf).more hbf.size)
            clear hbf h9
            go_wp2_with fail
            refine (SameInts_yes _ _ M'.nums _ _ _ HV8f.out HV9.out).mono ?_
            rintro e wh ⟨rfl, q, rfl⟩
            go_wp2_with fail
            go_roundw
            case rel =>
              exact ⟨k + 1, by omega, by go_num, Lib.hid (by rw [HREL.out]; exact HE4.out.below ⟨rfl, rfl, rfl, Nat.le_refl _, fun _ _ => rfl⟩), Lib.hid (below_drewN HZ4.out q)⟩
            case measure => simp [intOf]; omega
          · have g3 : (kd == 3) = false := by simpa using h3
            obtain ⟨M', hM'⟩ : ∃ M', M' = M.run ⟨kd, n, rA, rn, rc, refs⟩ := ⟨_, rfl⟩
            have HREL : Hid ((MV.new last).runs (os.take (k + 1)) = M') := Lib.hid (by rw [HTK.out, runs_snoc, ← HM.out, hM'])
            have HOP2 := Lib.hid (HOP.out.below HTT.out)
            go_wp2_with fail
            refine (xAsks HTX.out HTT.out.size kd n rA rn rc refs HOP2.out hrl (by have := HSM.out.1; omega) (by have := HSM.out.2; omega)).mono ?_
            rintro e wb ⟨⟨u1, rfl⟩, h5, t5⟩
            rw [← hM'] at h5
            have HTb := Lib.hid h5
            have HBb := Lib.hid (HTT.out.trans t5.below)
            have HKb := Lib.hid (t5.blk (by decide) HBB.out)
            clear h5 t5
            have zb0 : wb.cell? ⟨bo, 0, none⟩ = some (.int .i64 kd) := HKb.out.cell 0
            have zb : wb.cell? ⟨bo, 1, none⟩ = some (.int .i64 n) := HKb.out.cell 1
            have zb2 : wb.cell? ⟨bo, 2, none⟩ = some (.slice rA rn rc) := HKb.out.cell 2
            have HOP3 := Lib.hid (HOP.out.below HBb.out)
            go_wp2_with fail
            refine (xAsks HTb.out.swap HBb.out.size kd n rA rn rc refs HOP3.out hrl (by have := HSM.out.1; omega) (by have := HSM.out.2; omega)).mono ?_
            rintro e wz ⟨⟨u2, rfl⟩, h5, t5⟩
            rw [← hM'] at h5
            have HE := Lib.hid h5.swap
            have HZ := Lib.hid (HBb.out.trans t5.below)
            clear h5 t5 hM'
            go_wp2_with fail
            refine (bLast w.heap.size _ g M' HE.out.tb).mono ?_
            rintro e _ ⟨rfl, rfl⟩
            go_wp2_with fail
            refine (bLast w.heap.size _ g2 M' HE.out.swap.tb).mono ?_
            rintro e _ ⟨rfl, rfl⟩
            go_wp2_with fail
            refine (bHorizon w.heap.size _ g M' HE.out.tb).mono ?_
            rintro e wc ⟨rfl, hbc⟩
            have HE1 := Lib.hid (HE.out.below hbc)
            have HZ1 := Lib.hid (HZ.out.trans (hbc.mono HZ.out.size))
            clear hbc
            go_wp2_with fail
            refine (bHorizon w.heap.size wc g2 M' HE1.out.swap.tb).mono ?_
            rintro e wd ⟨rfl, hbd⟩
            have HE2 := Lib.hid (HE1.out.below hbd)
            have HZ2 := Lib.hid (HZ1.out.trans (hbd.mono HZ1.out.size))
            clear hbd
            go_wp2_with fail
            refine (bLive w.heap.size wd g M' HE2.out.tb).mono ?_
            rintro e we ⟨v8, rfl, h8, hbe⟩
            have HE3 := Lib.hid (HE2.out.below hbe)
            have HZ3 := Lib.hid (HZ2.out.trans (hbe.mono HZ2.out.size))
            have HV8 := Lib.hid (h8.rk encI_len (Nat.le_refl _))
            clear hbe h8
            go_wp2_with fail
            refine (bLive w.heap.size we g2 M' HE3.out.swap.tb).mono ?_
            rintro e wf ⟨v9, rfl, h9, hbf⟩
            have HE4 := Lib.hid (HE3.out.below hbf)
            have HZ4 := Lib.hid (HZ3.out.trans (hbf.mono HZ3.out.size))
            have HV9 := Lib.hid (h9.rk encI_len (Nat.le_refl _))
            have HV8f := Lib.hid ((HV8.out.below hbf).more hbf.size)
            clear hbf h9
            go_wp2_with fail
            refine (SameInts_yes _ _ M'.nums _ _ _ HV8f.out HV9.out).mono ?_
            rintro e wh ⟨rfl, q, rfl⟩
            go_wp2_with fail
            go_roundw
            case rel =>
              exact ⟨k + 1, by omega, by go_num, Lib.hid (by rw [HREL.out]; exact HE4.out.below ⟨rfl, rfl, rfl, Nat.le_refl _, fun _ _ => rfl⟩), Lib.hid (below_drewN HZ4.out q)⟩
            case measure => simp [intOf]; omega
    · go_wp2_with fail
      go_ret
      exact ⟨rfl, HT.out⟩

end Go.Proofs.Ytgahkloldpjnkaa
