/-
  The walk of DiskSafe.
-/
import Derived.Test.YtjjjikiopbmogaaE6
namespace Go.Proofs.Ytjjjikiopbmogaa
open Go.RowKit Go.Maps
set_option linter.unusedVariables false

theorem piece_head (v : Value) (l : List Nat) (n : Nat) (w : World) (hv : RB w w.heap.size v l) (hn : n ≤ 9223372036854775807) :
    Calls Try.prog 34 #[v, .int .i64 0, .int .i64 (n : Int)] w fun e w' => ∃ v', e = .returned v' ∧ OB w' w.heap.size v' (piece l 0 n) ∧ Below w.heap.size w w' :=
  piece_any v l 0 n w hv (by omega) hn
theorem below_drewN (w : World) (m : Nat) : Below w.heap.size w (w.drewN m) := ((Mod.refl (fun k => w.heap.size ≤ k) w).drewN m).below (Nat.le_refl _) (fun k h => h)
theorem write_steps (s : DS) (i : Int) (l : List Nat) : (s.write i l).steps ≤ s.steps + 1 := by
  have := run_steps s ⟨2, i, l, [], []⟩
  unfold DS.run at this
  rw [if_pos rfl] at this
  exact this
theorem sync_steps (s : DS) : s.sync.steps ≤ s.steps + 1 := by
  have := run_steps s ⟨3, 0, [], [], []⟩
  unfold DS.run at this
  rw [if_neg (by decide), if_pos rfl] at this
  exact this

set_option maxRecDepth 100000 in
set_option maxHeartbeats 4000000 in
theorem diskSafe_any (w : World) (bv : Value) (os : List OpV) (at_ : Int) (dv0 : Value) (l : List Nat) (av : Value) (os2 : List OpV) (hs : Script w bv os) (ha : (Lit.int .i64 at_).wf = true) (hd : RB w w.heap.size dv0 l) (hdl : l.length ≤ 140737488351232) (hs2 : Script w av os2) :
    Calls Try.prog 5 #[bv, .int .i64 at_, dv0, av] w fun e w' => e = .returned (.bool true) ∧ Below w.heap.size w w' := by
  obtain ⟨A, c, rfl, ha1, ha2, ha3, HA⟩ := hs.rk.open_
  obtain ⟨A2, c2, rfl, hb1, hb2, hb3, HA2⟩ := hs2.rk.open_
  obtain ⟨A3, c3, rfl, hc1, hc2, hc3, _⟩ := hd.open_
  have HSC := Lib.hid hs
  have HSC2 := Lib.hid hs2
  have HDD := Lib.hid hd
  have HAT64 := Lib.hid ha
  have hol := hs.len
  have hol2 := hs2.len
  clear hs hs2 hd ha
  go_enter Try.func5, Try.ntmps5
  go_wp2_with fail
  refine (alive_any w).mono ?_
  rintro e wa ⟨rfl, hba⟩
  have HBA := Lib.hid hba
  clear hba
  go_wp2_with fail
  refine (New_any 8 wa).mono ?_
  rintro e w0 ⟨rfl, hd0, hz0, hb0⟩
  obtain ⟨p, hp⟩ : ∃ p, p = wa.heap.size + 2 := ⟨_, rfl⟩
  obtain ⟨sb, hsb⟩ : ∃ sb, sb = wa.heap.size := ⟨_, rfl⟩
  obtain ⟨mb, hmb⟩ : ∃ mb, mb = wa.heap.size + 1 := ⟨_, rfl⟩
  rw [← hp, ← hmb] at hd0
  rw [← hsb] at hd0
  rw [← hp]
  have hwa := HBA.out.size
  have hown : w.heap.size ≤ p ∧ w.heap.size ≤ sb ∧ w.heap.size ≤ mb := by omega
  have HOWN := Lib.hid hown
  have HB0 : Hid (Below w.heap.size w w0) := HBA.out.trans (hb0.mono hwa)
  have HL0 : Hid (Live w0 p sb mb w0 (DS.new 8)) := ⟨⟨none, hd0⟩, Mod.refl _ _⟩
  clear hp hsb hmb hd0 hz0 hb0 hown hwa
  go_wp2_with fail
  go_loopw [27] (fun i wr => ∃ k : Nat, k ≤ os.length ∧ i = .int .i64 k ∧ Hid (Live w0 p sb mb wr ((DS.new 8).runs (os.take k)))) (fun i wr => os.length - (intOf i).toNat)
  case atStart => exact ⟨0, Nat.zero_le _, rfl, HL0.out⟩
  case round =>
    obtain ⟨k, hkk, rfl, HL⟩ := hrel
    by_cases hkl : k < os.length
    · have hst := runs_steps0 (n := 8) HSC.out.len k
      have HST := Lib.hid hst
      clear hst
      obtain ⟨b1, o1, rfl, hb, hx⟩ := HA.out k hkl
      have hbw : Below w.heap.size w wr := Mod.own HB0.out HL.out.mod HOWN.out
      have hat := HSC.out.at_ os[k] (List.getElem_mem hkl)
      have hoff := HSC.out.offB HOWN.out (List.getElem_mem hkl)
      obtain ⟨x, hxx⟩ : ∃ x, x = os[k] := ⟨_, rfl⟩
      rw [← hxx] at hx hat hoff
      obtain ⟨y0, y1, y2, y3, y4⟩ := cellOp hx
      have z0 : wr.cell? ⟨b1, o1 + k * 5, none⟩ = _ := (hbw.cell (p := ⟨b1, o1 + k * 5, none⟩) hb).trans y0
      have z1 : wr.cell? ⟨b1, o1 + k * 5 + 1, none⟩ = _ := (hbw.cell (p := ⟨b1, o1 + k * 5 + 1, none⟩) hb).trans y1
      have z2 : wr.cell? ⟨b1, o1 + k * 5 + 2, none⟩ = _ := (hbw.cell (p := ⟨b1, o1 + k * 5 + 2, none⟩) hb).trans y2
      have z3 : wr.cell? ⟨b1, o1 + k * 5 + 3, none⟩ = _ := (hbw.cell (p := ⟨b1, o1 + k * 5 + 3, none⟩) hb).trans y3
      have z4 : wr.cell? ⟨b1, o1 + k * 5 + 4, none⟩ = _ := (hbw.cell (p := ⟨b1, o1 + k * 5 + 4, none⟩) hb).trans y4
      have HAT := Lib.hid (hat.1.below hbw)
      have hi64 := hat.2.2.1
      have hk64' := hat.2.1
      obtain ⟨D1, d1, e1, _, _, _, _⟩ := hat.1.data.open_
      obtain ⟨D2, d2, e2, _, _, _, _⟩ := hat.1.keeps.open_
      obtain ⟨D3, d3, e3, _, _, _, _⟩ := hat.1.fates.open_
      have HOFF := Lib.hid hoff
      have HXX := Lib.hid hxx
      clear y0 y1 y2 y3 y4 hx hat hoff hxx hbw
      obtain ⟨o, dv, kv, fv⟩ := x
      dsimp only at z0 z1 z2 z3 z4 e1 e2 e3 hi64 hk64'
      subst e1 e2 e3

      have hO : OpAt (wr.alloc (.cells (opC o (.slice D1 o.data.length d1) (.slice D2 o.keeps.length d2) (.slice D3 o.fates.length d3)) 37)) o (.slice D1 o.data.length d1) (.slice D2 o.keeps.length d2) (.slice D3 o.fates.length d3) := HAT.out.below ((Below.refl _ _).alloc (Nat.le_refl _) _)
      have HO := Lib.hid hO
      obtain ⟨pl, hpl⟩ := HL.out.disk
      have HPL := Lib.hid hpl
      clear hO hpl
      go_wp2_with fail
      refine (do_any _ p sb mb pl _ o _ _ _ (HPL.out.alloc _) HO.out HOFF.out (by have := HST.out; omega)).mono ?_
      intro e w1 hdo1
      have hop : os[k].op = o := by rw [← HXX.out]
      rw [← hop] at hdo1
      obtain ⟨rfl, hl1⟩ := Live.step HL.out.mod hdo1
      rw [← runs_snoc, ← List.take_succ_eq_append_getElem hkl] at hl1
      have HL1 := Lib.hid hl1
      clear hdo1 hl1 hop
      go_wp2_with fail
      go_roundw
      case rel => exact ⟨k + 1, by omega, by go_num, HL1⟩
      case measure => simp [intOf]; omega
    · obtain rfl : k = os.length := by omega
      obtain ⟨s, hs⟩ : ∃ s, s = (DS.new 8).runs (os.take os.length) := ⟨_, rfl⟩
      have hsl : s.safe.length = 8 := by rw [hs, runs_len]; rfl
      have hst : s.steps ≤ 1000000000000000 := by rw [hs]; exact runs_steps0 HSC.out.len _
      have hlive : Live w0 p sb mb wr s := by rw [hs]; exact HL.out
      have HSL := Lib.hid hsl
      have HST := Lib.hid hst
      have HV := Lib.hid hlive
      clear hs hsl hst hlive HL
      obtain ⟨pl, hpl⟩ := HV.out.disk
      have HPL := Lib.hid hpl
      have hbw : Below w.heap.size w wr := Mod.own HB0.out HV.out.mod HOWN.out
      have HBW := Lib.hid hbw
      have hdw : RB wr wr.heap.size (.slice A3 l.length c3) l := (HDD.out.below hbw).more hbw.size
      have HDW := Lib.hid hdw
      clear hpl hbw hdw HA HSC
      go_wp2_with fail
      refine (copy_any _ l wr HDW.out).mono ?_
      rintro e w1 ⟨v1, rfl, ho1, hb1⟩
      have HO1 := Lib.hid ho1
      have HP1 := Lib.hid (HPL.out.below hb1)
      have HM1 : Hid (Mod (Own p sb mb) w0 w1) := HV.out.mod.trans (Mod.of_below hb1 (Own p sb mb)) (fun _ _ e => e)
      have HOF1 : Hid (Off (fun k => k = p) v1 l) := .inr (fun b e h => by have := HO1.out.lt b e; have := HPL.out.lt; omega)
      obtain ⟨A4, c4, rfl, _, _, _, _⟩ := ho1.rbn.open_
      clear ho1 hb1
      go_wp2_with fail
      refine (Write_any w1 p sb mb pl s at_ _ l HP1.out (by have := HST.out; omega) HO1.out.rbn HOF1.out).mono ?_
      rintro e w2 ⟨rfl, hd2, hm2⟩
      have HD2 := Lib.hid hd2
      have HM2 := Lib.hid (HM1.out.trans' hm2)
      obtain ⟨ew, hew⟩ : ∃ ew, ew = s.writeE at_ l := ⟨_, rfl⟩
      rw [← hew]
      have HEW := Lib.hid hew
      clear hew hd2 hm2
      go_wp2_with fail
      refine (Sync_any w2 p sb mb pl (s.write at_ l) HD2.out (by have := HST.out; have := write_steps s at_ l; omega)).mono ?_
      rintro e w3 ⟨rfl, hd3, hm3⟩
      have HD3 := Lib.hid hd3
      have HM3 := Lib.hid (HM2.out.trans' hm3)
      obtain ⟨es, hes⟩ : ∃ es, es = (s.write at_ l).syncE := ⟨_, rfl⟩
      rw [← hes]
      have hes3 := syncE_is (s.write at_ l)
      rw [← hes] at hes3
      have HES := Lib.hid hes
      clear hes hd3 hm3
      have HB3 : Hid (Below w.heap.size w w3) := Mod.own HB0.out HM3.out HOWN.out
      by_cases hew0 : ew = 0
      · subst hew0
        rcases hes3 with rfl | rfl | rfl
        · obtain ⟨i, rfl, hkp, hll, hoff⟩ := write_sync HEW.out.symm HES.out.symm
          have hst3 : (s.write (i : Int) l).sync.steps ≤ 1000000000000002 := by have := HST.out; have := write_steps s (i : Int) l; have := sync_steps (s.write (i : Int) l); omega
          obtain ⟨t, ht⟩ : ∃ t, t = (s.write (i : Int) l).sync := ⟨_, rfl⟩
          rw [← ht] at hkp hoff HD3 hst3
          have hre := hkp.read hoff
          have HKP := Lib.hid hkp
          have HRE := Lib.hid hre
          have HST3 := Lib.hid hst3
          clear ht hkp hre hoff HST HSL HEW HES HD2 HM2 HV HPL HP1 HM1 HO1 HOF1 HDW HBW hst3
          go_wp2_with fail
          refine (Read_any w3 p sb mb pl t HD3.out (i : Int)).mono ?_
          rintro e w4 ⟨vb, rfl, hb4, hvb⟩
          rw [HRE.out] at hvb ⊢
          rcases hvb with ⟨_, b0, rfl, hb0, hsb⟩ | ⟨hh, _⟩
          · rw [Int.toNat_natCast, HKP.out.has] at hsb
            have HS0 := Lib.hid hsb
            have hb0n : ¬ Own p sb mb b0 := by have := HD3.out.lt; rintro (e | e | e) <;> omega
            have HB0N := Lib.hid hb0n
            have HB4 : Hid (Below w.heap.size w w4) := HB3.out.trans (hb4.mono HB3.out.size)
            have HD4 : Hid (DiskAt w4 p sb mb pl t) := HD3.out.below hb4
            clear hsb hb0 hb0n hb4
            go_wp2_with fail
            go_loopw [66] (fun j wr => ∃ k : Nat, k ≤ os2.length ∧ j = .int .i64 k ∧ Hid (∃ s', Live w4 p sb mb wr s' ∧ Kept s' i (pad l) ∧ s'.steps ≤ 1000000000000002 + k)) (fun j wr => os2.length - (intOf j).toNat)
            case atStart => exact ⟨0, Nat.zero_le _, rfl, t, ⟨⟨pl, HD4.out⟩, Mod.refl _ _⟩, HKP.out, HST3.out⟩
            case round =>
              obtain ⟨k, hkk, rfl, HS'⟩ := hrel
              obtain ⟨s', hl', hk', hst'⟩ := HS'.out
              have HL := Lib.hid hl'
              have HK' := Lib.hid hk'
              have HST' := Lib.hid hst'
              clear hl' hk' hst' HS'
              by_cases hkl : k < os2.length
              · obtain ⟨b1, o1, rfl, hb, hx⟩ := HA2.out k hkl
                have hbw : Below w.heap.size w wr := Mod.own HB4.out HL.out.mod HOWN.out
                have hat := HSC2.out.at_ os2[k] (List.getElem_mem hkl)
                have hoff := HSC2.out.offB HOWN.out (List.getElem_mem hkl)
                obtain ⟨x, hxx⟩ : ∃ x, x = os2[k] := ⟨_, rfl⟩
                rw [← hxx] at hx hat hoff
                obtain ⟨y0, y1, y2, y3, y4⟩ := cellOp hx
                have z0 : wr.cell? ⟨b1, o1 + k * 5, none⟩ = _ := (hbw.cell (p := ⟨b1, o1 + k * 5, none⟩) hb).trans y0
                have z1 : wr.cell? ⟨b1, o1 + k * 5 + 1, none⟩ = _ := (hbw.cell (p := ⟨b1, o1 + k * 5 + 1, none⟩) hb).trans y1
                have z2 : wr.cell? ⟨b1, o1 + k * 5 + 2, none⟩ = _ := (hbw.cell (p := ⟨b1, o1 + k * 5 + 2, none⟩) hb).trans y2
                have z3 : wr.cell? ⟨b1, o1 + k * 5 + 3, none⟩ = _ := (hbw.cell (p := ⟨b1, o1 + k * 5 + 3, none⟩) hb).trans y3
                have z4 : wr.cell? ⟨b1, o1 + k * 5 + 4, none⟩ = _ := (hbw.cell (p := ⟨b1, o1 + k * 5 + 4, none⟩) hb).trans y4
                have HAT := Lib.hid (hat.1.below hbw)
                have hi64 := hat.2.2.1
                have hk64' := hat.2.1
                obtain ⟨D1, d1, e1, _, _, _, _⟩ := hat.1.data.open_
                obtain ⟨D2, d2, e2, _, _, _, _⟩ := hat.1.keeps.open_
                obtain ⟨D3, d3, e3, _, _, _, _⟩ := hat.1.fates.open_
                have HOFF := Lib.hid hoff
                have HXX := Lib.hid hxx
                clear y0 y1 y2 y3 y4 hx hat hoff hxx hbw
                obtain ⟨o, dv, kv, fv⟩ := x
                dsimp only at z0 z1 z2 z3 z4 e1 e2 e3 hi64 hk64'
                subst e1 e2 e3
                obtain ⟨kind, oi, data, keeps, fates⟩ := o
                dsimp only at z0 z1 z2 z3 z4 hi64 hk64' HAT HOFF
                by_cases hk2 : kind = 2
                · subst hk2
                  by_cases hoi : oi = (i : Int)
                  · subst hoi
                    go_wp2_with fail
                    have hrel5 : ∃ s'', Live w4 p sb mb (wr.alloc (.cells (opC ⟨2, (i : Int), data, keeps, fates⟩ (.slice D1 data.length d1) (.slice D2 keeps.length d2) (.slice D3 fates.length d3)) 37)) s'' ∧ Kept s'' i (pad l) ∧ s''.steps ≤ 1000000000000002 + (k + 1) :=
                      ⟨s', HL.out.below ((Below.refl _ _).alloc (Nat.le_refl _) _), HK'.out, by have := HST'.out; omega⟩
                    have HR5 := Lib.hid hrel5
                    clear hrel5
                    go_roundw
                    case rel => exact ⟨k + 1, by omega, by go_num, HR5⟩
                    case measure => simp [intOf]; omega
                  · have g2 : (oi == (i : Int)) = false := by simpa using hoi
                    have hO : OpAt (wr.alloc (.cells (opC ⟨2, oi, data, keeps, fates⟩ (.slice D1 data.length d1) (.slice D2 keeps.length d2) (.slice D3 fates.length d3)) 37)) ⟨2, oi, data, keeps, fates⟩ (.slice D1 data.length d1) (.slice D2 keeps.length d2) (.slice D3 fates.length d3) := HAT.out.below ((Below.refl _ _).alloc (Nat.le_refl _) _)
                    have HO := Lib.hid hO
                    obtain ⟨pl', hpl'⟩ := HL.out.disk
                    have HPL' := Lib.hid hpl'
                    clear hO hpl'
                    go_wp2_with fail
                    refine (do_any _ p sb mb pl' _ ⟨2, oi, data, keeps, fates⟩ _ _ _ (HPL'.out.alloc _) HO.out HOFF.out (by have := HST'.out; omega)).mono ?_
                    intro e w5 hdo1
                    obtain ⟨rfl, hl1⟩ := Live.step HL.out.mod hdo1
                    have hrel5 : ∃ s'', Live w4 p sb mb w5 s'' ∧ Kept s'' i (pad l) ∧ s''.steps ≤ 1000000000000002 + (k + 1) :=
                      ⟨_, hl1, HK'.out.run _ (fun e => hoi e.2), by have := HST'.out; have := run_steps s' ⟨2, oi, data, keeps, fates⟩; omega⟩
                    have HR5 := Lib.hid hrel5
                    clear hdo1 hl1 hrel5
                    go_wp2_with fail
                    go_roundw
                    case rel => exact ⟨k + 1, by omega, by go_num, HR5⟩
                    case measure => simp [intOf]; omega
                · have g2 : (kind == 2) = false := by simpa using hk2
                  have hO : OpAt (wr.alloc (.cells (opC ⟨kind, oi, data, keeps, fates⟩ (.slice D1 data.length d1) (.slice D2 keeps.length d2) (.slice D3 fates.length d3)) 37)) ⟨kind, oi, data, keeps, fates⟩ (.slice D1 data.length d1) (.slice D2 keeps.length d2) (.slice D3 fates.length d3) := HAT.out.below ((Below.refl _ _).alloc (Nat.le_refl _) _)
                  have HO := Lib.hid hO
                  obtain ⟨pl', hpl'⟩ := HL.out.disk
                  have HPL' := Lib.hid hpl'
                  clear hO hpl'
                  go_wp2_with fail
                  refine (do_any _ p sb mb pl' _ ⟨kind, oi, data, keeps, fates⟩ _ _ _ (HPL'.out.alloc _) HO.out HOFF.out (by have := HST'.out; omega)).mono ?_
                  intro e w5 hdo1
                  obtain ⟨rfl, hl1⟩ := Live.step HL.out.mod hdo1
                  have hrel5 : ∃ s'', Live w4 p sb mb w5 s'' ∧ Kept s'' i (pad l) ∧ s''.steps ≤ 1000000000000002 + (k + 1) :=
                    ⟨_, hl1, HK'.out.run _ (fun e => hk2 e.1), by have := HST'.out; have := run_steps s' ⟨kind, oi, data, keeps, fates⟩; omega⟩
                  have HR5 := Lib.hid hrel5
                  clear hdo1 hl1 hrel5
                  go_wp2_with fail
                  go_roundw
                  case rel => exact ⟨k + 1, by omega, by go_num, HR5⟩
                  case measure => simp [intOf]; omega
              · obtain rfl : k = os2.length := by omega
                clear HA2 HSC2
                obtain ⟨pl', hpl'⟩ := HL.out.disk
                have HPL' := Lib.hid hpl'
                clear hpl'
                go_wp2_with fail
                refine (On_any wr p sb mb pl' s' (.slice none 0 0) [] HPL'.out (RK.nil _ _) (by simp) (.inl rfl)).mono ?_
                rintro e w5 ⟨rfl, hd5, hm5⟩
                have hk5 := HK'.out.on []
                have hre5 := hk5.read (s := s'.on []) rfl
                have hlt5 := hd5.lt
                have hm45 : Mod (Own p sb mb) w4 w5 := HL.out.mod.trans' hm5
                have HB5 : Hid (Below w.heap.size w w5) := Mod.own HB4.out hm45 HOWN.out
                have hs5 : Secs w5 b0 [pad l] := HS0.out.mod hm45 HB0N.out
                have HS5 := Lib.hid hs5
                have HD5 := Lib.hid hd5
                have HK5 := Lib.hid hk5
                have HRE5 := Lib.hid hre5
                clear hd5 hm5 hk5 hre5 hm45 hs5 hlt5
                go_wp2_with fail
                refine (Read_any w5 p sb mb pl' (s'.on []) HD5.out (i : Int)).mono ?_
                rintro e w6 ⟨vb, rfl, hb6, hvb⟩
                rw [HRE5.out] at hvb ⊢
                rcases hvb with ⟨_, b5, rfl, hb5, hsb5⟩ | ⟨hh, _⟩
                · rw [Int.toNat_natCast, HK5.out.has] at hsb5
                  have hw6 := HS5.out.below hb6 HS5.out.lt
                  have HR0 := Lib.hid (hw6.rb (B := w6.heap.size) hw6.lt)
                  have HR5 := Lib.hid (hsb5.rb (B := w6.heap.size) hsb5.lt)
                  have HB6 : Hid (Below w.heap.size w w6) := HB5.out.trans (hb6.mono HB5.out.size)
                  clear hsb5 hb5 hw6 hb6
                  go_wp2_with fail
                  refine (same_yes _ _ _ w6 _ HR5.out HR0.out).mono ?_
                  rintro e w7 ⟨rfl, m7, rfl⟩
                  have hd7 := below_drewN w6 m7
                  have HR7 := Lib.hid ((HR5.out.below hd7).more hd7.size)
                  have HB7 := Lib.hid (HB6.out.trans (hd7.mono HB6.out.size))
                  clear hd7
                  go_wp2_with fail
                  refine (piece_head _ (pad l) l.length (w6.drewN m7) HR7.out (by omega)).mono ?_
                  rintro e w8 ⟨v8, rfl, ho8, hb8⟩
                  rw [piece_pad] at ho8
                  have HR8 := Lib.hid ho8.rbn
                  have HB8 := Lib.hid (HB7.out.trans (hb8.mono HB7.out.size))
                  have hdd8 : RB w8 w8.heap.size (.slice A3 l.length c3) l := (HDD.out.below HB8.out).more HB8.out.size
                  obtain ⟨A8, c8, rfl, _, _, _, _⟩ := ho8.rbn.open_
                  have HDD8 := Lib.hid hdd8
                  clear ho8 hb8 hdd8
                  go_wp2_with fail
                  refine (same_yes _ _ _ w8 _ HR8.out HDD8.out).mono ?_
                  rintro e w9 ⟨rfl, m9, rfl⟩
                  have hd9 := below_drewN w8 m9
                  have HB9 := Lib.hid (HB8.out.trans (hd9.mono HB8.out.size))
                  clear hd9
                  go_wp2_with fail
                  go_ret
                  exact ⟨rfl, HB9.out⟩
                · exact absurd rfl hh
          · exact absurd rfl hh
        · go_wp2_with fail
          go_ret
          exact ⟨rfl, HB3.out⟩
        · go_wp2_with fail
          go_ret
          exact ⟨rfl, HB3.out⟩
      · have g : (ew == 0) = false := by simpa using hew0
        clear hes3
        go_wp2_with fail
        go_ret
        exact ⟨rfl, HB3.out⟩
end Go.Proofs.Ytjjjikiopbmogaa
