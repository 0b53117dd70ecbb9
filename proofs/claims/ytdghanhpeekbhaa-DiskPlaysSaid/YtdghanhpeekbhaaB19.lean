/-
  The walk of skeinlaw07's DiskPlays: whatever is done to a disk, it answers and is as said.
-/
import Derived.Test.YtdghanhpeekbhaaB18
import Derived.Test.YtdghanhpeekbhaaB9
namespace Go.Proofs.Ytdghanhpeekbhaa
open Go.RowKit Go.Maps
set_option linter.unusedVariables false

/-- Where the law stands behind k calls. -/
structure PlaysAt (w wr : World) (p sb mb q7 B : Nat) (s : DS) (pl : Option Nat) (A : Option Addr) (c : Nat) (P : Option Addr) (pn pc : Nat) (xs : List Spt) (fs : List (Int × Int)) : Prop where
  disk : DiskAt wr p sb mb pl s
  ref : RefAt wr B w.heap.size A c P pn pc s xs fs
  box : Blk wr q7 46 #[.slice A s.safe.length c, .slice P pn pc, .int .i64 (s.steps : Int), .bool s.off]
  bel : Below w.heap.size w wr
  sep : w.heap.size ≤ p ∧ w.heap.size ≤ sb ∧ w.heap.size ≤ mb ∧ p < B ∧ sb < B ∧ mb < B ∧ B ≤ q7 ∧ B ≤ wr.heap.size
theorem rb_take {w : World} {B n m c : Nat} {A : Option Addr} {l : List Nat} (h : RB w B (.slice A n c) l) (hn : n = l.length) (hm : m ≤ n) (hc : m ≤ c) : RB w B (.slice A m c) (l.take m) := by
  obtain ⟨h1, h2, A', c', e, h3, h4, h5⟩ := h
  injection e with e1 e2 e3
  subst e1 e3
  have hl : (l.take m).length = m := by rw [List.length_take]; omega
  refine ⟨fun x hx => h1 x (List.mem_of_mem_take hx), by omega, A, c, by rw [hl], by omega, h4, ?_⟩
  rcases h5 with h5 | ⟨b, off, hA, hb, hc5⟩
  · exact .inl (by rw [h5]; simp)
  · refine .inr ⟨b, off, hA, hb, fun j x hx => ?_⟩
    rw [List.getElem?_take] at hx
    split at hx
    · exact hc5 j x hx
    · cases hx
theorem load_steps (l : List Nat) : (DS.load l).steps = 0 := rfl
theorem load_len (l : List Nat) : (DS.load l).safe.length = secsOf l := by unfold DS.load; simp
theorem load_spotF (l : List Nat) (i : Nat) (hi : i < secsOf l) : loadF l i = (DS.load l).spotF i := by
  unfold DS.load DS.spotF loadF
  dsimp only
  rw [List.getD, List.getElem?_map, List.getElem?_range hi]
  rfl

set_option maxRecDepth 100000 in
set_option maxHeartbeats 8000000 in
theorem diskPlays_run (w : World) (dv : Value) (data : List Nat) (sv : Value) (os : List OpV) (hd : RB w w.heap.size dv data) (hdl : data.length ≤ 140737488351232) (hs : Script2 w sv os) :
    Calls Try.prog 4 #[dv, sv] w fun e w' => e = .returned (.bool true) ∧ Below w.heap.size w w' := by
  obtain ⟨SA, sc, rfl, hs1, hs2, hs3, HSC⟩ := hs.rk.open_
  obtain ⟨DA, dc, rfl, hd1, hd2, hd3, -⟩ := hd.open_
  obtain ⟨dn, hdn⟩ : ∃ dn, dn = data.length := ⟨_, rfl⟩
  obtain ⟨n, hn⟩ : ∃ n, n = os.length := ⟨_, rfl⟩
  have hnl : n ≤ 1000000000000000 := by rw [hn]; exact hs.len
  rw [← hdn] at hd hdl hd1 hd3 ⊢
  rw [← hn] at hs1 hs3 ⊢
  have HS := Lib.hid hs
  have HD := Lib.hid hd
  have HDN := Lib.hid hdn
  have HN := Lib.hid hn
  clear hs hd hdn hn
  go_enter Try.func4, Try.ntmps4
  go_wp2_with fail
  refine (alive_any w).mono ?_
  rintro e wa ⟨rfl, hba⟩
  have HBA := Lib.hid hba
  clear hba
  go_upto_if 16 with fail
  go_cut [0] from 14 (fun x wx => ∃ (n0 : Nat) (L0 : List Nat), x = .slice DA n0 dc ∧ n0 ≤ 20000 ∧ Hid (RB w w.heap.size (.slice DA n0 dc) L0) ∧ Hid (L0.length = n0) ∧ wx = wa)
  case first =>
    by_cases hbig : 20000 < dn
    · have hb1 : (20000 : Int) < (dn : Int) := by omega
      have hb2 : ¬ dc = 20000 := by omega
      have hb3 : (20000 : Int) ≤ (dc : Int) := by omega
      have hpre : RB w w.heap.size (.slice DA 20000 dc) (data.take 20000) := rb_take HD.out HDN.out (by omega) (by omega)
      have HPRE := Lib.hid hpre
      have HL0 : Hid ((data.take 20000).length = 20000) := Lib.hid (by rw [List.length_take, ← HDN.out]; omega)
      clear hpre
      go_wp2_with fail
      go_meet
      exact ⟨20000, _, rfl, Nat.le_refl _, HPRE, HL0, rfl⟩
    · have hb1 : ¬ (20000 : Int) < (dn : Int) := by omega
      go_wp2_with fail
      go_meet
      exact ⟨dn, data, rfl, by omega, HD, Lib.hid HDN.out.symm, rfl⟩
  case rest =>
  obtain ⟨n0, L0, rfl, hn0, HD0, HL0, rfl⟩ := hcut
  have HDA : Hid (RB wc wc.heap.size (.slice DA n0 dc) L0) := Lib.hid ((HD0.out.below HBA.out).more HBA.out.size)
  go_wp2_with fail
  refine (wide_any _ L0 wc HDA.out (by rw [HL0.out]; omega)).mono ?_
  rintro e w2 ⟨v2, rfl, ho2, hb2⟩
  obtain ⟨g, cap, rfl, hg1, hg2, hg3, hg4, -, -⟩ := ho2.form (by simp [marks])
  have hml : (L0 ++ marks).length = n0 + 64 := by rw [List.length_append, HL0.out]; rfl
  rw [hml] at ho2 hg3 ⊢
  have hcap : ¬ cap = n0 := by omega
  have hR2 : RB w2 w2.heap.size (.slice (some ⟨g, 0, none⟩) n0 cap) L0 := by
    have h1 := ho2.rbn.sub (lo := 0) (m := n0) (c' := cap) (by omega) (by omega) (by omega)
    rw [List.drop_zero, List.take_left' HL0.out] at h1
    exact h1
  have HR2 := Lib.hid hR2
  have HO2 := Lib.hid ho2
  have HB2 : Hid (Below w.heap.size w w2) := Lib.hid (HBA.out.trans (hb2.mono HBA.out.size))
  have hz2 := hb2.size
  have hza := HBA.out.size
  clear hR2 ho2 hb2 hml
  go_wp2_with fail
  refine (Load_any w2 _ L0 HR2.out).mono ?_
  rintro e w3 ⟨rfl, hd3', hb3⟩
  obtain ⟨p, hp⟩ : ∃ p, p = w2.heap.size + 2 := ⟨_, rfl⟩
  obtain ⟨mb, hmb⟩ : ∃ mb, mb = w2.heap.size + 1 := ⟨_, rfl⟩
  obtain ⟨sb, hsb⟩ : ∃ sb, sb = w2.heap.size := ⟨_, rfl⟩
  rw [← hp, ← hmb] at hd3'
  rw [← hsb] at hd3'
  rw [← hp]
  have hgsep : g < sb := by omega
  have hsep : w.heap.size ≤ sb ∧ sb < mb ∧ mb < p ∧ p < w3.heap.size := by
    have := hd3'.lt.1
    omega
  have HSEP := Lib.hid hsep
  have HD3 := Lib.hid hd3'
  have HB3 : Hid (Below w.heap.size w w3) := Lib.hid (HB2.out.trans (hb3.mono HB2.out.size))
  have HO3 : Hid (OB w3 wc.heap.size (.slice (some ⟨g, 0, none⟩) (n0 + 64) cap) (L0 ++ marks)) := Lib.hid (HO2.out.below hb3)
  have HV3 : Hid (RB w3 w3.heap.size (.slice DA n0 dc) L0) := Lib.hid ((HD0.out.below HB3.out).more HB3.out.size)
  have hz3 := hb3.size
  clear hp hmb hsb hd3' hb3 hsep
  go_wp2_with fail
  refine (intact_b HO3.out.rbn HV3.out).mono ?_
  rintro e w4 ⟨rfl, hb4⟩
  have HO4 : Hid (OB w4 wc.heap.size (.slice (some ⟨g, 0, none⟩) (n0 + 64) cap) (L0 ++ marks)) := Lib.hid (HO3.out.below hb4)
  have HD4 := Lib.hid (HD3.out.below hb4)
  have HB4 : Hid (Below w.heap.size w w4) := Lib.hid (HB3.out.trans (hb4.mono HB3.out.size))
  have hz4 := hb4.size
  clear hb4
  go_wp2_with fail
  refine (spoil_any _ _ w4 wc.heap.size HO4.out).mono ?_
  rintro e w5 ⟨rfl, -, hg5⟩
  have hm5 : Mod (fun k => k = g) w4 w5 := (Mod.of_grown hg5).mono (fun k _ e => by injection e with e)
  have hz5 := hm5.size
  have hsp := HSEP.out
  have HD5 := Lib.hid (HD4.out.mod hm5 (fun e => by omega) (fun e => by omega) (fun e => by omega) (fun b hb => by cases hb))
  have HB5 : Hid (Below w.heap.size w w5) := Lib.hid (((Mod.of_below HB4.out (fun q => w.heap.size ≤ q)).trans hm5 (fun q _ e => by omega)).below (Nat.le_refl _) (fun _ h => h))
  have HV5 : Hid (RB w5 w5.heap.size (.slice DA n0 dc) L0) := Lib.hid ((HD0.out.below HB5.out).more HB5.out.size)
  clear hg5 hm5
  go_wp2_with fail
  refine (refLoad_any w5 _ L0 HV5.out).mono ?_
  rintro e w6 ⟨A6, c6, xs6, rfl, hrow6, hxl6, hb6⟩
  obtain ⟨B, hB⟩ : ∃ B, B = w5.heap.size := ⟨_, rfl⟩
  have hr6 : RefAt w6 B w.heap.size A6 c6 none 0 0 (DS.load L0) xs6 [] := by
    refine ⟨?_, by rw [load_len]; exact hxl6, RK.nil _ _, by have := hb6.size; have := HB5.out.size; omega, fun k hk => rfl⟩
    rw [load_len, hB]
    exact hrow6.congr (fun i hi => load_spotF L0 i (by omega))
  obtain ⟨q7, hq7⟩ : ∃ q7, q7 = w6.heap.size := ⟨_, rfl⟩
  obtain ⟨m0, hm0⟩ : ∃ m0, m0 = secsOf L0 := ⟨_, rfl⟩
  have hz6 := hb6.size
  unfold dkV
  rw [← hm0]
  obtain ⟨W7, hW7⟩ : ∃ W7, W7 = w6.alloc (.cells #[.slice A6 m0 c6, .slice none 0 0, .int .i64 0, .bool false] 46) := ⟨_, rfl⟩
  have hb7 : Below w6.heap.size w6 W7 := by rw [hW7]; exact (Below.refl _ _).alloc (Nat.le_refl _) _
  have hbk7 : Blk W7 q7 46 #[.slice A6 m0 c6, .slice none 0 0, .int .i64 0, .bool false] := by rw [hW7, hq7]; exact Blk.new _ _ _
  have hz7 := hb7.size
  have hPL : PlaysAt w W7 p sb mb q7 B (DS.load L0) none A6 c6 none 0 0 xs6 [] :=
    ⟨(HD5.out.below hb6).below hb7, hr6.below hb7, by rw [load_len, ← hm0]; exact hbk7, (HB5.out.trans (hb6.mono HB5.out.size)).trans (hb7.mono (by have := HB5.out.size; omega)), by have := HB5.out.size; omega⟩
  have HPL := Lib.hid hPL
  have HW7 := Lib.hid hW7
  have HQ7 := Lib.hid hq7
  clear hrow6 hxl6 hb6 hB hr6 hq7 hm0 hW7 hb7 hbk7 hPL
  go_upto_region 11 with fail
  rw [← HW7.out]
  try rw [← HQ7.out]
  clear HD0 HDA HR2 HO2 HD3 HO3 HV3 HO4 HD4 HD5 HV5 hgsep hsp
  have hseps := HPL.out.sep
  go_wp2_with fail
  go_loopw [40] (fun i wr => ∃ k : Nat, k ≤ n ∧ i = .int .i64 (k : Int) ∧ Hid (∃ pl A c P pn pc xs fs, PlaysAt w wr p sb mb q7 B ((DS.load L0).runs (os.take k)) pl A c P pn pc xs fs)) (fun i wr => n - (intOf i).toNat)
  case atStart => exact ⟨0, Nat.zero_le _, rfl, Lib.hid ⟨none, A6, c6, none, 0, 0, xs6, [], HPL.out⟩⟩
  case round =>
    obtain ⟨k, hk, rfl, HR⟩ := hrel
    obtain ⟨pl, A, c, P, pn, pc, xs, fs, hp⟩ := HR.out
    obtain ⟨s, hs⟩ : ∃ s, s = (DS.load L0).runs (os.take k) := ⟨_, rfl⟩
    rw [← hs] at hp
    have hst : s.steps < 4611686018427387904 := by
      have h1 := runs_steps (DS.load L0) (os.take k)
      have h2 : (os.take k).length ≤ k := List.length_take_le _ _
      rw [load_steps, ← hs] at h1
      omega
    obtain ⟨sn, hsn⟩ : ∃ sn, sn = s.safe.length := ⟨_, rfl⟩
    obtain ⟨st, hs0⟩ : ∃ st, st = s.steps := ⟨_, rfl⟩
    obtain ⟨off, hoff⟩ : ∃ off, off = s.off := ⟨_, rfl⟩
    have hbox := hp.box
    rw [← hsn, ← hs0, ← hoff] at hbox
    have B0 : wr.cell? ⟨q7, 0, none⟩ = some (.slice A sn c) := hbox.cell 0
    have B1 : wr.cell? ⟨q7, 1, none⟩ = some (.slice P pn pc) := hbox.cell 1
    have B2 : wr.cell? ⟨q7, 2, none⟩ = some (.int .i64 (st : Int)) := hbox.cell 2
    have B3 : wr.cell? ⟨q7, 3, none⟩ = some (.bool off) := hbox.cell 3
    have hrv : refV A c P pn pc s = .agg #[.slice A sn c, .slice P pn pc, .int .i64 (st : Int), .bool off] := by unfold refV dkV; rw [← hsn, ← hs0, ← hoff]
    have HRV := Lib.hid hrv
    have HRVC : Hid (s.safe.length = sn ∧ (s.steps : Int) = (st : Int) ∧ s.off = off) := Lib.hid ⟨hsn.symm, by rw [hs0], hoff.symm⟩
    have HS0 := Lib.hid hs
    have HP := Lib.hid hp
    have hqlt := hbox.lt
    clear hs hp hbox hsn hs0 hoff hrv
    by_cases hlt : k < n
    · have hko : k < os.length := by rw [← HN.out]; exact hlt
      obtain ⟨b, o, rfl, hb, hx⟩ := HSC.out k hko
      obtain ⟨⟨⟨kind, oi, da, ke, fa⟩, dv, kv, fv⟩, hop⟩ : ∃ x, x = os[k] := ⟨_, rfl⟩
      rw [← hop] at hx
      have hat := HS.out.at_ os[k] (List.getElem_mem hko)
      rw [← hop] at hat
      obtain ⟨hat1, -, -, hat4, hat5⟩ := hat
      dsimp only at hat1 hat4 hat5
      have hbw : Below w.heap.size w wr := HP.out.bel
      obtain ⟨dA, dc1, e1, -, -, -, -⟩ := hat1.data.open_
      obtain ⟨kA, kc1, e2, -, -, -, -⟩ := hat1.keeps.open_
      obtain ⟨fA, fc1, e3, -, -, -, -⟩ := hat1.fates.open_
      dsimp only at e1 e2 e3
      subst e1 e2 e3
      have x0 : wr.cell? ⟨b, o + k * 5, none⟩ = some (.int .i64 kind) := by have := hx 0 _ rfl; exact (hbw.cell (p := ⟨b, o + k * 5, none⟩) hb).trans (by simpa using this)
      have x1 : wr.cell? ⟨b, o + k * 5 + 1, none⟩ = some (.int .i64 oi) := (hbw.cell (p := ⟨b, o + k * 5 + 1, none⟩) hb).trans (hx 1 _ rfl)
      have x2 : wr.cell? ⟨b, o + k * 5 + 2, none⟩ = some (.slice dA da.length dc1) := (hbw.cell (p := ⟨b, o + k * 5 + 2, none⟩) hb).trans (hx 2 _ rfl)
      have x3 : wr.cell? ⟨b, o + k * 5 + 3, none⟩ = some (.slice kA ke.length kc1) := (hbw.cell (p := ⟨b, o + k * 5 + 3, none⟩) hb).trans (hx 3 _ rfl)
      have x4 : wr.cell? ⟨b, o + k * 5 + 4, none⟩ = some (.slice fA fa.length fc1) := (hbw.cell (p := ⟨b, o + k * 5 + 4, none⟩) hb).trans (hx 4 _ rfl)
      obtain ⟨W8, hW8⟩ : ∃ W8, W8 = wr.alloc (.cells #[.int .i64 kind, .int .i64 oi, .slice dA da.length dc1, .slice kA ke.length kc1, .slice fA fa.length fc1] 50) := ⟨_, rfl⟩
      have hb8 : Below wr.heap.size wr W8 := by rw [hW8]; exact (Below.refl _ _).alloc (Nat.le_refl _) _
      have hz8 := hb8.size
      have HIN : Hid (AskIn W8 p sb mb pl s B w.heap.size A c P pn pc xs fs ⟨kind, oi, da, ke, fa⟩ (.slice dA da.length dc1) (.slice kA ke.length kc1) (.slice fA fa.length fc1)) := Lib.hid
        ⟨HP.out.disk.below hb8, HP.out.ref.below hb8, hat1.data.below (hbw.trans (hb8.mono hbw.size)), hat1.keeps.below (hbw.trans (hb8.mono hbw.size)), hat1.fates.below (hbw.trans (hb8.mono hbw.size)), hat1.k64, hat1.f64, by have := HP.out.sep; omega, hst, hat4, hat5⟩
      have HBX8 := Lib.hid (HP.out.box.below hb8 hqlt)
      have HB8 : Hid (Below w.heap.size w W8) := Lib.hid (hbw.trans (hb8.mono hbw.size))
      have HRUN : Hid (s.run ⟨kind, oi, da, ke, fa⟩ = (DS.load L0).runs (os.take (k + 1))) := Lib.hid (by rw [List.take_succ_eq_append_getElem hko, runs_snoc, ← HS0.out, ← hop])
      have HW8 := Lib.hid hW8
      obtain ⟨q9, hq9⟩ : ∃ q9, q9 = wr.heap.size := ⟨_, rfl⟩
      have HQ9 := Lib.hid hq9
      clear hx hop hat1 hat4 hat5 hbw hW8 hb8 hq9
      go_wp2_with fail
      rw [← HW8.out]
      refine (callsAt (by rw [HRV.out]; rfl) (asks7_any W8 p sb mb pl s B w.heap.size A c P pn pc xs fs _ _ _ _ HIN.out)).mono ?_
      rintro e w9 ⟨hm9, hz9, pl9, A9, c9, P9, pn9, pc9, xs9, fs9, rfl, hd9, hr9⟩
      rw [HRUN.out] at hd9 hr9 ⊢
      obtain ⟨s9, hs9⟩ : ∃ s9, s9 = (DS.load L0).runs (os.take (k + 1)) := ⟨_, rfl⟩
      rw [← hs9] at hd9 hr9 ⊢
      obtain ⟨sn9, hsn9⟩ : ∃ sn9, sn9 = s9.safe.length := ⟨_, rfl⟩
      obtain ⟨st9, hst9⟩ : ∃ st9, st9 = s9.steps := ⟨_, rfl⟩
      obtain ⟨off9, hoff9⟩ : ∃ off9, off9 = s9.off := ⟨_, rfl⟩
      have hrv9 : refV A9 c9 P9 pn9 pc9 s9 = .agg #[.slice A9 sn9 c9, .slice P9 pn9 pc9, .int .i64 (st9 : Int), .bool off9] := by unfold refV dkV; rw [← hsn9, ← hst9, ← hoff9]
      have HRV9 := Lib.hid hrv9
      rw [hrv9]
      have hbx9 := HBX8.out.mod hm9 (fun e => by rcases e with (e | e | e) | e <;> omega)
      have hb9 : Below w.heap.size w w9 := ((Mod.of_below HB8.out (fun q => w.heap.size ≤ q)).trans hm9 (fun q _ e => by have := HB8.out.size; rcases e with (e | e | e) | e <;> omega)).below (Nat.le_refl _) (fun _ h => h)
      obtain ⟨W10, hW10⟩ : ∃ W10, W10 = w9.alloc (.cells #[.slice A9 sn9 c9, .slice P9 pn9 pc9, .int .i64 (st9 : Int), .bool off9] 46) := ⟨_, rfl⟩
      obtain ⟨q10, hq10⟩ : ∃ q10, q10 = w9.heap.size := ⟨_, rfl⟩
      have hb10 : Below w9.heap.size w9 W10 := by rw [hW10]; exact (Below.refl _ _).alloc (Nat.le_refl _) _
      have hbk10 : Blk W10 q10 46 #[.slice A9 sn9 c9, .slice P9 pn9 pc9, .int .i64 (st9 : Int), .bool off9] := by rw [hW10, hq10]; exact Blk.new _ _ _
      have hbx10 := hbx9.below hb10 hbx9.lt
      have hB10 : Below w.heap.size w W10 := hb9.trans (hb10.mono hb9.size)
      obtain ⟨h1, h2, h3⟩ := over_dk (x0 := .slice A9 sn9 c9) (x1 := .slice P9 pn9 pc9) (x2 := .int .i64 (st9 : Int)) (x3 := .bool off9) hB10 (show w.heap.size ≤ q7 by omega) hbx10
      obtain ⟨W11, hW11⟩ : ∃ W11, W11 = ((((W10.setCell ⟨q7, 0, none⟩ (.slice A9 sn9 c9)).setCell ⟨q7, 1, none⟩ (.slice P9 pn9 pc9)).setCell ⟨q7, 2, none⟩ (.int .i64 (st9 : Int))).setCell ⟨q7, 3, none⟩ (.bool off9)) := ⟨_, rfl⟩
      rw [← hW11] at h1 h2 h3
      have hd10 := hd9.below hb10
      have hz10 := hb10.size
      have hz11 := h3.size
      have HP11 : Hid (PlaysAt w W11 p sb mb q7 B s9 pl9 A9 c9 P9 pn9 pc9 xs9 fs9) := Lib.hid
        ⟨hd10.mod h3 (fun e => by omega) (fun e => by omega) (fun e => by omega) (fun b hb => hd10.ne_pl hb hbx10), (hr9.below hb10).modT h3 (fun q e => by subst e; exact ⟨_, hbx10⟩) (fun q e => by omega), by rw [← hsn9, ← hst9, ← hoff9]; exact h1, h2, by omega⟩
      have G0 : W10.cell? ⟨q10, 0, none⟩ = some (.slice A9 sn9 c9) := hbk10.cell 0
      have G1 : W10.cell? ⟨q10, 1, none⟩ = some (.slice P9 pn9 pc9) := hbk10.cell 1
      have G2 : W10.cell? ⟨q10, 2, none⟩ = some (.int .i64 (st9 : Int)) := hbk10.cell 2
      have G3 : W10.cell? ⟨q10, 3, none⟩ = some (.bool off9) := hbk10.cell 3
      have Q0 : W10.cell? ⟨q7, 0, none⟩ = some (.slice A sn c) := by rw [← HRVC.out.1]; exact hbx10.cell 0
      have Q1 : W10.cell? ⟨q7, 1, none⟩ = some (.slice P pn pc) := hbx10.cell 1
      have Q2 : W10.cell? ⟨q7, 2, none⟩ = some (.int .i64 (st : Int)) := by rw [← HRVC.out.2.1]; exact hbx10.cell 2
      have Q3 : W10.cell? ⟨q7, 3, none⟩ = some (.bool off) := by rw [← HRVC.out.2.2]; exact hbx10.cell 3
      have QF : ∀ j, W10.frozen? ⟨q7, j, none⟩ = false := hbx10.frozen
      have K0 : W11.cell? ⟨q7, 0, none⟩ = some (.slice A9 sn9 c9) := h1.cell 0
      have K1 : W11.cell? ⟨q7, 1, none⟩ = some (.slice P9 pn9 pc9) := h1.cell 1
      have K2 : W11.cell? ⟨q7, 2, none⟩ = some (.int .i64 (st9 : Int)) := h1.cell 2
      have K3 : W11.cell? ⟨q7, 3, none⟩ = some (.bool off9) := h1.cell 3
      have hqq : ¬ q10 = q7 := by have := hbx9.lt; omega
      have HW10 := Lib.hid hW10
      have HQ10 := Lib.hid hq10
      have HW11 := Lib.hid hW11
      have HS9 := Lib.hid hs9
      clear hm9 hd9 hr9 hs9 hsn9 hst9 hoff9 hrv9 hbx9 hb9 hW10 hb10 hbk10 hbx10 hB10 h1 h2 h3 hW11 hd10 B0 B1 B2 B3 x0 x1 x2 x3 x4 hq10
      go_upto_region 15 with fail
      rw [← HW10.out]
      try rw [← HQ10.out]
      go_upto_region 16 with fail
      rw [← HW11.out]
      go_wp2_with fail
      refine (callsAt (by rw [HRV9.out]) (stands7_any W11 p sb mb pl9 s9 B w.heap.size A9 c9 P9 pn9 pc9 xs9 fs9 HP11.out.disk HP11.out.ref)).mono ?_
      rintro e w12 ⟨rfl, hb12⟩
      have HP12 : Hid (PlaysAt w w12 p sb mb q7 B s9 pl9 A9 c9 P9 pn9 pc9 xs9 fs9) := Lib.hid ⟨HP11.out.disk.below hb12, HP11.out.ref.below hb12, HP11.out.box.below hb12 HP11.out.box.lt, HP11.out.bel.trans (hb12.mono HP11.out.bel.size), by have := HP11.out.sep; have := hb12.size; omega⟩
      clear hb12 G0 G1 G2 G3 Q0 Q1 Q2 Q3 QF K0 K1 K2 K3
      go_wp2_with fail
      go_roundw
      case rel => exact ⟨k + 1, by omega, by go_num, Lib.hid ⟨pl9, A9, c9, P9, pn9, pc9, xs9, fs9, by rw [← HS9.out]; exact HP12.out⟩⟩
      case measure => simp [intOf]; omega
    · obtain rfl : k = n := by omega
      go_wp2_with fail
      refine (callsAt (by rw [HRV.out]) (stands7_any wr p sb mb pl s B w.heap.size A c P pn pc xs fs HP.out.disk HP.out.ref)).mono ?_
      rintro e w12 ⟨rfl, hb12⟩
      have HB12 : Hid (Below w.heap.size w w12) := Lib.hid (HP.out.bel.trans (hb12.mono HP.out.bel.size))
      clear hb12
      go_wp2_with fail
      go_ret
      exact ⟨rfl, HB12.out⟩
theorem diskPlays_row (w : World) (dv : Value) (data : List Nat) (sv : Value) (os : List OpV) (hd : RB w w.heap.size dv data) (hs : Script2 w sv os) (hdl : data.length ≤ 140737488351232) :
    Calls Try.prog 4 #[dv, sv] w fun e w' => e = .returned (.bool true) ∧ Below w.heap.size w w' := diskPlays_run w dv data sv os hd hdl hs
end Go.Proofs.Ytdghanhpeekbhaa
