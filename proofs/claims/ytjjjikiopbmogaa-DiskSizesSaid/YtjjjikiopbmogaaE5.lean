/-
  The walk of DiskAtoms.
-/
import Derived.Test.YtjjjikiopbmogaaE4
namespace Go.Proofs.Ytjjjikiopbmogaa
open Go.RowKit Go.Maps
set_option linter.unusedVariables false

/-- What holds while calls are done one behind the other. -/
structure Doing (w : World) (p sb mb : Nat) (s0 : DS) (os : List OpV) (k : Nat) (wr : World) (pl : Option Nat) : Prop where
  disk : DiskAt wr p sb mb pl (s0.runs (os.take k))
  below : Below w.heap.size w wr
  planOff : ∀ b, pl = some b → w.heap.size ≤ b
theorem Doing.step {w : World} {p sb mb : Nat} {s0 : DS} {os : List OpV} {k : Nat} {wr : World} {pl : Option Nat} {o : Obj} {w' : World} {e : Ending} (h : Doing w p sb mb s0 os k wr pl) (hown : w.heap.size ≤ p ∧ w.heap.size ≤ sb ∧ w.heap.size ≤ mb) (hk : k < os.length)
    (hd : DoOut (wr.alloc o) p sb mb pl (s0.runs (os.take k)) (os[k]).op e w') : e = .returned (.tuple #[]) ∧ ∃ pl', Doing w p sb mb s0 os (k + 1) w' pl' := by
  obtain ⟨he, pl', h1, h2, h3⟩ := hd
  refine ⟨he, pl', ?_, Mod.own (h.below.alloc h.below.size o) h2 hown, fun b hb => ?_⟩
  · rw [List.take_succ_eq_append_getElem hk, runs_snoc]; exact h1
  · rcases h3 b hb with h3 | h3
    · exact h.planOff b h3
    · have := h.below.size; simp at h3; omega

theorem piece_at (v : Value) (l : List Nat) (k : Nat) (w : World) (hv : RB w w.heap.size v l) (hk : k < 6) :
    Calls Try.prog 34 #[v, .int .i64 (512 * (k : Int)), .int .i64 (512 * (k : Int) + 512)] w fun e w' => ∃ v', e = .returned v' ∧ OB w' w.heap.size v' (piece l (512 * k) (512 * k + 512)) ∧ Below w.heap.size w w' := by
  have := piece_any v l (512 * k) (512 * k + 512) w hv (by omega) (by omega)
  rw [show ((512 * k : Nat) : Int) = 512 * (k : Int) by omega, show ((512 * k + 512 : Nat) : Int) = 512 * (k : Int) + 512 by omega] at this
  exact this
theorem on_has {s : DS} {ks : List Int} {i : Nat} (hi : i < s.safe.length) : (s.on ks).has i = if hasB s.loose (i : Int) && hasB ks (i : Int) then s.has i else s.safe.getD i [] := by
  have e1 : (s.on ks).has i = (s.on ks).safe.getD i [] := rfl
  have e2 : (s.on ks).safe = s.kept ks := rfl
  have e3 : (s.kept ks).getD i [] = if ks.contains (i : Int) then s.has i else s.safe.getD i [] := by
    rw [List.getD, kept_get s ks i hi]; rfl
  rw [e1, e2, e3]
  have hc : hasB ks (i : Int) = ks.contains (i : Int) := rfl
  rw [← hc]
  cases hk : hasB ks (i : Int) with
  | false => simp
  | true =>
    cases hl : hasB s.loose (i : Int) with
    | true => simp
    | false =>
      have : s.pend (i : Int) = none := by
        cases hp : s.pend (i : Int) with
        | none => rfl
        | some l =>
          have : hasB s.loose (i : Int) = true := by rw [hasB_iff, loose_mem, hp]; exact ⟨by omega, by omega, rfl⟩
          rw [this] at hl; cases hl
      simp [DS.has, this]
theorem on_len (s : DS) (ks : List Int) : (s.on ks).safe.length = s.safe.length := by unfold DS.on; simp
theorem on_loose (s : DS) (ks : List Int) : (s.on ks).loose = [] := by
  unfold DS.loose DS.on
  simp
theorem on_all (s : DS) (ks : List Int) : (s.on ks).all = (s.on ks).safes := by rw [safes_eq]; rfl
theorem on_read {s : DS} {ks : List Int} {i : Nat} (hi : i < s.safe.length) : (s.on ks).readE (i : Int) = 0 := by
  unfold DS.readE
  have h1 : (s.on ks).off = false := rfl
  have h2 : (s.on ks).isSec (i : Int) = true := by unfold DS.isSec; rw [on_len]; simp; omega
  rw [h1, h2]; rfl

set_option maxRecDepth 100000 in
set_option maxHeartbeats 4000000 in
theorem diskAtoms_any (w : World) (sv : Value) (os : List OpV) (kv : Value) (ks : List Int) (hs : Script w sv os) (hk : RI w w.heap.size kv ks) (hk64 : ∀ x ∈ ks, I64 x) :
    Calls Try.prog 6 #[sv, kv] w fun e w' => e = .returned (.bool true) ∧ Below w.heap.size w w' := by
  obtain ⟨A, c, rfl, ha1, ha2, ha3, HA⟩ := hs.rk.open_
  obtain ⟨A2, c2, rfl, hb1, hb2, hb3, _⟩ := hk.open_
  have HSC := Lib.hid hs
  have HKK := Lib.hid hk
  have HK64 := Lib.hid hk64
  have hol := hs.len
  clear hs hk hk64
  go_enter Try.func6, Try.ntmps6
  go_wp2_with fail
  refine (alive_any w).mono ?_
  rintro e wa ⟨rfl, hba⟩
  have HBA := Lib.hid hba
  clear hba
  go_wp2_with fail
  refine (New_any 6 wa).mono ?_
  rintro e w0 ⟨rfl, hd0, hz0, hb0⟩
  obtain ⟨p, hp⟩ : ∃ p, p = wa.heap.size + 2 := ⟨_, rfl⟩
  obtain ⟨sb, hsb⟩ : ∃ sb, sb = wa.heap.size := ⟨_, rfl⟩
  obtain ⟨mb, hmb⟩ : ∃ mb, mb = wa.heap.size + 1 := ⟨_, rfl⟩
  rw [← hp, ← hmb] at hd0
  rw [← hsb] at hd0
  rw [← hp]
  have hwa := HBA.out.size
  have hown : w.heap.size ≤ p ∧ w.heap.size ≤ sb ∧ w.heap.size ≤ mb := by omega
  have HOWN := Lib.hid hown
  have hdo : Doing w p sb mb (DS.new 6) os 0 w0 none := ⟨hd0, HBA.out.trans (hb0.mono hwa), fun b hb => by cases hb⟩
  have HDO := Lib.hid hdo
  clear hp hsb hmb hd0 hz0 hb0 hown hdo hwa
  go_wp2_with fail
  go_loopw [23] (fun i wr => ∃ k : Nat, k ≤ os.length ∧ i = .int .i64 k ∧ Hid (∃ pl, Doing w p sb mb (DS.new 6) os k wr pl)) (fun i wr => os.length - (intOf i).toNat)
  case atStart => exact ⟨0, Nat.zero_le _, rfl, ⟨none, HDO.out⟩⟩
  case round =>
    obtain ⟨k, hkk, rfl, HD⟩ := hrel
    obtain ⟨pl, hd⟩ := HD.out
    have HDD := Lib.hid hd
    have hbw := hd.below
    clear hd
    by_cases hkl : k < os.length
    · obtain ⟨b1, o1, rfl, hb, hx⟩ := HA.out k hkl
      have hat := HSC.out.at_ os[k] (List.getElem_mem hkl)
      have hoff := HSC.out.opOff (List.getElem_mem hkl) (S := Own p sb mb) (fun j e => by have := HOWN.out; rcases e with e | e | e <;> omega)
      have hst : ((DS.new 6).runs (os.take k)).steps < 4611686018427387904 := by
        have h1 := runs_steps (DS.new 6) (os.take k)
        have h2 : (os.take k).length ≤ k := List.length_take_le _ _
        have h3 : (DS.new 6).steps = 0 := rfl
        omega
      have HST := Lib.hid hst
      obtain ⟨x, hxx⟩ : ∃ x, x = os[k] := ⟨_, rfl⟩
      rw [← hxx] at hx hat hoff
      obtain ⟨y0, y1, y2, y3, y4⟩ := cellOp hx
      have z0 : wr.cell? ⟨b1, o1 + k * 5, none⟩ = _ := (hbw.cell (p := ⟨b1, o1 + k * 5, none⟩) hb).trans y0
      have z1 : wr.cell? ⟨b1, o1 + k * 5 + 1, none⟩ = _ := (hbw.cell (p := ⟨b1, o1 + k * 5 + 1, none⟩) hb).trans y1
      have z2 : wr.cell? ⟨b1, o1 + k * 5 + 2, none⟩ = _ := (hbw.cell (p := ⟨b1, o1 + k * 5 + 2, none⟩) hb).trans y2
      have z3 : wr.cell? ⟨b1, o1 + k * 5 + 3, none⟩ = _ := (hbw.cell (p := ⟨b1, o1 + k * 5 + 3, none⟩) hb).trans y3
      have z4 : wr.cell? ⟨b1, o1 + k * 5 + 4, none⟩ = _ := (hbw.cell (p := ⟨b1, o1 + k * 5 + 4, none⟩) hb).trans y4
      have HAT := Lib.hid (hat.1.below hbw)
      obtain ⟨D1, d1, e1, _, _, _, _⟩ := hat.1.data.open_
      obtain ⟨D2, d2, e2, _, _, _, _⟩ := hat.1.keeps.open_
      obtain ⟨D3, d3, e3, _, _, _, _⟩ := hat.1.fates.open_
      have HOFF := Lib.hid hoff
      have HXX := Lib.hid hxx
      clear y0 y1 y2 y3 y4 hx hat hoff hxx hbw hst
      obtain ⟨o, dv, kv, fv⟩ := x
      dsimp only at z0 z1 z2 z3 z4 e1 e2 e3
      subst e1 e2 e3
      have hO : OpAt (wr.alloc (.cells (opC o (.slice D1 o.data.length d1) (.slice D2 o.keeps.length d2) (.slice D3 o.fates.length d3)) 37)) o (.slice D1 o.data.length d1) (.slice D2 o.keeps.length d2) (.slice D3 o.fates.length d3) := HAT.out.below ((Below.refl _ _).alloc (Nat.le_refl _) _)
      have HO := Lib.hid hO
      clear hO
      go_wp2_with fail
      refine (do_any _ p sb mb pl _ o _ _ _ (HDD.out.disk.alloc _) HO.out HOFF.out HST.out).mono ?_
      intro e w1 hdo1
      have hop : os[k].op = o := by rw [← HXX.out]
      rw [← hop] at hdo1
      obtain ⟨rfl, hdd1⟩ := HDD.out.step HOWN.out hkl hdo1
      have HD1 : Hid (∃ pl, Doing w p sb mb (DS.new 6) os (k + 1) w1 pl) := hdd1
      clear hdo1 hdd1 hop
      go_wp2_with fail
      go_roundw
      case rel => exact ⟨k + 1, by omega, by go_num, HD1⟩
      case measure => simp [intOf]; omega
    · obtain rfl : k = os.length := by omega
      obtain ⟨s, hs⟩ : ∃ s, s = (DS.new 6).runs (os.take os.length) := ⟨_, rfl⟩
      have hsl : s.safe.length = 6 := by rw [hs, runs_len]; rfl
      have hdisk : DiskAt wr p sb mb pl s := by rw [hs]; exact HDD.out.disk
      have H1 := Lib.hid hdisk
      have HSL := Lib.hid hsl
      have HBW := Lib.hid hbw
      clear hs hsl hdisk hbw HDD HD HDO HA HSC
      go_wp2_with fail
      refine (Safe_any wr p sb mb pl s H1.out).mono ?_
      rintro e w1 ⟨v8, rfl, ho8, hb1⟩
      have H2 := Lib.hid (H1.out.below hb1)
      have HB1 := Lib.hid hb1
      have HO8 := Lib.hid ho8
      clear hb1 ho8
      go_wp2_with fail
      refine (All_any w1 p sb mb pl s H2.out).mono ?_
      rintro e w2 ⟨v9, rfl, ho9, hb2⟩
      have H3 := Lib.hid (H2.out.below hb2)
      have HB2 := Lib.hid hb2
      have HO9 := Lib.hid ho9
      clear hb2 ho9
      go_wp2_with fail
      refine (Loose_any w2 p sb mb pl s H3.out).mono ?_
      rintro e w3 ⟨v10, rfl, ho10, hb3⟩
      have H4 := Lib.hid (H3.out.below hb3)
      have HB3 := Lib.hid hb3
      have HO10 := Lib.hid ho10
      clear hb3 ho10
      go_wp2_with fail
      refine (Steps_any w3 p sb mb pl s H4.out).mono ?_
      rintro e w4 ⟨rfl, rfl⟩
      have hbw3 : Below w.heap.size w w3 := ((HBW.out.trans (HB1.out.mono HBW.out.size)).trans (HB2.out.mono (Nat.le_trans HBW.out.size HB1.out.size))).trans (HB3.out.mono (Nat.le_trans HBW.out.size (Nat.le_trans HB1.out.size HB2.out.size)))
      have hri : RI w3 w3.heap.size (.slice A2 ks.length c2) ks := (HKK.out.below hbw3).more hbw3.size
      have HRI := Lib.hid hri
      have HBW3 := Lib.hid hbw3
      have hoffk : Off (fun k => k = sb) (.slice A2 ks.length c2) ks := HKK.out.off (fun j hj e => by have := HOWN.out; omega)
      have HOK := Lib.hid hoffk
      clear hri hbw3 hoffk
      go_wp2_with fail
      refine (On_any w3 p sb mb pl s _ ks H4.out HRI.out HK64.out HOK.out).mono ?_
      rintro e w5 ⟨rfl, hd5, hm5⟩
      have H5 := Lib.hid hd5
      have hlt4 := H4.out.lt
      have hlt1 := H1.out.lt
      have R8 : Hid (RB w5 w5.heap.size v8 s.safes) := ((((HO8.out.below HB2.out).below HB3.out).rbn).mod hm5 (.inr (fun b hb e => by have := HO8.out.lt b hb; rcases e with e | e | e <;> omega)))
      have R9 : Hid (RB w5 w5.heap.size v9 s.all) := (((HO9.out.below HB3.out).rbn).mod hm5 (.inr (fun b hb e => by have := HO9.out.lt b hb; have := HB1.out.size; rcases e with e | e | e <;> omega)))
      have R10 : Hid (RI w5 w5.heap.size v10 s.loose) := ((HO10.out.rk encI_len (Nat.le_refl _)).mod hm5 (.inr (fun b hb e => by have := HO10.out.lt b hb; have := HB1.out.size; have := HB2.out.size; rcases e with e | e | e <;> omega)))
      have HBW5 : Hid (Below w.heap.size w w5) := Mod.own HBW3.out hm5 HOWN.out
      have hrk : RI w5 w5.heap.size (.slice A2 ks.length c2) ks := (HKK.out.below HBW5.out).more HBW5.out.size
      have HRK := Lib.hid hrk
      clear hd5 hm5 hlt4 hlt1 hrk HO8 HO9 HO10 H2 H3 H4 HB1 HB2 HB3 HRI HBW3 HBW HOK
      obtain ⟨A8, c8, rfl, _, _, _, _⟩ := R8.out.open_
      obtain ⟨A9, c9, rfl, _, _, _, _⟩ := R9.out.open_
      obtain ⟨A10, c10, rfl, _, _, _, _⟩ := R10.out.open_
      go_wp2_with fail
      go_loopw [12] (fun i wr => ∃ k : Nat, k ≤ 6 ∧ i = .int .i64 k ∧ Hid (Below w5.heap.size w5 wr)) (fun i wr => 6 - (intOf i).toNat)
      case atStart => exact ⟨0, by omega, rfl, Below.refl _ _⟩
      case round =>
        obtain ⟨k, hk6, rfl, HB⟩ := hrel
        have hbs := HB.out.size
        by_cases hkl2 : k < 6
        · have hks : k < s.safe.length := by rw [HSL.out]; exact hkl2
          have hre := on_read (ks := ks) hks
          have hoh := on_has (ks := ks) hks
          have hp1 := piece_safes H1.out.ok hks
          have hp2 := piece_all H1.out.ok hks
          have H6 := Lib.hid (H5.out.below HB.out)
          have HRE := Lib.hid hre
          have HOH := Lib.hid hoh
          have HP1 := Lib.hid hp1
          have HP2 := Lib.hid hp2
          clear hre hoh hp1 hp2
          go_wp2_with fail
          refine (Read_any wr p sb mb pl (s.on ks) H6.out (k : Int)).mono ?_
          rintro e w6 ⟨vb, rfl, hb6, hvb⟩
          rw [HRE.out] at hvb ⊢
          rcases hvb with ⟨_, bb, rfl, hbb, hsb⟩ | ⟨hh, _⟩
          · rw [Int.toNat_natCast] at hsb
            have RB0 := Lib.hid (hsb.rb (B := w6.heap.size) hsb.lt)
            have HB6 := Lib.hid (HB.out.trans (hb6.mono hbs))
            have hb6r := Lib.hid hb6
            have hr8 : RB w6 w6.heap.size _ s.safes := (R8.out.below HB6.out).more HB6.out.size
            have HR8 := Lib.hid hr8
            clear hsb hb6 hbb hr8
            go_wp2_with fail
            refine (piece_at _ s.safes k w6 HR8.out hkl2).mono ?_
            rintro e w7 ⟨v15, rfl, ho15, hb7⟩
            have HO15 := Lib.hid ho15
            have HB7 := Lib.hid (HB6.out.trans (hb7.mono HB6.out.size))
            have HBR7 := Lib.hid (hb6r.out.trans (hb7.mono hb6r.out.size))
            have RB7 := Lib.hid ((RB0.out.below hb7).more hb7.size)
            clear ho15 hb7
            have R10' : Hid (RI w7 w5.heap.size _ s.loose) := R10.out.below HB7.out
            have HKR' : Hid (RI w7 w5.heap.size (.slice A2 ks.length c2) ks) := HRK.out.below HB7.out
            obtain ⟨c1, hc1⟩ : ∃ c, c = hasB s.loose (k : Int) := ⟨_, rfl⟩
            obtain ⟨c2', hc2⟩ : ∃ c, c = hasB ks (k : Int) := ⟨_, rfl⟩
            have HC1 := Lib.hid hc1
            have HC2 := Lib.hid hc2
            clear hc1 hc2
            go_wp2_with fail
            refine (hasI_any _ s.loose k w7 _ R10'.out).mono ?_
            rintro e w8 ⟨rfl, rfl⟩
            rw [← HC1.out]
            cases c1 with
            | false =>
              have hrb : RB w7 w7.heap.size v15 ((s.on ks).has k) := by
                rw [HOH.out, ← HC1.out, Bool.false_and, if_neg (by decide), ← HP1.out]; exact HO15.out.rbn
              have HRB := Lib.hid hrb
              clear hrb
              go_wp2_with fail
              refine (same_yes _ _ _ w7 _ RB7.out HRB.out).mono ?_
              rintro e w9 ⟨rfl, m9, rfl⟩
              have HB9 : Hid (Below w5.heap.size w5 (w7.drewN m9)) := ((Mod.of_below (HB.out.trans (HBR7.out.mono hbs)) (fun k => w5.heap.size ≤ k)).drewN m9).below (Nat.le_refl _) (fun k h => h)
              go_wp2_with fail
              go_roundw
              case rel => exact ⟨k + 1, by omega, by go_num, HB9⟩
              case measure => simp [intOf]; omega
            | true =>
              have HKR2 := HKR'.out
              go_wp2_with fail
              refine (hasI_any _ ks k w7 _ HKR2).mono ?_
              rintro e w8 ⟨rfl, rfl⟩
              rw [← HC2.out]
              cases c2' with
              | false =>
                have hrb : RB w7 w7.heap.size v15 ((s.on ks).has k) := by
                  rw [HOH.out, ← HC1.out, ← HC2.out, Bool.and_false, if_neg (by decide), ← HP1.out]; exact HO15.out.rbn
                have HRB := Lib.hid hrb
                clear hrb
                go_wp2_with fail
                refine (same_yes _ _ _ w7 _ RB7.out HRB.out).mono ?_
                rintro e w9 ⟨rfl, m9, rfl⟩
                have HB9 : Hid (Below w5.heap.size w5 (w7.drewN m9)) := ((Mod.of_below (HB.out.trans (HBR7.out.mono hbs)) (fun k => w5.heap.size ≤ k)).drewN m9).below (Nat.le_refl _) (fun k h => h)
                go_wp2_with fail
                go_roundw
                case rel => exact ⟨k + 1, by omega, by go_num, HB9⟩
                case measure => simp [intOf]; omega
              | true =>
                have hr9 : RB w7 w7.heap.size _ s.all := (R9.out.below HB7.out).more HB7.out.size
                go_wp2_with fail
                refine (piece_at _ s.all k w7 hr9 hkl2).mono ?_
                rintro e w8 ⟨v16, rfl, ho16, hb8⟩
                have hrb : RB w8 w8.heap.size v16 ((s.on ks).has k) := by
                  rw [HOH.out, ← HC1.out, ← HC2.out, Bool.and_true, if_pos rfl, ← HP2.out]; exact ho16.rbn
                have HRB := Lib.hid hrb
                have RB8 := Lib.hid ((RB7.out.below hb8).more hb8.size)
                have HBR8 := Lib.hid (HBR7.out.trans (hb8.mono HBR7.out.size))
                clear hrb ho16 hr9
                go_wp2_with fail
                refine (same_yes _ _ _ w8 _ RB8.out HRB.out).mono ?_
                rintro e w9 ⟨rfl, m9, rfl⟩
                have HB9 : Hid (Below w5.heap.size w5 (w8.drewN m9)) := ((Mod.of_below (HB.out.trans (HBR8.out.mono hbs)) (fun k => w5.heap.size ≤ k)).drewN m9).below (Nat.le_refl _) (fun k h => h)
                go_wp2_with fail
                go_roundw
                case rel => exact ⟨k + 1, by omega, by go_num, HB9⟩
                case measure => simp [intOf]; omega
          · exact absurd rfl hh
        · obtain rfl : k = 6 := by omega
          have hbx := HBW5.out.trans (HB.out.mono HBW5.out.size)
          have HBX := Lib.hid hbx
          have H6 := Lib.hid (H5.out.below HB.out)
          have hst : (s.on ks).steps = s.steps := rfl
          have hof : (s.on ks).off = false := rfl
          have hlo := on_loose s ks
          have hal := on_all s ks
          have HST := Lib.hid hst
          have HLO := Lib.hid hlo
          have HAL := Lib.hid hal
          clear hbx hst hlo hal
          go_wp2_with fail
          refine (Power_any wr p sb mb pl (s.on ks) H6.out).mono ?_
          rintro e w6 ⟨rfl, rfl⟩
          rw [hof]
          go_wp2_with fail
          refine (Steps_any wr p sb mb pl (s.on ks) H6.out).mono ?_
          rintro e w6 ⟨rfl, rfl⟩
          rw [HST.out]
          go_wp2_with fail
          refine (Loose_any wr p sb mb pl (s.on ks) H6.out).mono ?_
          rintro e w6 ⟨v6, rfl, ho6, hb6⟩
          rw [HLO.out] at ho6
          obtain ⟨A6, c6, rfl, _, _, _, _⟩ := (ho6.rk encI_len (Nat.le_refl _)).open_
          have H7 := Lib.hid (H6.out.below hb6)
          have HB6 := Lib.hid (HBX.out.trans (hb6.mono HBX.out.size))
          clear ho6 hb6
          go_wp2_with fail
          refine (Safe_any w6 p sb mb pl (s.on ks) H7.out).mono ?_
          rintro e w7 ⟨v7, rfl, ho7, hb7⟩
          have H8 := Lib.hid (H7.out.below hb7)
          have HB7 := Lib.hid (HB6.out.trans (hb7.mono HB6.out.size))
          have HR7 := Lib.hid ho7.rbn
          clear ho7 hb7
          go_wp2_with fail
          refine (All_any w7 p sb mb pl (s.on ks) H8.out).mono ?_
          rintro e w8 ⟨v8, rfl, ho8, hb8⟩
          have HB8 := Lib.hid (HB7.out.trans (hb8.mono HB7.out.size))
          have HR8 := Lib.hid ((HR7.out.below hb8).more hb8.size)
          rw [HAL.out] at ho8
          have HR9 := Lib.hid ho8.rbn
          clear ho8 hb8
          go_wp2_with fail
          refine (same_yes _ _ _ w8 _ HR8.out HR9.out).mono ?_
          rintro e w9 ⟨rfl, m9, rfl⟩
          have HB9 : Hid (Below w.heap.size w (w8.drewN m9)) := ((Mod.of_below HB8.out (fun k => w.heap.size ≤ k)).drewN m9).below (Nat.le_refl _) (fun k h => h)
          go_wp2_with fail
          go_ret
          exact ⟨rfl, HB9.out⟩
end Go.Proofs.Ytjjjikiopbmogaa
