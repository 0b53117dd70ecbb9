/-
  The walk of skeinlaw07's alive: the document's example.
-/
import Derived.Test.YtdghanhpeekbhaaD12
import Derived.Test.YtdghanhpeekbhaaE11
import Derived.Lib.SlBytesConst
namespace Go.Proofs.Ytdghanhpeekbhaa
open Go.RowKit Go.Maps
set_option linter.unusedVariables false

/-- The example's disks. -/
def ex0 : DS := DS.new 2
def ex1 : DS := DS.put 0 (pad [97, 98]) ex0.tick
def ex2 : DS := ex1.tick.settle
def ex3 : DS := DS.put 0 (pad [99, 100]) ex2.tick
def ex4 : DS := DS.put 1 (pad [101, 102]) ex3.tick
def ex5 : DS := ex4.on [1]
theorem ex_len : ex0.safe.length = 2 := List.length_replicate
theorem ex2_safe : ex2.safe = [pad [97, 98], sec0] := by
  unfold ex2 ex1 DS.settle
  have h0 : ex0.safe = [sec0, sec0] := rfl
  simp only [DS.tick, DS.put, ex_len]
  generalize pad [97, 98] = A
  simp [List.range_succ, DS.has, h0]
  rfl
theorem ex4_loose : ex4.loose.length = 2 := by
  have hl : ex4.safe.length = 2 := by show ex2.safe.length = 2; rw [ex2_safe]; rfl
  unfold DS.loose
  rw [hl]
  unfold ex4 ex3
  simp [List.range_succ, DS.put, DS.tick]
theorem ex5_safe : ex5.safe = [pad [97, 98], pad [101, 102]] := by
  have hl : ex4.safe = [pad [97, 98], sec0] := ex2_safe
  unfold ex5 DS.on
  dsimp only
  rw [hl]
  unfold DS.has
  rw [hl]
  unfold ex4 ex3
  generalize pad [97, 98] = A
  generalize pad [101, 102] = C
  simp [List.range_succ, DS.put, DS.tick]
theorem ex5_pend : ex5.pend = fun _ => none := rfl
theorem ex5_steps : ex5.steps = 4 := rfl
theorem ex_clean : Clean ex0 ∧ Clean ex1 ∧ Clean ex2 ∧ Clean ex3 ∧ Clean ex4 ∧ Clean ex5 := ⟨⟨fun _ => rfl, rfl⟩, ⟨fun _ => rfl, rfl⟩, ⟨fun _ => rfl, rfl⟩, ⟨fun _ => rfl, rfl⟩, ⟨fun _ => rfl, rfl⟩, ⟨fun _ => rfl, rfl⟩⟩
theorem ex_sec (s : DS) (h : s.safe.length = 2) : s.isSec 0 = true ∧ s.isSec 1 = true := by unfold DS.isSec; rw [h]; exact ⟨rfl, rfl⟩

set_option maxRecDepth 100000 in
set_option maxHeartbeats 4000000 in
theorem alive_any (w : World) : Calls Try.prog 14 #[] w fun e w' => e = .returned (.bool true) ∧ Below w.heap.size w w' := by
  have hcv := run_const
  obtain ⟨c0, c1, c2, c3, c4, c5⟩ := ex_clean
  have HC0 := Lib.hid c0
  have HC1 := Lib.hid c1
  have HC2 := Lib.hid c2
  have HC3 := Lib.hid c3
  have HC4 := Lib.hid c4
  have HC5 := Lib.hid c5
  clear c0 c1 c2 c3 c4 c5
  have hown : w.heap.size ≤ w.heap.size + 2 ∧ w.heap.size ≤ w.heap.size ∧ w.heap.size ≤ w.heap.size + 1 := by omega
  have HOWN := Lib.hid hown
  clear hown
  go_enter Try.func14, Try.ntmps14
  go_wp2_with fail
  refine (New_any 2 w).mono ?_
  rintro e W0 ⟨rfl, hd0, hz0, hb0⟩
  have h0 : DiskAt W0 (w.heap.size + 2) w.heap.size (w.heap.size + 1) none ex0 := hd0
  have H0 := Lib.hid h0
  have HB0 := Lib.hid hb0
  clear hd0 h0 hb0 hz0
  go_wp2_with fail
  refine (Write_two 0 97 98 (by omega) (by omega) H0.out HC0.out (ex_sec _ rfl).1 (by decide)).mono ?_
  rintro e W1 ⟨rfl, hd, hm⟩
  have H1 : Hid (DiskAt W1 (w.heap.size + 2) w.heap.size (w.heap.size + 1) none ex1) := hd
  have HB1 := Lib.hid (Mod.own HB0.out hm HOWN.out)
  clear hd hm
  go_wp2_with fail
  refine (Sync_any _ (w.heap.size + 2) w.heap.size (w.heap.size + 1) none ex1 H1.out (by decide)).mono ?_
  rintro e W2 ⟨rfl, hd, hm⟩
  rw [HC1.out.sync.1]
  rw [HC1.out.sync.2] at hd
  have H2 : Hid (DiskAt W2 (w.heap.size + 2) w.heap.size (w.heap.size + 1) none ex2) := hd
  have HB2 := Lib.hid (Mod.own HB1.out hm HOWN.out)
  clear hd hm
  go_wp2_with fail
  refine (Write_two 0 99 100 (by omega) (by omega) H2.out HC2.out (ex_sec _ (by rw [ex2_safe]; rfl)).1 (by decide)).mono ?_
  rintro e W3 ⟨rfl, hd, hm⟩
  have H3 : Hid (DiskAt W3 (w.heap.size + 2) w.heap.size (w.heap.size + 1) none ex3) := hd
  have HB3 := Lib.hid (Mod.own HB2.out hm HOWN.out)
  clear hd hm
  go_wp2_with fail
  refine (Write_two 1 101 102 (by omega) (by omega) H3.out HC3.out (ex_sec _ (by show ex2.safe.length = 2; rw [ex2_safe]; rfl)).2 (by decide)).mono ?_
  rintro e W4 ⟨rfl, hd, hm⟩
  have H4 : Hid (DiskAt W4 (w.heap.size + 2) w.heap.size (w.heap.size + 1) none ex4) := hd
  have HB4 := Lib.hid (Mod.own HB3.out hm HOWN.out)
  clear hd hm
  go_wp2_with fail
  refine (Loose_any _ (w.heap.size + 2) w.heap.size (w.heap.size + 1) none ex4 H4.out).mono ?_
  rintro e W5 ⟨v, rfl, hv, hb⟩
  have H5 := Lib.hid (H4.out.below hb)
  have HB5 := Lib.hid (HB4.out.trans (hb.mono HB4.out.size))
  obtain ⟨A, c, rfl, _, _, _, _⟩ := (hv.rk encI_len (Nat.le_refl _)).open_
  have hll := ex4_loose
  have HLL := Lib.hid hll
  rw [hll]
  clear hv hb hll
  go_wp2_with fail
  have hri : RI (W5.alloc (.cells #[.int .i64 1] 3)) (W5.alloc (.cells #[.int .i64 1] 3)).heap.size (.slice (some ⟨W5.heap.size, 0, none⟩) 1 1) [1] := by
    refine ⟨by simp, some ⟨W5.heap.size, 0, none⟩, 1, rfl, by simp, by omega, .inr ⟨W5.heap.size, 0, rfl, by simp, fun i x hx j u hu => ?_⟩⟩
    match i, hx with
    | 0, hx =>
      simp at hx; subst hx
      match j, hu with
      | 0, hu => simp [encI] at hu; subst hu; simp
      | j + 1, hu => simp [encI] at hu
    | i + 1, hx => simp at hx
  refine (On_any _ (w.heap.size + 2) w.heap.size (w.heap.size + 1) none ex4 _ [1] (H5.out.alloc _) hri (by intro x hx; simp at hx; subst hx; exact ⟨by omega, by omega⟩) (.inr (fun b e => by simp [Value.ownBlock] at e; have := H5.out.lt.2.1; omega))).mono ?_
  rintro e W6 ⟨rfl, hd, hm⟩
  have H6 : Hid (DiskAt W6 (w.heap.size + 2) w.heap.size (w.heap.size + 1) none ex5) := hd
  have HB6 := Lib.hid (Mod.own (HB5.out.alloc HB5.out.size (.cells #[.int .i64 1] 3)) hm HOWN.out)
  clear hd hm hri
  go_wp2_with fail
  refine (Read_any _ (w.heap.size + 2) w.heap.size (w.heap.size + 1) none ex5 H6.out 0).mono ?_
  rintro e W7 ⟨v, rfl, hb, hv⟩
  have hr0 := HC5.out.read (ex_sec ex5 (by rw [ex5_safe]; rfl)).1
  rw [hr0] at hv ⊢
  rcases hv with ⟨_, b0, rfl, hb0, hs0⟩ | ⟨h, _⟩
  · have hh0 : ex5.has (0 : Int).toNat = pad [97, 98] := by show (none : Option (List Nat)).getD (ex5.safe.getD 0 []) = _; rw [ex5_safe]; rfl
    rw [hh0] at hs0
    have H7 := Lib.hid (H6.out.below hb)
    have HB7 := Lib.hid (HB6.out.trans (hb.mono HB6.out.size))
    have HS0 := Lib.hid hs0
    clear hb hs0 hr0 hh0 hb0
    go_wp2_with fail
    refine (Read_any _ (w.heap.size + 2) w.heap.size (w.heap.size + 1) none ex5 H7.out 1).mono ?_
    rintro e W8 ⟨v, rfl, hb, hv⟩
    have hr0 := HC5.out.read (ex_sec ex5 (by rw [ex5_safe]; rfl)).2
    rw [hr0] at hv ⊢
    rcases hv with ⟨_, b1, rfl, hb1, hs1⟩ | ⟨h, _⟩
    · have hh1 : ex5.has (1 : Int).toNat = pad [101, 102] := by show (none : Option (List Nat)).getD (ex5.safe.getD 1 []) = _; rw [ex5_safe]; rfl
      rw [hh1] at hs1
      have H8 := Lib.hid (H7.out.below hb)
      have HB8 := Lib.hid (HB7.out.trans (hb.mono HB7.out.size))
      have HS1 := Lib.hid hs1
      have HS0 : Hid (Secs W8 b0 [pad [97, 98]]) := HS0.out.below hb HS0.out.lt
      clear hb hs1 hr0 hh1 hb1
      go_wp2_with fail
      refine (Load_any _ _ [113] (RB.one W8 113 (by omega))).mono ?_
      rintro e W9 ⟨rfl, hdl, hb⟩
      have hbw : Below W8.heap.size W8 W9 := ((Below.refl _ _).alloc (Nat.le_refl _) _).trans (hb.mono (by simp))
      simp only [size_alloc_] at hdl
      have HDL := Lib.hid hdl
      have H9 := Lib.hid (H8.out.below hbw)
      have HB9 := Lib.hid (HB8.out.trans (hbw.mono HB8.out.size))
      have HS0 : Hid (Secs W9 b0 [pad [97, 98]]) := HS0.out.below hbw HS0.out.lt
      have HS1 : Hid (Secs W9 b1 [pad [101, 102]]) := HS1.out.below hbw HS1.out.lt
      clear hdl hb hbw hcv
      have cv0 := conv_two (r := List.replicate 510 0) HS0.out
      have cv1 := conv_two (r := List.replicate 510 0) HS1.out
      have es0 : strOf [97, 98] = ⟨#[97, 98]⟩ := by rfl
      have es1 : strOf [101, 102] = ⟨#[101, 102]⟩ := by rfl
      rw [es0] at cv0
      rw [es1] at cv1
      clear es0 es1
      go_wp2_with fail
      refine (Size_any _ (w.heap.size + 2) w.heap.size (w.heap.size + 1) none ex5 H9.out).mono ?_
      have l5 : ((ex5.safe.length : Nat) : Int) = 2 := by rw [ex5_safe]; rfl
      rw [l5]
      rintro e W10 ⟨rfl, rfl⟩
      clear l5
      go_wp2_with fail
      refine (Steps_any _ (w.heap.size + 2) w.heap.size (w.heap.size + 1) none ex5 H9.out).mono ?_
      have l5 : ((ex5.steps : Nat) : Int) = 4 := rfl
      rw [l5]
      rintro e W10 ⟨rfl, rfl⟩
      clear l5
      go_wp2_with fail
      refine (Size_any _ _ _ _ none (DS.load [113]) HDL.out).mono ?_
      have l5 : (((DS.load [113]).safe.length : Nat) : Int) = 1 := rfl
      rw [l5]
      rintro e W10 ⟨rfl, rfl⟩
      clear l5
      go_wp2_with fail
      go_ret
      exact ⟨rfl, HB9.out⟩
    · exact absurd rfl h
  · exact absurd rfl h
end Go.Proofs.Ytdghanhpeekbhaa
