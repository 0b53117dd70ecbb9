/-
  The walk of skeinref07's Write.
-/
import Derived.Test.YtdghanhpeekbhaaB10
namespace Go.Proofs.Ytdghanhpeekbhaa
open Go.RowKit Go.Maps
set_option linter.unusedVariables false

/-- What the region that puts a sector leaves. -/
def PutOut (w : World) (B Bf : Nat) (P : Option Addr) (pn pc n st1 : Nat) (s' : DS) (fs : List (Int × Int)) (wx : World) : Prop :=
  ∃ A' c' xs', Blk wx w.heap.size 46 #[.slice A' n c', .slice P pn pc, .int .i64 (st1 : Int), .bool false] ∧ Blk wx (w.heap.size + 1) 46 #[.slice none 0 0, .slice none 0 0, .int .i64 0, .bool false] ∧ RefAt wx B Bf A' c' P pn pc s' xs' fs ∧ Below w.heap.size w wx
theorem put_spotF (s : DS) (k : Nat) (l : List Nat) : (DS.put (k : Int) l s).spotF = fun j => if j = k then (s.safe.getD k [], some l) else s.spotF j := by
  funext j
  unfold DS.put DS.spotF
  dsimp only
  by_cases h : j = k
  · subst h; simp
  · have h2 : ¬ (j : Int) = (k : Int) := by omega
    rw [if_neg h, if_neg h2]
/-- .. out of put's row, written over the disk's block. -/
theorem putOut_of {w w6 W7 W8 : World} {B Bf : Nat} {A P : Option Addr} {c pn pc n st1 k : Nat} {s : DS} {xs xs' : List Spt} {fs : List (Int × Int)} {l : List Nat} {A' : Option Addr} {c' : Nat} (hbd : Blk w6 w.heap.size 46 #[.slice A n c, .slice P pn pc, .int .i64 (st1 : Int), .bool false]) (hbr : Blk w6 (w.heap.size + 1) 46 #[.slice none 0 0, .slice none 0 0, .int .i64 0, .bool false]) (hb6 : Below w.heap.size w w6) (href : RefAt w6 B Bf A c P pn pc s xs fs) (hn : n = s.safe.length) (hfb : Bf ≤ w.heap.size)
    (hb7 : Below w6.heap.size w6 W7) (hb8 : Below W7.heap.size W7 W8) (hrow : SpRow W8 B (.slice A' n c') xs' (fun j => if j = k then (s.safe.getD k [], some l) else s.spotF j)) (hxl : xs'.length = n) :
    PutOut w B Bf P pn pc n st1 (DS.put (k : Int) l s) fs ((((W8.setCell ⟨w.heap.size, 0, none⟩ (.slice A' n c')).setCell ⟨w.heap.size, 1, none⟩ (.slice P pn pc)).setCell ⟨w.heap.size, 2, none⟩ (.int .i64 (st1 : Int))).setCell ⟨w.heap.size, 3, none⟩ (.bool false)) := by
  have hb68 : Below w6.heap.size w6 W8 := hb7.trans (hb8.mono hb7.size)
  have hbd8 := hbd.below hb68 hbd.lt
  have hbr8 := hbr.below hb68 hbr.lt
  have hw8 : Below w.heap.size w W8 := hb6.trans (hb68.mono hb6.size)
  obtain ⟨h1, h2, h3⟩ := over_dk (x0 := .slice A' n c') (x1 := .slice P pn pc) (x2 := .int .i64 (st1 : Int)) (x3 := .bool false) hw8 (Nat.le_refl _) hbd8
  have h8 := href.below hb68
  have hr : RefAt W8 B Bf A' c' P pn pc (DS.put (k : Int) l s) xs' fs := ⟨by rw [put_spotF]; show SpRow _ _ (.slice A' s.safe.length c') _ _; rw [← hn]; exact hrow, by rw [hxl, hn]; rfl, h8.fates, h8.fb, h8.plan⟩
  refine ⟨A', c', xs', h1, ?_, hr.modT h3 (fun q e => by subst e; exact ⟨_, hbd8⟩) (fun q e => by omega), h2⟩
  exact (((hbr8.far (p := ⟨w.heap.size, 0, none⟩) (by show w.heap.size + 1 ≠ w.heap.size; omega) _).far (p := ⟨w.heap.size, 1, none⟩) (by show w.heap.size + 1 ≠ w.heap.size; omega) _).far (p := ⟨w.heap.size, 2, none⟩) (by show w.heap.size + 1 ≠ w.heap.size; omega) _).far (p := ⟨w.heap.size, 3, none⟩) (by show w.heap.size + 1 ≠ w.heap.size; omega) _

set_option maxRecDepth 100000 in
set_option maxHeartbeats 8000000 in
theorem refWrite_any (w : World) (B Bf : Nat) (A : Option Addr) (c : Nat) (P : Option Addr) (pn pc : Nat) (s : DS) (xs : List Spt) (fs : List (Int × Int)) (h : RefAt w B Bf A c P pn pc s xs fs) (hok : s.Ok) (hst : s.steps < 4611686018427387904) (hB : B ≤ w.heap.size) (i : Int) (dv : Value) (l : List Nat) (hdv : RB w w.heap.size dv l) :
    Calls Try.prog 49 #[refV A c P pn pc s, .int .i64 i, dv] w (RefOut w B Bf P pn pc (s.write i l) (s.writeE i l) fs) := by
  have H := Lib.hid h
  have HBW := Lib.hid hB
  have HDV := Lib.hid hdv
  obtain ⟨DA, dc, rfl, -, -, -, -⟩ := hdv.open_
  obtain ⟨n, hn⟩ : ∃ n, n = s.safe.length := ⟨_, rfl⟩
  obtain ⟨dn, hdn⟩ : ∃ dn, dn = l.length := ⟨_, rfl⟩
  obtain ⟨st, hs0⟩ : ∃ st, st = s.steps := ⟨_, rfl⟩
  obtain ⟨st1, hs1⟩ : ∃ st1, st1 = st + 1 := ⟨_, rfl⟩
  obtain ⟨off, hoff⟩ : ∃ off, off = s.off := ⟨_, rfl⟩
  have hn4 : n ≤ 4096 := by rw [hn]; exact hok.num
  have hst1 : IntKind.i64.wrap ((st : Int) + 1) = (st1 : Int) := by rw [IntKind.wrap_i64]; omega
  have hfate : s.fate = firstFate fs (st1 : Int) := by
    unfold DS.fate
    rw [hs1, hs0]
    exact h.plan (s.steps + 1) (by omega)
  unfold refV
  rw [← hdn] at HDV ⊢
  rw [← hn, ← hs0, ← hoff]
  obtain ⟨W0, hW0, hb1, hb2, hw0, hz0⟩ := boxes2s w #[.slice A n c, .slice P pn pc, .int .i64 (st : Int), .bool off] #[.slice none 0 0, .slice none 0 0, .int .i64 0, .bool false] 46 46
  have HN := Lib.hid hn
  have HDN := Lib.hid hdn
  have HS0 := Lib.hid hs0
  have HS1 := Lib.hid hs1
  have HOFF := Lib.hid hoff
  have HF := Lib.hid hfate
  have HW0 := Lib.hid hW0
  have HB0 := Lib.hid hw0
  have HZ0 := Lib.hid hz0
  have HBD := Lib.hid hb1
  have HBR := Lib.hid hb2
  have hbd := hb1
  have hbr := hb2
  have D0 : W0.cell? ⟨w.heap.size, 0, none⟩ = some (.slice A n c) := hbd.cell 0
  have D1 : W0.cell? ⟨w.heap.size, 1, none⟩ = some (.slice P pn pc) := hbd.cell 1
  have D2 : W0.cell? ⟨w.heap.size, 2, none⟩ = some (.int .i64 (st : Int)) := hbd.cell 2
  have D3 : W0.cell? ⟨w.heap.size, 3, none⟩ = some (.bool off) := hbd.cell 3
  have R0 : W0.cell? ⟨w.heap.size + 1, 0, none⟩ = some (.slice none 0 0) := hbr.cell 0
  have R1 : W0.cell? ⟨w.heap.size + 1, 1, none⟩ = some (.slice none 0 0) := hbr.cell 1
  have R2 : W0.cell? ⟨w.heap.size + 1, 2, none⟩ = some (.int .i64 0) := hbr.cell 2
  have R3 : W0.cell? ⟨w.heap.size + 1, 3, none⟩ = some (.bool false) := hbr.cell 3
  have F0 : ∀ j, W0.frozen? ⟨w.heap.size + 1, j, none⟩ = false := hbr.frozen
  have F1 : ∀ j, W0.frozen? ⟨w.heap.size, j, none⟩ = false := hbd.frozen
  unfold dkV
  clear h hB hn hdn hdv hs0 hs1 hoff hfate hW0 hb1 hb2 hw0 hz0 hbd hbr
  cases off with
  | true =>
    have HE := Lib.hid (over_dk (x0 := .slice A n c) (x1 := .slice P pn pc) (x2 := .int .i64 (st : Int)) (x3 := .bool true) HB0.out (Nat.le_succ _) HBR.out)
    go_enter Try.func49, Try.ntmps49
    go_upto_region 1 with fail
    rw [← HW0.out]
    go_wp2_with fail
    refine ret_dk2 (b := w.heap.size + 1) rfl rfl rfl HE.out.1 rfl ?_
    have hs : s.write i l = s := by unfold DS.write; simp [HOFF.out.symm]
    have he : s.writeE i l = 70 := by unfold DS.writeE; simp [HOFF.out.symm]
    rw [hs, he]
    exact ⟨HE.out.2.1, A, c, xs, by unfold refV dkV; rw [← HN.out, ← HS0.out, ← HOFF.out]; rfl, (H.out.below HB0.out).modT HE.out.2.2 (fun q e => by subst e; exact ⟨_, HBR.out⟩) (fun k e => by have := H.out.fb; omega)⟩
  | false =>
    by_cases h0 : i < 0
    · have hd0 : decide (i < 0) = true := by simpa using h0
      have HSEC : Hid (s.isSec i = false) := Lib.hid (by unfold DS.isSec; simp; omega)
      have HE := Lib.hid (over_dk (x0 := .slice A n c) (x1 := .slice P pn pc) (x2 := .int .i64 (st : Int)) (x3 := .bool false) HB0.out (Nat.le_succ _) HBR.out)
      go_enter Try.func49, Try.ntmps49
      go_upto_region 1 with fail
      rw [← HW0.out]
      go_wp2_with fail
      refine ret_dk2 (b := w.heap.size + 1) rfl rfl rfl HE.out.1 rfl ?_
      have hs : s.write i l = s := by unfold DS.write; simp [HOFF.out.symm, HSEC.out]
      have he : s.writeE i l = 1 := by unfold DS.writeE; simp [HOFF.out.symm, HSEC.out]
      rw [hs, he]
      exact ⟨HE.out.2.1, A, c, xs, by unfold refV dkV; rw [← HN.out, ← HS0.out, ← HOFF.out]; rfl, (H.out.below HB0.out).modT HE.out.2.2 (fun q e => by subst e; exact ⟨_, HBR.out⟩) (fun k e => by have := H.out.fb; omega)⟩
    · have hd0 : decide (i < 0) = false := by simpa using h0
      obtain ⟨k, rfl⟩ : ∃ k : Nat, i = (k : Int) := ⟨i.toNat, by omega⟩
      by_cases h1 : (n : Int) ≤ (k : Int)
      · have hd1 : decide ((n : Int) ≤ (k : Int)) = true := by simpa using h1
        have HSEC : Hid (s.isSec (k : Int) = false) := Lib.hid (by unfold DS.isSec; rw [← HN.out]; simp; omega)
        have HE := Lib.hid (over_dk (x0 := .slice A n c) (x1 := .slice P pn pc) (x2 := .int .i64 (st : Int)) (x3 := .bool false) HB0.out (Nat.le_succ _) HBR.out)
        go_enter Try.func49, Try.ntmps49
        go_upto_region 1 with fail
        rw [← HW0.out]
        go_wp2_with fail
        refine ret_dk2 (b := w.heap.size + 1) rfl rfl rfl HE.out.1 rfl ?_
        have hs : s.write (k : Int) l = s := by unfold DS.write; simp [HOFF.out.symm, HSEC.out]
        have he : s.writeE (k : Int) l = 1 := by unfold DS.writeE; simp [HOFF.out.symm, HSEC.out]
        rw [hs, he]
        exact ⟨HE.out.2.1, A, c, xs, by unfold refV dkV; rw [← HN.out, ← HS0.out, ← HOFF.out]; rfl, (H.out.below HB0.out).modT HE.out.2.2 (fun q e => by subst e; exact ⟨_, HBR.out⟩) (fun k e => by have := H.out.fb; omega)⟩
      · have hd1 : decide ((n : Int) ≤ (k : Int)) = false := by simpa using h1
        have hkn : k < n := by omega
        have HSEC : Hid (s.isSec (k : Int) = true) := Lib.hid (by unfold DS.isSec; rw [← HN.out]; simp; omega)
        by_cases h2 : (512 : Int) < (dn : Int)
        · have hd2 : decide ((512 : Int) < (dn : Int)) = true := by simpa using h2
          have HLEN : Hid (512 < l.length) := Lib.hid (by rw [← HDN.out]; omega)
          have HE := Lib.hid (over_dk (x0 := .slice A n c) (x1 := .slice P pn pc) (x2 := .int .i64 (st : Int)) (x3 := .bool false) HB0.out (Nat.le_succ _) HBR.out)
          go_enter Try.func49, Try.ntmps49
          go_upto_region 1 with fail
          rw [← HW0.out]
          go_wp2_with fail
          refine ret_dk2 (b := w.heap.size + 1) rfl rfl rfl HE.out.1 rfl ?_
          have hs : s.write (k : Int) l = s := by unfold DS.write; simp [HOFF.out.symm, HSEC.out, HLEN.out]
          have he : s.writeE (k : Int) l = 1 := by unfold DS.writeE; simp [HOFF.out.symm, HSEC.out, HLEN.out]
          rw [hs, he]
          exact ⟨HE.out.2.1, A, c, xs, by unfold refV dkV; rw [← HN.out, ← HS0.out, ← HOFF.out]; rfl, (H.out.below HB0.out).modT HE.out.2.2 (fun q e => by subst e; exact ⟨_, HBR.out⟩) (fun k e => by have := H.out.fb; omega)⟩
        · have hd2 : decide ((512 : Int) < (dn : Int)) = false := by simpa using h2
          have HLEN : Hid (¬ 512 < l.length) := Lib.hid (by rw [← HDN.out]; omega)
          go_enter Try.func49, Try.ntmps49
          go_upto_region 1 with fail
          rw [← HW0.out]
          go_wp2_with fail
          obtain ⟨W5, hW5⟩ : ∃ W5, W5 = W0.setCell ⟨w.heap.size, 2, none⟩ (.int .i64 (st1 : Int)) := ⟨_, rfl⟩
          rw [← hW5]
          have hm5 : Mod (fun q => q = w.heap.size) W0 W5 := by rw [hW5]; exact (Mod.refl (fun q => q = w.heap.size) W0).setCell (p := ⟨w.heap.size, 2, none⟩) (fun _ => rfl) _
          have hbd5 : Blk W5 w.heap.size 46 #[.slice A n c, .slice P pn pc, .int .i64 (st1 : Int), .bool false] := by rw [hW5]; exact HBD.out.set_ 2 _
          have hbr5 : Blk W5 (w.heap.size + 1) 46 #[.slice none 0 0, .slice none 0 0, .int .i64 0, .bool false] := by rw [hW5]; exact HBR.out.far (p := ⟨w.heap.size, 2, none⟩) (by show w.heap.size + 1 ≠ w.heap.size; omega) _
          have hb5 : Below w.heap.size w W5 := ((Mod.of_below HB0.out (fun q => w.heap.size ≤ q)).trans hm5 (fun q _ e => by omega)).below (Nat.le_refl _) (fun _ h => h)
          have href5 := (H.out.below HB0.out).modT hm5 (fun q e => by subst e; exact ⟨_, HBD.out⟩) (fun k e => by have := H.out.fb; omega)
          have HB5 := Lib.hid hb5
          have HREF5 := Lib.hid href5
          have HBD5 := Lib.hid hbd5
          have HBR5 := Lib.hid hbr5
          clear hW5 hm5 hbd5 hbr5 hb5 href5 D0 D1 D2 D3 R0 R1 R2 R3 F0 F1
          refine (refFate_any W5 A n c P pn pc st1 false fs (HREF5.out.fates.more HREF5.out.fb)).mono ?_
          rintro e w6 ⟨rfl, hb6⟩
          have hz6 := HB5.out.size
          have HBx : Hid (Below w.heap.size w w6) := Lib.hid (HB5.out.trans (hb6.mono hz6))
          have hbd := HBD5.out.below hb6 HBD5.out.lt
          have hbr := HBR5.out.below hb6 HBR5.out.lt
          have HBDx := Lib.hid hbd
          have HBRx := Lib.hid hbr
          have HREF : Hid (RefAt w6 B Bf A c P pn pc s.tick xs fs) := Lib.hid ((HREF5.out.below hb6).same rfl rfl rfl (Nat.le_succ _))
          obtain ⟨fk, hfk⟩ : ∃ fk, fk = firstFate fs (st1 : Int) := ⟨_, rfl⟩
          have hfr := firstFate_range fs (st1 : Int)
          rw [← hfk] at hfr ⊢
          have HFK : Hid (s.fate = fk) := Lib.hid (by rw [HF.out, hfk])
          have HST1 : Hid (st1 = s.steps + 1) := Lib.hid (by rw [HS1.out, HS0.out])
          clear hfk hb6 hz6
          have D0 : w6.cell? ⟨w.heap.size, 0, none⟩ = some (.slice A n c) := hbd.cell 0
          have D1 : w6.cell? ⟨w.heap.size, 1, none⟩ = some (.slice P pn pc) := hbd.cell 1
          have D2 : w6.cell? ⟨w.heap.size, 2, none⟩ = some (.int .i64 (st1 : Int)) := hbd.cell 2
          have D3 : w6.cell? ⟨w.heap.size, 3, none⟩ = some (.bool false) := hbd.cell 3
          have R0 : w6.cell? ⟨w.heap.size + 1, 0, none⟩ = some (.slice none 0 0) := hbr.cell 0
          have R1 : w6.cell? ⟨w.heap.size + 1, 1, none⟩ = some (.slice none 0 0) := hbr.cell 1
          have R2 : w6.cell? ⟨w.heap.size + 1, 2, none⟩ = some (.int .i64 0) := hbr.cell 2
          have R3 : w6.cell? ⟨w.heap.size + 1, 3, none⟩ = some (.bool false) := hbr.cell 3
          have F0 : ∀ j, w6.frozen? ⟨w.heap.size + 1, j, none⟩ = false := hbr.frozen
          have F1 : ∀ j, w6.frozen? ⟨w.heap.size, j, none⟩ = false := hbd.frozen
          clear hbd hbr
          rcases hfr with rfl | rfl | rfl | rfl
          · have hds : s.write (k : Int) l = DS.put (k : Int) (pad l) s.tick := by
              unfold DS.write DS.step
              simp [HFK.out, HOFF.out.symm, HSEC.out, HLEN.out]
            have hde : s.writeE (k : Int) l = 0 := by
              unfold DS.writeE DS.code
              simp [HFK.out, HOFF.out.symm, HSEC.out, HLEN.out]
            go_upto_region 12 with fail
            go_cut [] from 40 (fun wx => Hid (PutOut w B Bf P pn pc n st1 (DS.put (k : Int) (pad l) s.tick) fs wx))
            case first =>
              obtain ⟨b, o, a1, n1, d1, a2, n2, d2, lo, hg⟩ := SpRow.get (w := w6) (B := B) (A := A) (n := n) (c := c) (xs := xs) (f := s.tick.spotF) (by have h := HREF.out.row; rw [show s.tick.safe.length = n from HN.out.symm] at h; exact h) (by rw [HREF.out.len]; exact HN.out.symm) hkn
              obtain rfl := hg.eq
              have x0 := hg.x0
              have x1 := hg.x1
              have x2 := hg.x2
              have HG := Lib.hid hg
              have RV6 : Hid (RB w6.drew w6.drew.heap.size (.slice DA dn dc) l) := Lib.hid (RB.drew ((HDV.out.below HBx.out).more HBx.out.size))
              have HSZ6 : Hid (B ≤ w6.heap.size) := Lib.hid (Nat.le_trans HBW.out HBx.out.size)
              have HTK : Hid (pad (l.take 512) = pad l) := Lib.hid (by rw [List.take_of_length_le (by have := HLEN.out; omega)])
              clear hg
              go_region_law (first
                | (go_simp; go_at_call 46; refine (full_any _ l _ RV6.out).mono ?_; rw [HTK.out]; rintro e W7 ⟨v7, rfl, ho7, hb7⟩; obtain ⟨FA, fc, e7, -, -, -, -⟩ := ho7.rbn.open_; obtain ⟨fn, hfn⟩ : ∃ fn, fn = (pad l).length := ⟨_, rfl⟩; rw [← hfn] at e7; subst e7; have HB7 : Hid (Below w6.heap.size w6 W7) := ⟨hb7.os, hb7.tape, hb7.output, hb7.size, hb7.block⟩; have HS7 : Hid (SptAt W7 B ⟨(a1, n1, d1), (FA, fn, fc), true⟩ (s.tick.safe.getD k [], some (pad l))) := Lib.hid ⟨(HG.out.at_.below HB7.out).safe, rfl, fun l' hl' => by cases hl'; exact ho7.base HSZ6.out⟩; have bd7 := HBDx.out.below HB7.out HBDx.out.lt; have E0 : W7.cell? ⟨w.heap.size, 0, none⟩ = some (.slice (some ⟨b, o, none⟩) n c) := bd7.cell 0; have E1 : W7.cell? ⟨w.heap.size, 1, none⟩ = some (.slice P pn pc) := bd7.cell 1; have E2 : W7.cell? ⟨w.heap.size, 2, none⟩ = some (.int .i64 (st1 : Int)) := bd7.cell 2; have E3 : W7.cell? ⟨w.heap.size, 3, none⟩ = some (.bool false) := bd7.cell 3; have E4 : W7.cell? ⟨b, o + k * 3, none⟩ = some (.slice a1 n1 d1) := (HB7.out.cell (p := ⟨b, o + k * 3, none⟩) HG.out.lt).trans x0; clear ho7 hb7 bd7 hfn)
                | (go_simp; go_at_call 78; refine (put_any W7 B _ n c xs s.tick.spotF (by have h := (HREF.out.below HB7.out).row; rw [show s.tick.safe.length = n from HN.out.symm] at h; exact h) (by rw [HREF.out.len]; exact HN.out.symm) hn4 (Nat.le_trans HSZ6.out HB7.out.size) P pn pc st1 false k a1 FA n1 fn d1 fc true _ HS7.out).mono ?_; rintro e W8 ⟨A', c', xs', rfl, hrow, hxl, hb8⟩; unfold dkV; have HPO := Lib.hid (putOut_of HBDx.out HBRx.out HBx.out HREF.out HN.out (Nat.le_trans H.out.fb (Nat.le_refl _)) HB7.out hb8 hrow hxl); have bd8 := (HBDx.out.below HB7.out HBDx.out.lt).below hb8 (Nat.lt_of_lt_of_le HBDx.out.lt HB7.out.size); have G0 : W8.cell? ⟨w.heap.size, 0, none⟩ = some (.slice (some ⟨b, o, none⟩) n c) := bd8.cell 0; have G1 : W8.cell? ⟨w.heap.size, 1, none⟩ = some (.slice P pn pc) := bd8.cell 1; have G2 : W8.cell? ⟨w.heap.size, 2, none⟩ = some (.int .i64 (st1 : Int)) := bd8.cell 2; have G3 : W8.cell? ⟨w.heap.size, 3, none⟩ = some (.bool false) := bd8.cell 3; have GF : ∀ j, W8.frozen? ⟨w.heap.size, j, none⟩ = false := bd8.frozen; clear hrow hxl hb8 bd8))
              all_goals (
                go_wp2_with fail
                go_meet
                exact HPO)
            case rest =>
            obtain ⟨A', c', xs', hbd, hbr, hr8, hb8⟩ := hcut.out
            have HREFy := Lib.hid hr8
            have HBDy := Lib.hid hbd
            have HBRy := Lib.hid hbr
            have HBy := Lib.hid hb8
            clear HREF HBDx HBRx HBx hr8 hb8 D0 D1 D2 D3 R0 R1 R2 R3 F0 F1 hcut
            have HREF := HREFy
            have HBDx := HBDy
            have HBRx := HBRy
            have HBx := HBy
            have D0 : wc.cell? ⟨w.heap.size, 0, none⟩ = some (.slice A' n c') := hbd.cell 0
            have D1 : wc.cell? ⟨w.heap.size, 1, none⟩ = some (.slice P pn pc) := hbd.cell 1
            have D2 : wc.cell? ⟨w.heap.size, 2, none⟩ = some (.int .i64 (st1 : Int)) := hbd.cell 2
            have D3 : wc.cell? ⟨w.heap.size, 3, none⟩ = some (.bool false) := hbd.cell 3
            have R0 : wc.cell? ⟨w.heap.size + 1, 0, none⟩ = some (.slice none 0 0) := hbr.cell 0
            have R1 : wc.cell? ⟨w.heap.size + 1, 1, none⟩ = some (.slice none 0 0) := hbr.cell 1
            have R2 : wc.cell? ⟨w.heap.size + 1, 2, none⟩ = some (.int .i64 0) := hbr.cell 2
            have R3 : wc.cell? ⟨w.heap.size + 1, 3, none⟩ = some (.bool false) := hbr.cell 3
            have F0 : ∀ j, wc.frozen? ⟨w.heap.size + 1, j, none⟩ = false := hbr.frozen
            have F1 : ∀ j, wc.frozen? ⟨w.heap.size, j, none⟩ = false := hbd.frozen
            clear hbd hbr HREFy HBDy HBRy HBy
            have HE := Lib.hid (over_dk (x0 := .slice A' n c') (x1 := .slice P pn pc) (x2 := .int .i64 (st1 : Int)) (x3 := .bool false) HBx.out (Nat.le_succ _) HBRx.out)
            go_wp2_with fail
            refine ret_dk2 (b := w.heap.size + 1) rfl rfl rfl HE.out.1 rfl ?_
            rw [hds, hde]
            exact ⟨HE.out.2.1, A', c', xs', by unfold refV dkV; rw [show (DS.put (k : Int) (pad l) s.tick).safe.length = n from HN.out.symm, show (DS.put (k : Int) (pad l) s.tick).steps = st1 from HST1.out.symm, show (DS.put (k : Int) (pad l) s.tick).off = false from HOFF.out.symm]; rfl, (HREF.out.modT HE.out.2.2 (fun q e => by subst e; exact ⟨_, HBRx.out⟩) (fun k e => by have := H.out.fb; omega)).same rfl rfl rfl (Nat.le_refl _)⟩
          · have hds : s.write (k : Int) l = s.tick := by
              unfold DS.write DS.step
              simp [HFK.out, HOFF.out.symm, HSEC.out, HLEN.out]
            have hde : s.writeE (k : Int) l = 71 := by
              unfold DS.writeE DS.code
              simp [HFK.out, HOFF.out.symm, HSEC.out, HLEN.out]
            have HE := Lib.hid (over_dk (x0 := .slice A n c) (x1 := .slice P pn pc) (x2 := .int .i64 (st1 : Int)) (x3 := .bool false) HBx.out (Nat.le_succ _) HBRx.out)
            go_wp2_with fail
            refine ret_dk2 (b := w.heap.size + 1) rfl rfl rfl HE.out.1 rfl ?_
            rw [hds, hde]
            exact ⟨HE.out.2.1, A, c, xs, by unfold refV dkV; rw [show s.tick.safe.length = n from HN.out.symm, show s.tick.steps = st1 from HST1.out.symm, show s.tick.off = false from HOFF.out.symm]; rfl, (HREF.out.modT HE.out.2.2 (fun q e => by subst e; exact ⟨_, HBRx.out⟩) (fun k e => by have := H.out.fb; omega)).same rfl rfl rfl (Nat.le_refl _)⟩
          · have hds : s.write (k : Int) l = { s.tick with off := true } := by
              unfold DS.write DS.step
              simp [HFK.out, HOFF.out.symm, HSEC.out, HLEN.out]
            have hde : s.writeE (k : Int) l = 70 := by
              unfold DS.writeE DS.code
              simp [HFK.out, HOFF.out.symm, HSEC.out, HLEN.out]
            obtain ⟨WO, hWO⟩ : ∃ WO, WO = w6.setCell ⟨w.heap.size, 3, none⟩ (.bool true) := ⟨_, rfl⟩
            have hrO : Blk WO (w.heap.size + 1) 46 #[.slice none 0 0, .slice none 0 0, .int .i64 0, .bool false] := by rw [hWO]; exact HBRx.out.far (p := ⟨w.heap.size, 3, none⟩) (by show w.heap.size + 1 ≠ w.heap.size; omega) _
            have hmO : Mod (fun q => q = w.heap.size) w6 WO := by rw [hWO]; exact (Mod.refl (fun q => q = w.heap.size) w6).setCell (p := ⟨w.heap.size, 3, none⟩) (fun _ => rfl) _
            have HRO := Lib.hid hrO
            have HBO : Hid (Below w.heap.size w WO) := Lib.hid (((Mod.of_below HBx.out (fun q => w.heap.size ≤ q)).trans hmO (fun q _ e => by omega)).below (Nat.le_refl _) (fun _ h => h))
            have HREFO := Lib.hid (HREF.out.modT hmO (fun q e => by subst e; exact ⟨_, HBDx.out⟩) (fun k e => by have := H.out.fb; omega))
            have HWO := Lib.hid hWO
            clear hrO hmO hWO
            have HE := Lib.hid (over_dk (x0 := .slice A n c) (x1 := .slice P pn pc) (x2 := .int .i64 (st1 : Int)) (x3 := .bool true) HBO.out (Nat.le_succ _) HRO.out)
            go_wp2_with fail
            rw [← HWO.out]
            refine ret_dk2 (b := w.heap.size + 1) rfl rfl rfl HE.out.1 rfl ?_
            rw [hds, hde]
            exact ⟨HE.out.2.1, A, c, xs, by unfold refV dkV; rw [show s.tick.safe.length = n from HN.out.symm, show s.tick.steps = st1 from HST1.out.symm]; rfl, (HREFO.out.modT HE.out.2.2 (fun q e => by subst e; exact ⟨_, HRO.out⟩) (fun k e => by have := H.out.fb; omega)).same rfl rfl rfl (Nat.le_refl _)⟩
          · have hds : s.write (k : Int) l = { DS.put (k : Int) (pad l) s.tick with off := true } := by
              unfold DS.write DS.step
              simp [HFK.out, HOFF.out.symm, HSEC.out, HLEN.out]
            have hde : s.writeE (k : Int) l = 70 := by
              unfold DS.writeE DS.code
              simp [HFK.out, HOFF.out.symm, HSEC.out, HLEN.out]
            go_upto_region 12 with fail
            go_cut [] from 40 (fun wx => Hid (PutOut w B Bf P pn pc n st1 (DS.put (k : Int) (pad l) s.tick) fs wx))
            case first =>
              obtain ⟨b, o, a1, n1, d1, a2, n2, d2, lo, hg⟩ := SpRow.get (w := w6) (B := B) (A := A) (n := n) (c := c) (xs := xs) (f := s.tick.spotF) (by have h := HREF.out.row; rw [show s.tick.safe.length = n from HN.out.symm] at h; exact h) (by rw [HREF.out.len]; exact HN.out.symm) hkn
              obtain rfl := hg.eq
              have x0 := hg.x0
              have x1 := hg.x1
              have x2 := hg.x2
              have HG := Lib.hid hg
              have RV6 : Hid (RB w6.drew w6.drew.heap.size (.slice DA dn dc) l) := Lib.hid (RB.drew ((HDV.out.below HBx.out).more HBx.out.size))
              have HSZ6 : Hid (B ≤ w6.heap.size) := Lib.hid (Nat.le_trans HBW.out HBx.out.size)
              have HTK : Hid (pad (l.take 512) = pad l) := Lib.hid (by rw [List.take_of_length_le (by have := HLEN.out; omega)])
              clear hg
              go_region_law (first
                | (go_simp; go_at_call 46; refine (full_any _ l _ RV6.out).mono ?_; rw [HTK.out]; rintro e W7 ⟨v7, rfl, ho7, hb7⟩; obtain ⟨FA, fc, e7, -, -, -, -⟩ := ho7.rbn.open_; obtain ⟨fn, hfn⟩ : ∃ fn, fn = (pad l).length := ⟨_, rfl⟩; rw [← hfn] at e7; subst e7; have HB7 : Hid (Below w6.heap.size w6 W7) := ⟨hb7.os, hb7.tape, hb7.output, hb7.size, hb7.block⟩; have HS7 : Hid (SptAt W7 B ⟨(a1, n1, d1), (FA, fn, fc), true⟩ (s.tick.safe.getD k [], some (pad l))) := Lib.hid ⟨(HG.out.at_.below HB7.out).safe, rfl, fun l' hl' => by cases hl'; exact ho7.base HSZ6.out⟩; have bd7 := HBDx.out.below HB7.out HBDx.out.lt; have E0 : W7.cell? ⟨w.heap.size, 0, none⟩ = some (.slice (some ⟨b, o, none⟩) n c) := bd7.cell 0; have E1 : W7.cell? ⟨w.heap.size, 1, none⟩ = some (.slice P pn pc) := bd7.cell 1; have E2 : W7.cell? ⟨w.heap.size, 2, none⟩ = some (.int .i64 (st1 : Int)) := bd7.cell 2; have E3 : W7.cell? ⟨w.heap.size, 3, none⟩ = some (.bool false) := bd7.cell 3; have E4 : W7.cell? ⟨b, o + k * 3, none⟩ = some (.slice a1 n1 d1) := (HB7.out.cell (p := ⟨b, o + k * 3, none⟩) HG.out.lt).trans x0; clear ho7 hb7 bd7 hfn)
                | (go_simp; go_at_call 78; refine (put_any W7 B _ n c xs s.tick.spotF (by have h := (HREF.out.below HB7.out).row; rw [show s.tick.safe.length = n from HN.out.symm] at h; exact h) (by rw [HREF.out.len]; exact HN.out.symm) hn4 (Nat.le_trans HSZ6.out HB7.out.size) P pn pc st1 false k a1 FA n1 fn d1 fc true _ HS7.out).mono ?_; rintro e W8 ⟨A', c', xs', rfl, hrow, hxl, hb8⟩; unfold dkV; have HPO := Lib.hid (putOut_of HBDx.out HBRx.out HBx.out HREF.out HN.out (Nat.le_trans H.out.fb (Nat.le_refl _)) HB7.out hb8 hrow hxl); have bd8 := (HBDx.out.below HB7.out HBDx.out.lt).below hb8 (Nat.lt_of_lt_of_le HBDx.out.lt HB7.out.size); have G0 : W8.cell? ⟨w.heap.size, 0, none⟩ = some (.slice (some ⟨b, o, none⟩) n c) := bd8.cell 0; have G1 : W8.cell? ⟨w.heap.size, 1, none⟩ = some (.slice P pn pc) := bd8.cell 1; have G2 : W8.cell? ⟨w.heap.size, 2, none⟩ = some (.int .i64 (st1 : Int)) := bd8.cell 2; have G3 : W8.cell? ⟨w.heap.size, 3, none⟩ = some (.bool false) := bd8.cell 3; have GF : ∀ j, W8.frozen? ⟨w.heap.size, j, none⟩ = false := bd8.frozen; clear hrow hxl hb8 bd8))
              all_goals (
                go_wp2_with fail
                go_meet
                exact HPO)
            case rest =>
            obtain ⟨A', c', xs', hbd, hbr, hr8, hb8⟩ := hcut.out
            have HREFy := Lib.hid hr8
            have HBDy := Lib.hid hbd
            have HBRy := Lib.hid hbr
            have HBy := Lib.hid hb8
            clear HREF HBDx HBRx HBx hr8 hb8 D0 D1 D2 D3 R0 R1 R2 R3 F0 F1 hcut
            have HREF := HREFy
            have HBDx := HBDy
            have HBRx := HBRy
            have HBx := HBy
            have D0 : wc.cell? ⟨w.heap.size, 0, none⟩ = some (.slice A' n c') := hbd.cell 0
            have D1 : wc.cell? ⟨w.heap.size, 1, none⟩ = some (.slice P pn pc) := hbd.cell 1
            have D2 : wc.cell? ⟨w.heap.size, 2, none⟩ = some (.int .i64 (st1 : Int)) := hbd.cell 2
            have D3 : wc.cell? ⟨w.heap.size, 3, none⟩ = some (.bool false) := hbd.cell 3
            have R0 : wc.cell? ⟨w.heap.size + 1, 0, none⟩ = some (.slice none 0 0) := hbr.cell 0
            have R1 : wc.cell? ⟨w.heap.size + 1, 1, none⟩ = some (.slice none 0 0) := hbr.cell 1
            have R2 : wc.cell? ⟨w.heap.size + 1, 2, none⟩ = some (.int .i64 0) := hbr.cell 2
            have R3 : wc.cell? ⟨w.heap.size + 1, 3, none⟩ = some (.bool false) := hbr.cell 3
            have F0 : ∀ j, wc.frozen? ⟨w.heap.size + 1, j, none⟩ = false := hbr.frozen
            have F1 : ∀ j, wc.frozen? ⟨w.heap.size, j, none⟩ = false := hbd.frozen
            clear hbd hbr HREFy HBDy HBRy HBy
            obtain ⟨WO, hWO⟩ : ∃ WO, WO = wc.setCell ⟨w.heap.size, 3, none⟩ (.bool true) := ⟨_, rfl⟩
            have hrO : Blk WO (w.heap.size + 1) 46 #[.slice none 0 0, .slice none 0 0, .int .i64 0, .bool false] := by rw [hWO]; exact HBRx.out.far (p := ⟨w.heap.size, 3, none⟩) (by show w.heap.size + 1 ≠ w.heap.size; omega) _
            have hmO : Mod (fun q => q = w.heap.size) wc WO := by rw [hWO]; exact (Mod.refl (fun q => q = w.heap.size) wc).setCell (p := ⟨w.heap.size, 3, none⟩) (fun _ => rfl) _
            have HRO := Lib.hid hrO
            have HBO : Hid (Below w.heap.size w WO) := Lib.hid (((Mod.of_below HBx.out (fun q => w.heap.size ≤ q)).trans hmO (fun q _ e => by omega)).below (Nat.le_refl _) (fun _ h => h))
            have HREFO := Lib.hid (HREF.out.modT hmO (fun q e => by subst e; exact ⟨_, HBDx.out⟩) (fun k e => by have := H.out.fb; omega))
            have HWO := Lib.hid hWO
            clear hrO hmO hWO
            have HE := Lib.hid (over_dk (x0 := .slice A' n c') (x1 := .slice P pn pc) (x2 := .int .i64 (st1 : Int)) (x3 := .bool true) HBO.out (Nat.le_succ _) HRO.out)
            go_wp2_with fail
            rw [← HWO.out]
            refine ret_dk2 (b := w.heap.size + 1) rfl rfl rfl HE.out.1 rfl ?_
            rw [hds, hde]
            exact ⟨HE.out.2.1, A', c', xs', by unfold refV dkV; rw [show (DS.put (k : Int) (pad l) s.tick).safe.length = n from HN.out.symm, show (DS.put (k : Int) (pad l) s.tick).steps = st1 from HST1.out.symm]; rfl, (HREFO.out.modT HE.out.2.2 (fun q e => by subst e; exact ⟨_, HRO.out⟩) (fun k e => by have := H.out.fb; omega)).same rfl rfl rfl (Nat.le_refl _)⟩
end Go.Proofs.Ytdghanhpeekbhaa
