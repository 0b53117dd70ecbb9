/-
  skeinref07's disk against the disk in plain words; the walk of Sync.
-/
import Derived.Test.YtdghanhpeekbhaaB3
import Derived.Test.YtdghanhpeekbhaaB6
import Derived.Deep.CutRange
import Derived.Test.YtdghanhpeekbhaaE4
namespace Go.Proofs.Ytdghanhpeekbhaa
open Go.RowKit Go.Maps
set_option linter.unusedVariables false

theorem ret_dk2 {fn : Func} {q r : Tmp} {a : Act} {w : World} {post : Ending → World → Prop} {b : Nat} {v0 v1 v2 v3 u : Value} (hr : fn.results = #[.cell q 46, .tmp r]) (hp : a.tmps.getD q undef = .pointer (some ⟨b, 0, none⟩)) (hu : a.tmps.getD r undef = u)
    (hB : Blk w b 46 #[v0, v1, v2, v3]) (hd : a.defers = []) (h : post (.returned (.tuple #[.agg #[v0, v1, v2, v3], u])) w) : bodyPost Try.prog fn post .ret a w := by
  refine bodyPost_ret (v := .tuple #[.agg #[v0, v1, v2, v3], u]) ?_ hd h
  have hp' : a.tmps[q]?.getD undef = .pointer (some ⟨b, 0, none⟩) := by simpa using hp
  have hu' : a.tmps[r]?.getD undef = u := by simpa using hu
  have e0 : w.cell? ⟨b, 0, none⟩ = some v0 := hB.cell 0
  have e1 : w.cell? ⟨b, 1, none⟩ = some v1 := hB.cell 1
  have e2 : w.cell? ⟨b, 2, none⟩ = some v2 := hB.cell 2
  have e3 : w.cell? ⟨b, 3, none⟩ = some v3 := hB.cell 3
  simp only [results, hr]
  go_simp

/-- The sectors of a disk as spots. -/
def DS.spotF (s : DS) (i : Nat) : List Nat × Option (List Nat) := (s.safe.getD i [], s.pend (i : Int))
theorem spotF_has (s : DS) (i : Nat) : hasL (s.spotF i) = s.has i := rfl
/-- The document's disk stands for the disk s: its spots, and its fates, of those steps that are to come. -/
structure RefAt (w : World) (B Bf : Nat) (A : Option Addr) (c : Nat) (P : Option Addr) (pn pc : Nat) (s : DS) (xs : List Spt) (fs : List (Int × Int)) : Prop where
  row : SpRow w B (.slice A s.safe.length c) xs s.spotF
  len : xs.length = s.safe.length
  fates : RF w Bf (.slice P pn pc) fs
  fb : Bf ≤ w.heap.size
  plan : ∀ k : Nat, s.steps < k → s.plan (k : Int) = firstFate fs (k : Int)
/-- .. its value. -/
def refV (A : Option Addr) (c : Nat) (P : Option Addr) (pn pc : Nat) (s : DS) : Value := dkV A s.safe.length c P pn pc s.steps s.off
section
variable {w w' : World} {B Bf : Nat} {A P : Option Addr} {c pn pc : Nat} {s : DS} {xs : List Spt} {fs : List (Int × Int)}
theorem RefAt.mod {S : Nat → Prop} (h : RefAt w B Bf A c P pn pc s xs fs) (hm : Mod S w w') (hs : ∀ k, B ≤ k → k < w.heap.size → ¬ S k) (hf : ∀ k, S k → Bf ≤ k) : RefAt w' B Bf A c P pn pc s xs fs :=
  ⟨h.row.mod hm hs, h.len, h.fates.below (hm.below h.fb hf), Nat.le_trans h.fb hm.size, h.plan⟩
theorem RefAt.below (h : RefAt w B Bf A c P pn pc s xs fs) (hb : Below w.heap.size w w') : RefAt w' B Bf A c P pn pc s xs fs :=
  ⟨h.row.below hb, h.len, h.fates.below (hb.mono h.fb), Nat.le_trans h.fb hb.size, h.plan⟩
theorem RefAt.modT {S : Nat → Prop} (h : RefAt w B Bf A c P pn pc s xs fs) (hm : Mod S w w') (hs : ∀ q, S q → ∃ cs, Blk w q 46 cs) (hf : ∀ k, S k → Bf ≤ k) : RefAt w' B Bf A c P pn pc s xs fs :=
  ⟨h.row.modT hm hs, h.len, h.fates.below (hm.below h.fb hf), Nat.le_trans h.fb hm.size, h.plan⟩
end
theorem firstFate_range : ∀ (fs : List (Int × Int)) (k : Int), firstFate fs k = 0 ∨ firstFate fs k = 1 ∨ firstFate fs k = 2 ∨ firstFate fs k = 3
  | [], _ => .inl rfl
  | f :: r, k => by
    have h := firstFate_range r k
    unfold firstFate
    split
    · omega
    · exact h
theorem over_dk {w W : World} {B q : Nat} {v0 v1 v2 v3 x0 x1 x2 x3 : Value} (hb : Below B w W) (hq : B ≤ q) (h : Blk W q 46 #[v0, v1, v2, v3]) :
    Blk ((((W.setCell ⟨q, 0, none⟩ x0).setCell ⟨q, 1, none⟩ x1).setCell ⟨q, 2, none⟩ x2).setCell ⟨q, 3, none⟩ x3) q 46 #[x0, x1, x2, x3] ∧ Below B w ((((W.setCell ⟨q, 0, none⟩ x0).setCell ⟨q, 1, none⟩ x1).setCell ⟨q, 2, none⟩ x2).setCell ⟨q, 3, none⟩ x3) ∧ Mod (fun k => k = q) W ((((W.setCell ⟨q, 0, none⟩ x0).setCell ⟨q, 1, none⟩ x1).setCell ⟨q, 2, none⟩ x2).setCell ⟨q, 3, none⟩ x3) :=
  ⟨(((h.set_ 0 x0).set_ 1 x1).set_ 2 x2).set_ 3 x3, (((hb.setCell (p := ⟨q, 0, none⟩) hq _).setCell (p := ⟨q, 1, none⟩) hq _).setCell (p := ⟨q, 2, none⟩) hq _).setCell (p := ⟨q, 3, none⟩) hq _,
    ((((Mod.refl (fun k => k = q) W).setCell (p := ⟨q, 0, none⟩) (fun _ => rfl) _).setCell (p := ⟨q, 1, none⟩) (fun _ => rfl) _).setCell (p := ⟨q, 2, none⟩) (fun _ => rfl) _).setCell (p := ⟨q, 3, none⟩) (fun _ => rfl) _⟩
/-- What a call on the document's disk leaves. -/
def RefOut (w : World) (B Bf : Nat) (P : Option Addr) (pn pc : Nat) (s' : DS) (k : Int) (fs : List (Int × Int)) (e : Ending) (w' : World) : Prop :=
  Below w.heap.size w w' ∧ ∃ A' c' xs', e = .returned (.tuple #[refV A' c' P pn pc s', .int .i64 k]) ∧ RefAt w' B Bf A' c' P pn pc s' xs' fs
theorem RefAt.same {w : World} {B Bf : Nat} {A P : Option Addr} {c pn pc : Nat} {s s' : DS} {xs : List Spt} {fs : List (Int × Int)} (h : RefAt w B Bf A c P pn pc s xs fs) (h1 : s'.safe = s.safe) (h2 : s'.pend = s.pend) (h3 : s'.plan = s.plan) (h4 : s.steps ≤ s'.steps) : RefAt w B Bf A c P pn pc s' xs fs :=
  ⟨by rw [h1]; have : s'.spotF = s.spotF := by { unfold DS.spotF; rw [h1, h2] }; rw [this]; exact h.row, by rw [h1]; exact h.len, h.fates, h.fb, fun k hk => by rw [h3]; exact h.plan k (by omega)⟩
theorem settle_spotF (s : DS) (i : Nat) (hi : i < s.safe.length) : s.settle.spotF i = (hasL (s.spotF i), none) := by
  unfold DS.settle DS.spotF
  dsimp only
  rw [List.getD, List.getElem?_map, List.getElem?_range hi]
  rfl
theorem SpRow.congr {w : World} {B : Nat} {v : Value} {xs : List Spt} {f g : Nat → List Nat × Option (List Nat)} (h : SpRow w B v xs f) (hfg : ∀ i, i < xs.length → f i = g i) : SpRow w B v xs g :=
  ⟨h.row, fun i x hx => by rw [← hfg i (List.getElem?_eq_some_iff.1 hx).1]; exact h.at_ i x hx⟩

set_option maxRecDepth 100000 in
set_option maxHeartbeats 4000000 in
theorem refSync_any (w : World) (B Bf : Nat) (A : Option Addr) (c : Nat) (P : Option Addr) (pn pc : Nat) (s : DS) (xs : List Spt) (fs : List (Int × Int)) (h : RefAt w B Bf A c P pn pc s xs fs) (hok : s.Ok) (hst : s.steps < 4611686018427387904) (hB : B ≤ w.heap.size) :
    Calls Try.prog 50 #[refV A c P pn pc s] w (RefOut w B Bf P pn pc s.sync s.syncE fs) := by
  have H := Lib.hid h
  have HBW := Lib.hid hB
  obtain ⟨n, hn⟩ : ∃ n, n = s.safe.length := ⟨_, rfl⟩
  obtain ⟨st, hs0⟩ : ∃ st, st = s.steps := ⟨_, rfl⟩
  obtain ⟨st1, hs1⟩ : ∃ st1, st1 = st + 1 := ⟨_, rfl⟩
  obtain ⟨off, hoff⟩ : ∃ off, off = s.off := ⟨_, rfl⟩
  have hn4 : n ≤ 4096 := by rw [hn]; exact hok.num
  have hst1 : IntKind.i64.wrap ((st : Int) + 1) = (st1 : Int) := by rw [IntKind.wrap_i64]; omega
  have hfate : s.fate = firstFate fs (st1 : Int) := by
    unfold DS.fate
    rw [hs1, hs0]
    exact h.plan (s.steps + 1) (by omega)
  unfold refV
  rw [← hn, ← hs0, ← hoff]
  obtain ⟨W0, hW0, hb1, hb2, hw0, hz0⟩ := boxes2s w #[.slice A n c, .slice P pn pc, .int .i64 (st : Int), .bool off] #[.slice none 0 0, .slice none 0 0, .int .i64 0, .bool false] 46 46
  have HN := Lib.hid hn
  have HS0 := Lib.hid hs0
  have HS1 := Lib.hid hs1
  have HOFF := Lib.hid hoff
  have HF := Lib.hid hfate
  have HW0 := Lib.hid hW0
  have HB0 := Lib.hid hw0
  have HZ0 := Lib.hid hz0
  have HBD := Lib.hid hb1
  have HBR := Lib.hid hb2
  have hbd := hb1
  have hbr := hb2
  have D0 : W0.cell? ⟨w.heap.size, 0, none⟩ = some (.slice A n c) := hbd.cell 0
  have D1 : W0.cell? ⟨w.heap.size, 1, none⟩ = some (.slice P pn pc) := hbd.cell 1
  have D2 : W0.cell? ⟨w.heap.size, 2, none⟩ = some (.int .i64 (st : Int)) := hbd.cell 2
  have D3 : W0.cell? ⟨w.heap.size, 3, none⟩ = some (.bool off) := hbd.cell 3
  have R0 : W0.cell? ⟨w.heap.size + 1, 0, none⟩ = some (.slice none 0 0) := hbr.cell 0
  have R1 : W0.cell? ⟨w.heap.size + 1, 1, none⟩ = some (.slice none 0 0) := hbr.cell 1
  have R2 : W0.cell? ⟨w.heap.size + 1, 2, none⟩ = some (.int .i64 0) := hbr.cell 2
  have R3 : W0.cell? ⟨w.heap.size + 1, 3, none⟩ = some (.bool false) := hbr.cell 3
  have F0 : ∀ j, W0.frozen? ⟨w.heap.size + 1, j, none⟩ = false := hbr.frozen
  have F1 : ∀ j, W0.frozen? ⟨w.heap.size, j, none⟩ = false := hbd.frozen
  unfold dkV
  clear h hB hn hs0 hs1 hoff hfate hW0 hb1 hb2 hw0 hz0 hbd hbr
  cases off with
  | true =>
    have HE := Lib.hid (over_dk (x0 := .slice A n c) (x1 := .slice P pn pc) (x2 := .int .i64 (st : Int)) (x3 := .bool true) HB0.out (Nat.le_succ _) HBR.out)
    go_enter Try.func50, Try.ntmps50
    go_upto_region 1 with fail
    rw [← HW0.out]
    go_wp2_with fail
    refine ret_dk2 (b := w.heap.size + 1) rfl rfl rfl HE.out.1 rfl ?_
    have hs : s.sync = s := by unfold DS.sync; rw [if_pos HOFF.out.symm]
    have he : s.syncE = 70 := by unfold DS.syncE; rw [if_pos HOFF.out.symm]
    rw [hs, he]
    exact ⟨HE.out.2.1, A, c, xs, by unfold refV dkV; rw [← HN.out, ← HS0.out, ← HOFF.out]; rfl, (H.out.below HB0.out).modT HE.out.2.2 (fun q e => by subst e; exact ⟨_, HBR.out⟩) (fun k e => by have := H.out.fb; omega)⟩
  | false =>
    go_enter Try.func50, Try.ntmps50
    go_upto_region 1 with fail
    rw [← HW0.out]
    go_wp2_with fail
    obtain ⟨W5, hW5⟩ : ∃ W5, W5 = W0.setCell ⟨w.heap.size, 2, none⟩ (.int .i64 (st1 : Int)) := ⟨_, rfl⟩
    rw [← hW5]
    have hm5 : Mod (fun q => q = w.heap.size) W0 W5 := by rw [hW5]; exact (Mod.refl (fun q => q = w.heap.size) W0).setCell (p := ⟨w.heap.size, 2, none⟩) (fun _ => rfl) _
    have hbd5 : Blk W5 w.heap.size 46 #[.slice A n c, .slice P pn pc, .int .i64 (st1 : Int), .bool false] := by rw [hW5]; exact HBD.out.set_ 2 _
    have hbr5 : Blk W5 (w.heap.size + 1) 46 #[.slice none 0 0, .slice none 0 0, .int .i64 0, .bool false] := by rw [hW5]; exact HBR.out.far (p := ⟨w.heap.size, 2, none⟩) (by show w.heap.size + 1 ≠ w.heap.size; omega) _
    have hb5 : Below w.heap.size w W5 := ((Mod.of_below HB0.out (fun q => w.heap.size ≤ q)).trans hm5 (fun q _ e => by omega)).below (Nat.le_refl _) (fun _ h => h)
    have href5 := (H.out.below HB0.out).modT hm5 (fun q e => by subst e; exact ⟨_, HBD.out⟩) (fun k e => by have := H.out.fb; omega)
    have HB5 := Lib.hid hb5
    have HREF5 := Lib.hid href5
    have HBD5 := Lib.hid hbd5
    have HBR5 := Lib.hid hbr5
    clear hW5 hm5 hbd5 hbr5 hb5 href5 D0 D1 D2 D3 R0 R1 R2 R3 F0 F1
    refine (refFate_any W5 A n c P pn pc st1 false fs (HREF5.out.fates.more HREF5.out.fb)).mono ?_
    rintro e w6 ⟨rfl, hb6⟩
    have hz6 := HB5.out.size
    have HBx : Hid (Below w.heap.size w w6) := Lib.hid (HB5.out.trans (hb6.mono hz6))
    have hbd := HBD5.out.below hb6 HBD5.out.lt
    have hbr := HBR5.out.below hb6 HBR5.out.lt
    have HBDx := Lib.hid hbd
    have HBRx := Lib.hid hbr
    have HREF : Hid (RefAt w6 B Bf A c P pn pc s.tick xs fs) := Lib.hid ((HREF5.out.below hb6).same rfl rfl rfl (Nat.le_succ _))
    obtain ⟨fk, hfk⟩ : ∃ fk, fk = firstFate fs (st1 : Int) := ⟨_, rfl⟩
    have hfr := firstFate_range fs (st1 : Int)
    rw [← hfk] at hfr ⊢
    have HFK : Hid (s.fate = fk) := Lib.hid (by rw [HF.out, hfk])
    have HST1 : Hid (st1 = s.steps + 1) := Lib.hid (by rw [HS1.out, HS0.out])
    clear hfk hb6 hz6
    have D0 : w6.cell? ⟨w.heap.size, 0, none⟩ = some (.slice A n c) := hbd.cell 0
    have D1 : w6.cell? ⟨w.heap.size, 1, none⟩ = some (.slice P pn pc) := hbd.cell 1
    have D2 : w6.cell? ⟨w.heap.size, 2, none⟩ = some (.int .i64 (st1 : Int)) := hbd.cell 2
    have D3 : w6.cell? ⟨w.heap.size, 3, none⟩ = some (.bool false) := hbd.cell 3
    have R0 : w6.cell? ⟨w.heap.size + 1, 0, none⟩ = some (.slice none 0 0) := hbr.cell 0
    have R1 : w6.cell? ⟨w.heap.size + 1, 1, none⟩ = some (.slice none 0 0) := hbr.cell 1
    have R2 : w6.cell? ⟨w.heap.size + 1, 2, none⟩ = some (.int .i64 0) := hbr.cell 2
    have R3 : w6.cell? ⟨w.heap.size + 1, 3, none⟩ = some (.bool false) := hbr.cell 3
    have F0 : ∀ j, w6.frozen? ⟨w.heap.size + 1, j, none⟩ = false := hbr.frozen
    have F1 : ∀ j, w6.frozen? ⟨w.heap.size, j, none⟩ = false := hbd.frozen
    clear hbd hbr
    rcases hfr with rfl | rfl | rfl | rfl
    · have hds : s.sync = DS.settle s.tick := by
        unfold DS.sync DS.step
        simp [HFK.out, HOFF.out.symm]
      have hde : s.syncE = 0 := by
        unfold DS.syncE DS.code
        simp [HFK.out, HOFF.out.symm]
      go_wp2_with fail
      refine (settled_any w6 B A n c xs s.tick.spotF (by have h := HREF.out.row; rw [show s.tick.safe.length = n from HN.out.symm] at h; exact h) (by rw [HREF.out.len]; exact HN.out.symm) hn4 (Nat.le_trans HBW.out HBx.out.size)).mono ?_
      rintro e w7 ⟨A', c', xs', rfl, hrow, hxl, hb7⟩
      clear D0 D1 D2 D3 R0 R1 R2 R3 F0 F1
      obtain ⟨W8, hW8⟩ : ∃ W8, W8 = w7.setCell ⟨w.heap.size, 0, none⟩ (.slice A' n c') := ⟨_, rfl⟩
      have hbd7 := HBDx.out.below hb7 HBDx.out.lt
      have hbr7 := HBRx.out.below hb7 HBRx.out.lt
      have hm8 : Mod (fun q => q = w.heap.size) w7 W8 := by rw [hW8]; exact (Mod.refl (fun q => q = w.heap.size) w7).setCell (p := ⟨w.heap.size, 0, none⟩) (fun _ => rfl) _
      have hb8 : Below w.heap.size w W8 := ((Mod.of_below (HBx.out.trans (hb7.mono HBx.out.size)) (fun q => w.heap.size ≤ q)).trans hm8 (fun q _ e => by omega)).below (Nat.le_refl _) (fun _ h => h)
      have hr7 : RefAt w7 B Bf A' c' P pn pc s.tick.settle xs' fs := by
        have h7 := HREF.out.below hb7
        have hln : s.tick.settle.safe.length = n := by rw [settle_len]; exact HN.out.symm
        exact ⟨by rw [hln]; exact hrow.congr (fun i hi => (settle_spotF s.tick i (by rw [show s.tick.safe.length = n from HN.out.symm]; omega)).symm), by rw [hln]; exact hxl, h7.fates, h7.fb, h7.plan⟩
      have hbd : Blk W8 w.heap.size 46 #[.slice A' n c', .slice P pn pc, .int .i64 (st1 : Int), .bool false] := by rw [hW8]; exact hbd7.set_ 0 _
      have hbr : Blk W8 (w.heap.size + 1) 46 #[.slice none 0 0, .slice none 0 0, .int .i64 0, .bool false] := by rw [hW8]; exact hbr7.far (p := ⟨w.heap.size, 0, none⟩) (by show w.heap.size + 1 ≠ w.heap.size; omega) _
      have E0 : w7.cell? ⟨w.heap.size, 0, none⟩ = some (.slice A n c) := hbd7.cell 0
      have E1 : w7.frozen? ⟨w.heap.size, 0, none⟩ = false := hbd7.frozen 0
      go_upto_region 11 with fail
      rw [← hW8]
      have HREFy := Lib.hid (hr7.modT hm8 (fun q e => by subst e; exact ⟨_, hbd7⟩) (fun k e => by have := H.out.fb; omega))
      have HBDy := Lib.hid hbd
      have HBRy := Lib.hid hbr
      have HBy := Lib.hid hb8
      clear HREF HBDx HBRx HBx E0 E1 hrow hxl hb7 hbd7 hbr7 hm8 hb8 hr7 hW8
      have HREF := HREFy
      have HBDx := HBDy
      have HBRx := HBRy
      have HBx := HBy
      have D0 : W8.cell? ⟨w.heap.size, 0, none⟩ = some (.slice A' n c') := hbd.cell 0
      have D1 : W8.cell? ⟨w.heap.size, 1, none⟩ = some (.slice P pn pc) := hbd.cell 1
      have D2 : W8.cell? ⟨w.heap.size, 2, none⟩ = some (.int .i64 (st1 : Int)) := hbd.cell 2
      have D3 : W8.cell? ⟨w.heap.size, 3, none⟩ = some (.bool false) := hbd.cell 3
      have R0 : W8.cell? ⟨w.heap.size + 1, 0, none⟩ = some (.slice none 0 0) := hbr.cell 0
      have R1 : W8.cell? ⟨w.heap.size + 1, 1, none⟩ = some (.slice none 0 0) := hbr.cell 1
      have R2 : W8.cell? ⟨w.heap.size + 1, 2, none⟩ = some (.int .i64 0) := hbr.cell 2
      have R3 : W8.cell? ⟨w.heap.size + 1, 3, none⟩ = some (.bool false) := hbr.cell 3
      have F0 : ∀ j, W8.frozen? ⟨w.heap.size + 1, j, none⟩ = false := hbr.frozen
      have F1 : ∀ j, W8.frozen? ⟨w.heap.size, j, none⟩ = false := hbd.frozen
      clear hbd hbr HREFy HBDy HBRy HBy
      have HE := Lib.hid (over_dk (x0 := .slice A' n c') (x1 := .slice P pn pc) (x2 := .int .i64 (st1 : Int)) (x3 := .bool false) HBx.out (Nat.le_succ _) HBRx.out)
      go_wp2_with fail
      refine ret_dk2 (b := w.heap.size + 1) rfl rfl rfl HE.out.1 rfl ?_
      rw [hds, hde]
      exact ⟨HE.out.2.1, A', c', xs', by unfold refV dkV; rw [show (DS.settle s.tick).safe.length = n by rw [settle_len]; exact HN.out.symm, show (DS.settle s.tick).steps = st1 from HST1.out.symm, show (DS.settle s.tick).off = false from HOFF.out.symm]; rfl, (HREF.out.modT HE.out.2.2 (fun q e => by subst e; exact ⟨_, HBRx.out⟩) (fun k e => by have := H.out.fb; omega)).same rfl rfl rfl (Nat.le_refl _)⟩
    · have hds : s.sync = s.tick := by
        unfold DS.sync DS.step
        simp [HFK.out, HOFF.out.symm]
      have hde : s.syncE = 71 := by
        unfold DS.syncE DS.code
        simp [HFK.out, HOFF.out.symm]
      have HE := Lib.hid (over_dk (x0 := .slice A n c) (x1 := .slice P pn pc) (x2 := .int .i64 (st1 : Int)) (x3 := .bool false) HBx.out (Nat.le_succ _) HBRx.out)
      go_wp2_with fail
      refine ret_dk2 (b := w.heap.size + 1) rfl rfl rfl HE.out.1 rfl ?_
      rw [hds, hde]
      exact ⟨HE.out.2.1, A, c, xs, by unfold refV dkV; rw [show s.tick.safe.length = n from HN.out.symm, show s.tick.steps = st1 from HST1.out.symm, show s.tick.off = false from HOFF.out.symm]; rfl, (HREF.out.modT HE.out.2.2 (fun q e => by subst e; exact ⟨_, HBRx.out⟩) (fun k e => by have := H.out.fb; omega)).same rfl rfl rfl (Nat.le_refl _)⟩
    · have hds : s.sync = { s.tick with off := true } := by
        unfold DS.sync DS.step
        simp [HFK.out, HOFF.out.symm]
      have hde : s.syncE = 70 := by
        unfold DS.syncE DS.code
        simp [HFK.out, HOFF.out.symm]
      obtain ⟨WO, hWO⟩ : ∃ WO, WO = w6.setCell ⟨w.heap.size, 3, none⟩ (.bool true) := ⟨_, rfl⟩
      have hrO : Blk WO (w.heap.size + 1) 46 #[.slice none 0 0, .slice none 0 0, .int .i64 0, .bool false] := by rw [hWO]; exact HBRx.out.far (p := ⟨w.heap.size, 3, none⟩) (by show w.heap.size + 1 ≠ w.heap.size; omega) _
      have hmO : Mod (fun q => q = w.heap.size) w6 WO := by rw [hWO]; exact (Mod.refl (fun q => q = w.heap.size) w6).setCell (p := ⟨w.heap.size, 3, none⟩) (fun _ => rfl) _
      have HRO := Lib.hid hrO
      have HBO : Hid (Below w.heap.size w WO) := Lib.hid (((Mod.of_below HBx.out (fun q => w.heap.size ≤ q)).trans hmO (fun q _ e => by omega)).below (Nat.le_refl _) (fun _ h => h))
      have HREFO := Lib.hid (HREF.out.modT hmO (fun q e => by subst e; exact ⟨_, HBDx.out⟩) (fun k e => by have := H.out.fb; omega))
      have HWO := Lib.hid hWO
      clear hrO hmO hWO
      have HE := Lib.hid (over_dk (x0 := .slice A n c) (x1 := .slice P pn pc) (x2 := .int .i64 (st1 : Int)) (x3 := .bool true) HBO.out (Nat.le_succ _) HRO.out)
      go_wp2_with fail
      rw [← HWO.out]
      refine ret_dk2 (b := w.heap.size + 1) rfl rfl rfl HE.out.1 rfl ?_
      rw [hds, hde]
      exact ⟨HE.out.2.1, A, c, xs, by unfold refV dkV; rw [show s.tick.safe.length = n from HN.out.symm, show s.tick.steps = st1 from HST1.out.symm]; rfl, (HREFO.out.modT HE.out.2.2 (fun q e => by subst e; exact ⟨_, HRO.out⟩) (fun k e => by have := H.out.fb; omega)).same rfl rfl rfl (Nat.le_refl _)⟩
    · have hds : s.sync = { DS.settle s.tick with off := true } := by
        unfold DS.sync DS.step
        simp [HFK.out, HOFF.out.symm]
      have hde : s.syncE = 70 := by
        unfold DS.syncE DS.code
        simp [HFK.out, HOFF.out.symm]
      go_wp2_with fail
      refine (settled_any w6 B A n c xs s.tick.spotF (by have h := HREF.out.row; rw [show s.tick.safe.length = n from HN.out.symm] at h; exact h) (by rw [HREF.out.len]; exact HN.out.symm) hn4 (Nat.le_trans HBW.out HBx.out.size)).mono ?_
      rintro e w7 ⟨A', c', xs', rfl, hrow, hxl, hb7⟩
      clear D0 D1 D2 D3 R0 R1 R2 R3 F0 F1
      obtain ⟨W8, hW8⟩ : ∃ W8, W8 = w7.setCell ⟨w.heap.size, 0, none⟩ (.slice A' n c') := ⟨_, rfl⟩
      have hbd7 := HBDx.out.below hb7 HBDx.out.lt
      have hbr7 := HBRx.out.below hb7 HBRx.out.lt
      have hm8 : Mod (fun q => q = w.heap.size) w7 W8 := by rw [hW8]; exact (Mod.refl (fun q => q = w.heap.size) w7).setCell (p := ⟨w.heap.size, 0, none⟩) (fun _ => rfl) _
      have hb8 : Below w.heap.size w W8 := ((Mod.of_below (HBx.out.trans (hb7.mono HBx.out.size)) (fun q => w.heap.size ≤ q)).trans hm8 (fun q _ e => by omega)).below (Nat.le_refl _) (fun _ h => h)
      have hr7 : RefAt w7 B Bf A' c' P pn pc s.tick.settle xs' fs := by
        have h7 := HREF.out.below hb7
        have hln : s.tick.settle.safe.length = n := by rw [settle_len]; exact HN.out.symm
        exact ⟨by rw [hln]; exact hrow.congr (fun i hi => (settle_spotF s.tick i (by rw [show s.tick.safe.length = n from HN.out.symm]; omega)).symm), by rw [hln]; exact hxl, h7.fates, h7.fb, h7.plan⟩
      have hbd : Blk W8 w.heap.size 46 #[.slice A' n c', .slice P pn pc, .int .i64 (st1 : Int), .bool false] := by rw [hW8]; exact hbd7.set_ 0 _
      have hbr : Blk W8 (w.heap.size + 1) 46 #[.slice none 0 0, .slice none 0 0, .int .i64 0, .bool false] := by rw [hW8]; exact hbr7.far (p := ⟨w.heap.size, 0, none⟩) (by show w.heap.size + 1 ≠ w.heap.size; omega) _
      have E0 : w7.cell? ⟨w.heap.size, 0, none⟩ = some (.slice A n c) := hbd7.cell 0
      have E1 : w7.frozen? ⟨w.heap.size, 0, none⟩ = false := hbd7.frozen 0
      go_upto_region 11 with fail
      rw [← hW8]
      have HREFy := Lib.hid (hr7.modT hm8 (fun q e => by subst e; exact ⟨_, hbd7⟩) (fun k e => by have := H.out.fb; omega))
      have HBDy := Lib.hid hbd
      have HBRy := Lib.hid hbr
      have HBy := Lib.hid hb8
      clear HREF HBDx HBRx HBx E0 E1 hrow hxl hb7 hbd7 hbr7 hm8 hb8 hr7 hW8
      have HREF := HREFy
      have HBDx := HBDy
      have HBRx := HBRy
      have HBx := HBy
      have D0 : W8.cell? ⟨w.heap.size, 0, none⟩ = some (.slice A' n c') := hbd.cell 0
      have D1 : W8.cell? ⟨w.heap.size, 1, none⟩ = some (.slice P pn pc) := hbd.cell 1
      have D2 : W8.cell? ⟨w.heap.size, 2, none⟩ = some (.int .i64 (st1 : Int)) := hbd.cell 2
      have D3 : W8.cell? ⟨w.heap.size, 3, none⟩ = some (.bool false) := hbd.cell 3
      have R0 : W8.cell? ⟨w.heap.size + 1, 0, none⟩ = some (.slice none 0 0) := hbr.cell 0
      have R1 : W8.cell? ⟨w.heap.size + 1, 1, none⟩ = some (.slice none 0 0) := hbr.cell 1
      have R2 : W8.cell? ⟨w.heap.size + 1, 2, none⟩ = some (.int .i64 0) := hbr.cell 2
      have R3 : W8.cell? ⟨w.heap.size + 1, 3, none⟩ = some (.bool false) := hbr.cell 3
      have F0 : ∀ j, W8.frozen? ⟨w.heap.size + 1, j, none⟩ = false := hbr.frozen
      have F1 : ∀ j, W8.frozen? ⟨w.heap.size, j, none⟩ = false := hbd.frozen
      clear hbd hbr HREFy HBDy HBRy HBy
      obtain ⟨WO, hWO⟩ : ∃ WO, WO = W8.setCell ⟨w.heap.size, 3, none⟩ (.bool true) := ⟨_, rfl⟩
      have hrO : Blk WO (w.heap.size + 1) 46 #[.slice none 0 0, .slice none 0 0, .int .i64 0, .bool false] := by rw [hWO]; exact HBRx.out.far (p := ⟨w.heap.size, 3, none⟩) (by show w.heap.size + 1 ≠ w.heap.size; omega) _
      have hmO : Mod (fun q => q = w.heap.size) W8 WO := by rw [hWO]; exact (Mod.refl (fun q => q = w.heap.size) W8).setCell (p := ⟨w.heap.size, 3, none⟩) (fun _ => rfl) _
      have HRO := Lib.hid hrO
      have HBO : Hid (Below w.heap.size w WO) := Lib.hid (((Mod.of_below HBx.out (fun q => w.heap.size ≤ q)).trans hmO (fun q _ e => by omega)).below (Nat.le_refl _) (fun _ h => h))
      have HREFO := Lib.hid (HREF.out.modT hmO (fun q e => by subst e; exact ⟨_, HBDx.out⟩) (fun k e => by have := H.out.fb; omega))
      have HWO := Lib.hid hWO
      clear hrO hmO hWO
      have HE := Lib.hid (over_dk (x0 := .slice A' n c') (x1 := .slice P pn pc) (x2 := .int .i64 (st1 : Int)) (x3 := .bool true) HBO.out (Nat.le_succ _) HRO.out)
      go_wp2_with fail
      rw [← HWO.out]
      refine ret_dk2 (b := w.heap.size + 1) rfl rfl rfl HE.out.1 rfl ?_
      rw [hds, hde]
      exact ⟨HE.out.2.1, A', c', xs', by unfold refV dkV; rw [show (DS.settle s.tick).safe.length = n by rw [settle_len]; exact HN.out.symm, show (DS.settle s.tick).steps = st1 from HST1.out.symm]; rfl, (HREFO.out.modT HE.out.2.2 (fun q e => by subst e; exact ⟨_, HRO.out⟩) (fun k e => by have := H.out.fb; omega)).same rfl rfl rfl (Nat.le_refl _)⟩
end Go.Proofs.Ytdghanhpeekbhaa
