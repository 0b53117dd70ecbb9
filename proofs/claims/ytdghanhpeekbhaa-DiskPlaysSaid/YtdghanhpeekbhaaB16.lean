/-
  The walk of skeinlaw07's asks: Write.
-/
import Derived.Test.YtdghanhpeekbhaaB13
namespace Go.Proofs.Ytdghanhpeekbhaa
open Go.RowKit Go.Maps
set_option linter.unusedVariables false

set_option maxRecDepth 100000 in
set_option maxHeartbeats 4000000 in
theorem asks_write (w : World) (p sb mb : Nat) (pl : Option Nat) (s : DS) (B Bf : Nat) (A : Option Addr) (c : Nat) (P : Option Addr) (pn pc : Nat) (xs : List Spt) (fs : List (Int × Int)) (o : OpD) (dv kv fv : Value) (h : AskIn w p sb mb pl s B Bf A c P pn pc xs fs o dv kv fv) (hk : o.kind = 2) :
    Calls Try.prog 17 #[.pointer (some ⟨p, 0, none⟩), refV A c P pn pc s, .agg (opC o dv kv fv)] w (AskOut7 w p sb mb B Bf (s.run o)) := by
  obtain ⟨dA, dc, rfl, -, -, -, -⟩ := h.data.open_
  obtain ⟨kA, kc, rfl, -, -, -, -⟩ := h.keeps.open_
  obtain ⟨fA, fc, rfl, -, -, -, -⟩ := h.fates.open_
  obtain ⟨kind, oi, data, keeps, fates⟩ := o
  obtain ⟨n, hn⟩ : ∃ n, n = s.safe.length := ⟨_, rfl⟩
  obtain ⟨st, hs0⟩ : ∃ st, st = s.steps := ⟨_, rfl⟩
  obtain ⟨off, hoff⟩ : ∃ off, off = s.off := ⟨_, rfl⟩
  dsimp only at h hk ⊢
  obtain ⟨dn, hdn⟩ : ∃ dn, dn = data.length := ⟨_, rfl⟩
  obtain ⟨kn, hkn⟩ : ∃ kn, kn = keeps.length := ⟨_, rfl⟩
  obtain ⟨fn, hfn⟩ : ∃ fn, fn = fates.length := ⟨_, rfl⟩
  rw [← hdn, ← hkn, ← hfn] at h ⊢
  subst hk
  have HIN := Lib.hid h
  have hsp := h.sep
  have hpr : DiskAt w p sb mb pl s := h.disk
  obtain ⟨W0, hW0, hb1, hb2, hb3, hw0, hz0⟩ := boxes3s w #[.slice A n c, .slice P pn pc, .int .i64 (st : Int), .bool off] #[.int .i64 2, .int .i64 oi, .slice dA dn dc, .slice kA kn kc, .slice fA fn fc] #[.slice none 0 0, .slice none 0 0, .int .i64 0, .bool false] 46 50 46
  have HW0 := Lib.hid hW0
  have HBD := Lib.hid hb1
  have HBO := Lib.hid hb2
  have HBR := Lib.hid hb3
  have HB0 := Lib.hid hw0
  have HZ0 := Lib.hid hz0
  have HD := Lib.hid (h.disk.below hw0)
  have HREF := Lib.hid (h.ref.below hw0)
  have HN := Lib.hid hn
  have HS0 := Lib.hid hs0
  have HOFF := Lib.hid hoff
  have HDN := Lib.hid hdn
  have HKN := Lib.hid hkn
  have HFN := Lib.hid hfn
  have HRUN : Hid (AskOut7 w p sb mb B Bf (s.run ⟨2, oi, data, keeps, fates⟩) = AskOut7 w p sb mb B Bf (s.write oi data)) := Lib.hid (by unfold DS.run; rfl)
  rw [HRUN.out]
  have D0 : W0.cell? ⟨w.heap.size, 0, none⟩ = some (.slice A n c) := (HBD.out).cell 0
  have D1 : W0.cell? ⟨w.heap.size, 1, none⟩ = some (.slice P pn pc) := (HBD.out).cell 1
  have D2 : W0.cell? ⟨w.heap.size, 2, none⟩ = some (.int .i64 (st : Int)) := (HBD.out).cell 2
  have D3 : W0.cell? ⟨w.heap.size, 3, none⟩ = some (.bool off) := (HBD.out).cell 3
  have F1 : ∀ j, W0.frozen? ⟨w.heap.size, j, none⟩ = false := (HBD.out).frozen
  have O0 : W0.cell? ⟨w.heap.size + 1, 0, none⟩ = some (.int .i64 2) := (HBO.out).cell 0
  have O1 : W0.cell? ⟨w.heap.size + 1, 1, none⟩ = some (.int .i64 oi) := (HBO.out).cell 1
  have O2 : W0.cell? ⟨w.heap.size + 1, 2, none⟩ = some (.slice dA dn dc) := (HBO.out).cell 2
  have O3 : W0.cell? ⟨w.heap.size + 1, 3, none⟩ = some (.slice kA kn kc) := (HBO.out).cell 3
  have O4 : W0.cell? ⟨w.heap.size + 1, 4, none⟩ = some (.slice fA fn fc) := (HBO.out).cell 4
  have R0 : W0.cell? ⟨w.heap.size + 2, 0, none⟩ = some (.slice none 0 0) := (HBR.out).cell 0
  have R1 : W0.cell? ⟨w.heap.size + 2, 1, none⟩ = some (.slice none 0 0) := (HBR.out).cell 1
  have R2 : W0.cell? ⟨w.heap.size + 2, 2, none⟩ = some (.int .i64 0) := (HBR.out).cell 2
  have R3 : W0.cell? ⟨w.heap.size + 2, 3, none⟩ = some (.bool false) := (HBR.out).cell 3
  have F2 : ∀ j, W0.frozen? ⟨w.heap.size + 2, j, none⟩ = false := (HBR.out).frozen
  unfold refV dkV opC
  rw [← hn, ← hs0, ← hoff]
  clear h hn hs0 hoff hdn hkn hfn hW0 hb1 hb2 hb3 hw0 hz0 hpr HRUN
  have hbf : Bf ≤ w.heap.size := by omega
  have hzW : W0.heap.size = w.heap.size + 3 := HZ0.out
  have HDV0 : Hid (RB W0 W0.heap.size (.slice dA dn dc) data) := Lib.hid ((HIN.out.data.below (HB0.out.mono hbf)).more (by omega))
  have HDLEN := HIN.out.dlen
  dsimp only at HDLEN
  have HZW := Lib.hid hzW
  clear hzW
  go_enter Try.func17, Try.ntmps17
  go_upto_region 1 with fail
  rw [← HW0.out]
  go_wp2_with fail
  refine (wide_any _ data W0 HDV0.out (by omega)).mono ?_
  rintro e w1 ⟨v1, rfl, ho1, hb1⟩
  obtain ⟨g, cap, rfl, hg1, hg2, hg3, hg4, -, -⟩ := ho1.form (by simp [marks])
  have hml : (data ++ marks).length = dn + 64 := by rw [List.length_append, HDN.out]; rfl
  rw [hml] at ho1 hg3 ⊢
  have hcap : ¬ cap = dn := by omega
  have hbd := HBD.out.below hb1 HBD.out.lt
  have hbo := HBO.out.below hb1 HBO.out.lt
  have hbr := HBR.out.below hb1 HBR.out.lt
  have HD1 := Lib.hid (HD.out.below hb1)
  have HREF1 := Lib.hid (HREF.out.below hb1)
  have HBx1 := Lib.hid hb1
  have HO1 := Lib.hid ho1
  have HR1 : Hid (RB w1.drew w1.drew.heap.size (.slice (some ⟨g, 0, none⟩) dn cap) data) := Lib.hid (RB.drew (by
    have h1 := ho1.rbn.sub (lo := 0) (m := dn) (c' := cap) (by omega) (by omega) (by omega)
    rw [List.drop_zero, List.take_left' HDN.out.symm] at h1
    exact h1))
  have hgW : W0.heap.size ≤ g := hg1
  have HOFF1 : Hid (Off (fun k => k = p) (.slice (some ⟨g, 0, none⟩) dn cap) data) := Lib.hid (.inr fun b hb e => by injection hb with hb; have := HD.out.lt.1; have := HZW.out; simp at hb; omega)
  have HBD1 := Lib.hid hbd
  have HBO1 := Lib.hid hbo
  have HBR1 := Lib.hid hbr
  have HST := HIN.out.steps
  clear D0 D1 D2 D3 F1 O0 O1 O2 O3 O4 R0 R1 R2 R3 F2 hb1 ho1 hml
  have D0 : w1.cell? ⟨w.heap.size, 0, none⟩ = some (.slice A n c) := (hbd).cell 0
  have D1 : w1.cell? ⟨w.heap.size, 1, none⟩ = some (.slice P pn pc) := (hbd).cell 1
  have D2 : w1.cell? ⟨w.heap.size, 2, none⟩ = some (.int .i64 (st : Int)) := (hbd).cell 2
  have D3 : w1.cell? ⟨w.heap.size, 3, none⟩ = some (.bool off) := (hbd).cell 3
  have F1 : ∀ j, w1.frozen? ⟨w.heap.size, j, none⟩ = false := (hbd).frozen
  have O0 : w1.cell? ⟨w.heap.size + 1, 0, none⟩ = some (.int .i64 2) := (hbo).cell 0
  have O1 : w1.cell? ⟨w.heap.size + 1, 1, none⟩ = some (.int .i64 oi) := (hbo).cell 1
  have O2 : w1.cell? ⟨w.heap.size + 1, 2, none⟩ = some (.slice dA dn dc) := (hbo).cell 2
  have O3 : w1.cell? ⟨w.heap.size + 1, 3, none⟩ = some (.slice kA kn kc) := (hbo).cell 3
  have O4 : w1.cell? ⟨w.heap.size + 1, 4, none⟩ = some (.slice fA fn fc) := (hbo).cell 4
  have R0 : w1.cell? ⟨w.heap.size + 2, 0, none⟩ = some (.slice none 0 0) := (hbr).cell 0
  have R1 : w1.cell? ⟨w.heap.size + 2, 1, none⟩ = some (.slice none 0 0) := (hbr).cell 1
  have R2 : w1.cell? ⟨w.heap.size + 2, 2, none⟩ = some (.int .i64 0) := (hbr).cell 2
  have R3 : w1.cell? ⟨w.heap.size + 2, 3, none⟩ = some (.bool false) := (hbr).cell 3
  have F2 : ∀ j, w1.frozen? ⟨w.heap.size + 2, j, none⟩ = false := (hbr).frozen
  clear hbd hbo hbr
  go_upto_region 9 with fail
  go_cut [15] from 64 (fun x wx => ∃ we : Int, x = .int .i64 we ∧ Hid (we = s.writeE oi data) ∧ Hid (DiskAt wx p sb mb pl (s.write oi data)) ∧ Hid (Mod (Own p sb mb) w1 wx))
  case first =>
    have hi1 : (dn : Int) ≤ (cap : Int) := by omega
    have hi2 : ¬ (cap : Int) < (dn : Int) := by omega
    have hi3 : dn ≤ cap := by omega
    have hi4 : ¬ (dn : Int) < 0 := by omega
    go_region_law (first
      | (go_simp; go_at_call 39; refine (Write_any w1.drew p sb mb pl s oi _ data (show DiskAt w1.drew p sb mb pl s from HD1.out.below (Below.refl _ _).drew) HST HR1.out HOFF1.out).mono ?_; rintro e w2 ⟨rfl, hd2, hm2⟩; have HD2 := Lib.hid hd2; have HM2 : Hid (Mod (Own p sb mb) w1 w2) := Lib.hid ⟨hm2.os, hm2.tape, hm2.output, hm2.size, hm2.block⟩; clear hd2 hm2))
    all_goals (
      go_wp2_with fail
      go_meet
      exact ⟨_, rfl, Lib.hid rfl, HD2, HM2⟩)
  case rest =>
  obtain ⟨we, rfl, HWE, HD2, HM2⟩ := hcut
  have hlt := HD.out.lt
  have hzW := HZW.out
  have hz1 := HBx1.out.size
  have hbd := HBD1.out.mod HM2.out (fun e => by rcases e with e | e | e <;> omega)
  have hbo := HBO1.out.mod HM2.out (fun e => by rcases e with e | e | e <;> omega)
  have hbr := HBR1.out.mod HM2.out (fun e => by rcases e with e | e | e <;> omega)
  have HO2 : Hid (OB wc W0.heap.size (.slice (some ⟨g, 0, none⟩) (dn + 64) cap) (data ++ marks)) := Lib.hid (HO1.out.mod HM2.out (fun b hb e => by injection hb with hb; simp at hb; rcases e with e | e | e <;> omega))
  have hz2 := HM2.out.size
  have hb01 : Below w.heap.size w w1 := HB0.out.trans (HBx1.out.mono HB0.out.size)
  have hbc : Below Bf w wc := ((Mod.of_below hb01 (fun q => Bf ≤ q)).trans HM2.out (fun q _ e => by rcases e with e | e | e <;> omega)).below hbf (fun _ h => h)
  have HV2 : Hid (RB wc wc.heap.size (.slice dA dn dc) data) := Lib.hid ((HIN.out.data.below hbc).more (by omega))
  have HBC := Lib.hid hbc
  have HBD2 := Lib.hid hbd
  have HBO2 := Lib.hid hbo
  have HBR2 := Lib.hid hbr
  clear D0 D1 D2 D3 F1 O0 O1 O2 O3 O4 R0 R1 R2 R3 F2 hb01 hbc
  have D0 : wc.cell? ⟨w.heap.size, 0, none⟩ = some (.slice A n c) := (hbd).cell 0
  have D1 : wc.cell? ⟨w.heap.size, 1, none⟩ = some (.slice P pn pc) := (hbd).cell 1
  have D2 : wc.cell? ⟨w.heap.size, 2, none⟩ = some (.int .i64 (st : Int)) := (hbd).cell 2
  have D3 : wc.cell? ⟨w.heap.size, 3, none⟩ = some (.bool off) := (hbd).cell 3
  have F1 : ∀ j, wc.frozen? ⟨w.heap.size, j, none⟩ = false := (hbd).frozen
  have O0 : wc.cell? ⟨w.heap.size + 1, 0, none⟩ = some (.int .i64 2) := (hbo).cell 0
  have O1 : wc.cell? ⟨w.heap.size + 1, 1, none⟩ = some (.int .i64 oi) := (hbo).cell 1
  have O2 : wc.cell? ⟨w.heap.size + 1, 2, none⟩ = some (.slice dA dn dc) := (hbo).cell 2
  have O3 : wc.cell? ⟨w.heap.size + 1, 3, none⟩ = some (.slice kA kn kc) := (hbo).cell 3
  have O4 : wc.cell? ⟨w.heap.size + 1, 4, none⟩ = some (.slice fA fn fc) := (hbo).cell 4
  have R0 : wc.cell? ⟨w.heap.size + 2, 0, none⟩ = some (.slice none 0 0) := (hbr).cell 0
  have R1 : wc.cell? ⟨w.heap.size + 2, 1, none⟩ = some (.slice none 0 0) := (hbr).cell 1
  have R2 : wc.cell? ⟨w.heap.size + 2, 2, none⟩ = some (.int .i64 0) := (hbr).cell 2
  have R3 : wc.cell? ⟨w.heap.size + 2, 3, none⟩ = some (.bool false) := (hbr).cell 3
  have F2 : ∀ j, wc.frozen? ⟨w.heap.size + 2, j, none⟩ = false := (hbr).frozen
  clear hbd hbo hbr
  go_wp2_with fail
  refine (intact_b HO2.out.rbn HV2.out).mono ?_
  rintro e w3 ⟨rfl, hb3⟩
  have hz3 := hb3.size
  have hbd := HBD2.out.below hb3 HBD2.out.lt
  have hbo := HBO2.out.below hb3 HBO2.out.lt
  have hbr := HBR2.out.below hb3 HBR2.out.lt
  have HO3 : Hid (OB w3 W0.heap.size (.slice (some ⟨g, 0, none⟩) (dn + 64) cap) (data ++ marks)) := Lib.hid (HO2.out.below hb3)
  have HD3 := Lib.hid (HD2.out.below hb3)
  have HBx3 := Lib.hid hb3
  have HBD3 := Lib.hid hbd
  have HBO3 := Lib.hid hbo
  have HBR3 := Lib.hid hbr
  clear D0 D1 D2 D3 F1 O0 O1 O2 O3 O4 R0 R1 R2 R3 F2 hb3
  have D0 : w3.cell? ⟨w.heap.size, 0, none⟩ = some (.slice A n c) := (hbd).cell 0
  have D1 : w3.cell? ⟨w.heap.size, 1, none⟩ = some (.slice P pn pc) := (hbd).cell 1
  have D2 : w3.cell? ⟨w.heap.size, 2, none⟩ = some (.int .i64 (st : Int)) := (hbd).cell 2
  have D3 : w3.cell? ⟨w.heap.size, 3, none⟩ = some (.bool off) := (hbd).cell 3
  have F1 : ∀ j, w3.frozen? ⟨w.heap.size, j, none⟩ = false := (hbd).frozen
  have O0 : w3.cell? ⟨w.heap.size + 1, 0, none⟩ = some (.int .i64 2) := (hbo).cell 0
  have O1 : w3.cell? ⟨w.heap.size + 1, 1, none⟩ = some (.int .i64 oi) := (hbo).cell 1
  have O2 : w3.cell? ⟨w.heap.size + 1, 2, none⟩ = some (.slice dA dn dc) := (hbo).cell 2
  have O3 : w3.cell? ⟨w.heap.size + 1, 3, none⟩ = some (.slice kA kn kc) := (hbo).cell 3
  have O4 : w3.cell? ⟨w.heap.size + 1, 4, none⟩ = some (.slice fA fn fc) := (hbo).cell 4
  have R0 : w3.cell? ⟨w.heap.size + 2, 0, none⟩ = some (.slice none 0 0) := (hbr).cell 0
  have R1 : w3.cell? ⟨w.heap.size + 2, 1, none⟩ = some (.slice none 0 0) := (hbr).cell 1
  have R2 : w3.cell? ⟨w.heap.size + 2, 2, none⟩ = some (.int .i64 0) := (hbr).cell 2
  have R3 : w3.cell? ⟨w.heap.size + 2, 3, none⟩ = some (.bool false) := (hbr).cell 3
  have F2 : ∀ j, w3.frozen? ⟨w.heap.size + 2, j, none⟩ = false := (hbr).frozen
  clear hbd hbo hbr
  go_wp2_with fail
  refine (spoil_any _ _ w3 W0.heap.size HO3.out).mono ?_
  rintro e w4 ⟨rfl, -, hg4'⟩
  have hm4 : Mod (fun k => k = g) w3 w4 := (Mod.of_grown hg4').mono (fun k _ e => by injection e with e)
  have hz4 := hm4.size
  have hbd := HBD3.out.mod hm4 (fun e => by omega)
  have hbo := HBO3.out.mod hm4 (fun e => by omega)
  have hbr := HBR3.out.mod hm4 (fun e => by omega)
  have HD4 := Lib.hid (HD3.out.mod hm4 (fun e => by omega) (fun e => by omega) (fun e => by omega) (fun b hb e => by have := hlt.2.2.2 b hb; omega))
  have hm04 : Mod (fun k => Own p sb mb k ∨ W0.heap.size ≤ k) W0 w4 := ((((Mod.of_below HBx1.out (fun k => Own p sb mb k ∨ W0.heap.size ≤ k)).trans HM2.out (fun k _ e => .inl e)).trans (Mod.of_below HBx3.out (fun _ => False)) (fun k _ e => e.elim)).trans hm4 (fun k _ e => .inr (by omega)))
  have HMA4 := Lib.hid ((Mod.of_below HB0.out (AskS p sb mb w.heap.size)).trans hm04 (fun q _ e => by rcases e with e | e; exact .inl e; exact .inr (by omega)))
  have HREF4 := Lib.hid (HREF.out.mod hm04 (fun k h1 h2 e => by rcases e with (e | e | e) | e <;> omega) (fun k e => by rcases e with (e | e | e) | e <;> omega))
  have hb4 : Below Bf w w4 := ((Mod.of_below HB0.out (fun q => Bf ≤ q)).trans hm04 (fun k _ e => by rcases e with (e | e | e) | e <;> omega)).below hbf (fun _ h => h)
  have HV4 : Hid (RB w4 w4.heap.size (.slice dA dn dc) data) := Lib.hid ((HIN.out.data.below hb4).more (by omega))
  have hBw4 : B ≤ w4.heap.size := by omega
  have HBW4 := Lib.hid hBw4
  have HB4 := Lib.hid hb4
  have HBD4 := Lib.hid hbd
  have HBR4 := Lib.hid hbr
  clear D0 D1 D2 D3 F1 O0 O1 O2 O3 O4 R0 R1 R2 R3 F2 hg4' hm4 hm04 hb4
  have D0 : w4.cell? ⟨w.heap.size, 0, none⟩ = some (.slice A n c) := (hbd).cell 0
  have D1 : w4.cell? ⟨w.heap.size, 1, none⟩ = some (.slice P pn pc) := (hbd).cell 1
  have D2 : w4.cell? ⟨w.heap.size, 2, none⟩ = some (.int .i64 (st : Int)) := (hbd).cell 2
  have D3 : w4.cell? ⟨w.heap.size, 3, none⟩ = some (.bool off) := (hbd).cell 3
  have F1 : ∀ j, w4.frozen? ⟨w.heap.size, j, none⟩ = false := (hbd).frozen
  have O0 : w4.cell? ⟨w.heap.size + 1, 0, none⟩ = some (.int .i64 2) := (hbo).cell 0
  have O1 : w4.cell? ⟨w.heap.size + 1, 1, none⟩ = some (.int .i64 oi) := (hbo).cell 1
  have O2 : w4.cell? ⟨w.heap.size + 1, 2, none⟩ = some (.slice dA dn dc) := (hbo).cell 2
  have O3 : w4.cell? ⟨w.heap.size + 1, 3, none⟩ = some (.slice kA kn kc) := (hbo).cell 3
  have O4 : w4.cell? ⟨w.heap.size + 1, 4, none⟩ = some (.slice fA fn fc) := (hbo).cell 4
  have R0 : w4.cell? ⟨w.heap.size + 2, 0, none⟩ = some (.slice none 0 0) := (hbr).cell 0
  have R1 : w4.cell? ⟨w.heap.size + 2, 1, none⟩ = some (.slice none 0 0) := (hbr).cell 1
  have R2 : w4.cell? ⟨w.heap.size + 2, 2, none⟩ = some (.int .i64 0) := (hbr).cell 2
  have R3 : w4.cell? ⟨w.heap.size + 2, 3, none⟩ = some (.bool false) := (hbr).cell 3
  have F2 : ∀ j, w4.frozen? ⟨w.heap.size + 2, j, none⟩ = false := (hbr).frozen
  clear hbd hbo hbr
  go_wp2_with fail
  refine (refWrite_any w4 B Bf A c P pn pc s xs fs HREF4.out HD.out.ok HST HBW4.out oi _ data HV4.out |> callsAt (by unfold refV dkV; rw [← HN.out, ← HS0.out, ← HOFF.out])).mono ?_
  rintro e w5 ⟨hb5, A2, c2, xs2, rfl, hr5⟩
  rw [← HWE.out]
  have HD5 := Lib.hid (HD4.out.below hb5)
  have HREF5 := Lib.hid hr5
  have HBR5 := Lib.hid (HBR4.out.below hb5 HBR4.out.lt)
  have HB5 : Hid (Below Bf w w5) := Lib.hid (HB4.out.trans (hb5.mono (by omega)))
  obtain ⟨n2, hn2⟩ : ∃ n2, n2 = (s.write oi data).safe.length := ⟨_, rfl⟩
  obtain ⟨st2, hst2⟩ : ∃ st2, st2 = (s.write oi data).steps := ⟨_, rfl⟩
  obtain ⟨off2, hoff2⟩ : ∃ off2, off2 = (s.write oi data).off := ⟨_, rfl⟩
  unfold refV dkV
  rw [← hn2, ← hst2, ← hoff2]
  obtain ⟨W6, hW6⟩ : ∃ W6, W6 = w5.alloc (.cells #[.slice A2 n2 c2, .slice P pn pc, .int .i64 (st2 : Int), .bool off2] 46) := ⟨_, rfl⟩
  have hb6 : Below w5.heap.size w5 W6 := by rw [hW6]; exact (Below.refl _ _).alloc (Nat.le_refl _) _
  have hbk6 : Blk W6 w5.heap.size 46 #[.slice A2 n2 c2, .slice P pn pc, .int .i64 (st2 : Int), .bool off2] := by rw [hW6]; exact Blk.new _ _ _
  have HD6 := Lib.hid (HD5.out.below hb6)
  have HREF6 := Lib.hid (HREF5.out.below hb6)
  have hbr := HBR5.out.below hb6 HBR5.out.lt
  have hz5 := hb5.size
  have hz6 := hb6.size
  have HB6 : Hid (Below Bf w W6) := Lib.hid (HB5.out.trans (hb6.mono (by omega)))
  have hplne : ∀ b, pl = some b → b ≠ w.heap.size + 2 := fun b e => HD6.out.ne_pl e hbr
  have HE := Lib.hid (askOut_of (n := n2) (st := st2) (off := off2) HD6.out HREF6.out ((HMA4.out.trans' (Mod.of_below hb5 _)).trans' (Mod.of_below hb6 _)) (by omega) (Nat.le_add_right _ 2) hbr (by omega) hbf hplne hn2 hst2 hoff2)
  have G0 : W6.cell? ⟨w5.heap.size, 0, none⟩ = some (.slice A2 n2 c2) := hbk6.cell 0
  have G1 : W6.cell? ⟨w5.heap.size, 1, none⟩ = some (.slice P pn pc) := hbk6.cell 1
  have G2 : W6.cell? ⟨w5.heap.size, 2, none⟩ = some (.int .i64 (st2 : Int)) := hbk6.cell 2
  have G3 : W6.cell? ⟨w5.heap.size, 3, none⟩ = some (.bool off2) := hbk6.cell 3
  clear D0 D1 D2 D3 F1 O0 O1 O2 O3 O4 R0 R1 R2 R3 F2
  have R0 : W6.cell? ⟨w.heap.size + 2, 0, none⟩ = some (.slice none 0 0) := hbr.cell 0
  have R1 : W6.cell? ⟨w.heap.size + 2, 1, none⟩ = some (.slice none 0 0) := hbr.cell 1
  have R2 : W6.cell? ⟨w.heap.size + 2, 2, none⟩ = some (.int .i64 0) := hbr.cell 2
  have R3 : W6.cell? ⟨w.heap.size + 2, 3, none⟩ = some (.bool false) := hbr.cell 3
  have F2 : ∀ j, W6.frozen? ⟨w.heap.size + 2, j, none⟩ = false := hbr.frozen
  have hne2 : ¬ w5.heap.size = w.heap.size + 2 := by have := HBR5.out.lt; omega
  have HW6 := Lib.hid hW6
  clear hb5 hr5 hn2 hst2 hoff2 hb6 hbk6 hbr hW6 hplne
  go_upto_region 13 with fail
  rw [← HW6.out]
  go_wp2_with fail
  exact ret_dk2 (b := w.heap.size + 2) rfl rfl rfl HE.out.1 rfl HE.out.2
end Go.Proofs.Ytdghanhpeekbhaa
