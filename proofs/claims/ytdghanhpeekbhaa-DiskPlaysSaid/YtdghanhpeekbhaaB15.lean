/-
  The walk of skeinlaw07's asks: Read.
-/
import Derived.Test.YtdghanhpeekbhaaB14
namespace Go.Proofs.Ytdghanhpeekbhaa
open Go.RowKit Go.Maps
set_option linter.unusedVariables false

theorem readE_ok {s : DS} {i : Int} (h : s.readE i = 0) : s.off = false ∧ 0 ≤ i ∧ i < s.safe.length := by
  unfold DS.readE at h
  cases ho : s.off with
  | true => rw [ho] at h; simp at h
  | false =>
    rw [ho] at h
    cases hs : s.isSec i with
    | false => rw [hs] at h; simp at h
    | true => unfold DS.isSec at hs; simp at hs; exact ⟨rfl, hs.1, hs.2⟩
theorem readE_is (s : DS) (i : Int) (off : Bool) (n : Nat) (hn : n = s.safe.length) (ho : off = s.off) : (off = true → s.readE i = 70) ∧ (off = false → (i < 0 ∨ (n : Int) ≤ i) → s.readE i = 1) ∧ (off = false → 0 ≤ i → i < n → s.readE i = 0) := by
  unfold DS.readE DS.isSec
  rw [← hn, ← ho]
  refine ⟨fun h => by rw [h]; rfl, fun h h2 => ?_, fun h h1 h2 => ?_⟩
  · rw [h]
    simp
    omega
  · rw [h]
    simp
    omega
theorem apart_nil (w : World) : Calls Try.prog 48 #[.slice none 0 0, .slice none 0 0, .slice none 0 0] w fun e w' => e = .returned (.bool true) ∧ Below w.heap.size w w' := by
  have h : OB w w.heap.size (.slice none 0 0) [] := ⟨by simp, by simp, World.ownsRow_nil _ _ _ _⟩
  refine (apart_yes _ _ _ [] w w.heap.size h h h (.inl rfl) (.inl rfl) (by simp) (Nat.le_refl _)).mono ?_
  rintro e w' ⟨rfl, hg⟩
  exact ⟨rfl, below_grownBy hg (Nat.le_refl _) (fun g hg => by cases hg)⟩

set_option maxRecDepth 100000 in
set_option maxHeartbeats 4000000 in
theorem asks_read (w : World) (p sb mb : Nat) (pl : Option Nat) (s : DS) (B Bf : Nat) (A : Option Addr) (c : Nat) (P : Option Addr) (pn pc : Nat) (xs : List Spt) (fs : List (Int × Int)) (o : OpD) (dv kv fv : Value) (h : AskIn w p sb mb pl s B Bf A c P pn pc xs fs o dv kv fv) (hk : o.kind = 1) :
    Calls Try.prog 17 #[.pointer (some ⟨p, 0, none⟩), refV A c P pn pc s, .agg (opC o dv kv fv)] w (AskOut7 w p sb mb B Bf (s.run o)) := by
  obtain ⟨dA, dc, rfl, -, -, -, -⟩ := h.data.open_
  obtain ⟨kA, kc, rfl, -, -, -, -⟩ := h.keeps.open_
  obtain ⟨fA, fc, rfl, -, -, -, -⟩ := h.fates.open_
  obtain ⟨kind, oi, data, keeps, fates⟩ := o
  obtain ⟨n, hn⟩ : ∃ n, n = s.safe.length := ⟨_, rfl⟩
  obtain ⟨st, hs0⟩ : ∃ st, st = s.steps := ⟨_, rfl⟩
  obtain ⟨off, hoff⟩ : ∃ off, off = s.off := ⟨_, rfl⟩
  dsimp only at h hk ⊢
  obtain ⟨dn, hdn⟩ : ∃ dn, dn = data.length := ⟨_, rfl⟩
  obtain ⟨kn, hkn⟩ : ∃ kn, kn = keeps.length := ⟨_, rfl⟩
  obtain ⟨fn, hfn⟩ : ∃ fn, fn = fates.length := ⟨_, rfl⟩
  rw [← hdn, ← hkn, ← hfn] at h ⊢
  subst hk
  have HIN := Lib.hid h
  have hsp := h.sep
  have hpr : DiskAt w p sb mb pl s := h.disk
  obtain ⟨W0, hW0, hb1, hb2, hb3, hw0, hz0⟩ := boxes3s w #[.slice A n c, .slice P pn pc, .int .i64 (st : Int), .bool off] #[.int .i64 1, .int .i64 oi, .slice dA dn dc, .slice kA kn kc, .slice fA fn fc] #[.slice none 0 0, .slice none 0 0, .int .i64 0, .bool false] 46 50 46
  have HW0 := Lib.hid hW0
  have HBD := Lib.hid hb1
  have HBO := Lib.hid hb2
  have HBR := Lib.hid hb3
  have HB0 := Lib.hid hw0
  have HZ0 := Lib.hid hz0
  have HD := Lib.hid (h.disk.below hw0)
  have HREF := Lib.hid (h.ref.below hw0)
  have HN := Lib.hid hn
  have HS0 := Lib.hid hs0
  have HOFF := Lib.hid hoff
  have HDN := Lib.hid hdn
  have HKN := Lib.hid hkn
  have HFN := Lib.hid hfn
  have HRUN : Hid (AskOut7 w p sb mb B Bf (s.run ⟨1, oi, data, keeps, fates⟩) = AskOut7 w p sb mb B Bf (s)) := Lib.hid (by unfold DS.run; rfl)
  rw [HRUN.out]
  have D0 : W0.cell? ⟨w.heap.size, 0, none⟩ = some (.slice A n c) := (HBD.out).cell 0
  have D1 : W0.cell? ⟨w.heap.size, 1, none⟩ = some (.slice P pn pc) := (HBD.out).cell 1
  have D2 : W0.cell? ⟨w.heap.size, 2, none⟩ = some (.int .i64 (st : Int)) := (HBD.out).cell 2
  have D3 : W0.cell? ⟨w.heap.size, 3, none⟩ = some (.bool off) := (HBD.out).cell 3
  have F1 : ∀ j, W0.frozen? ⟨w.heap.size, j, none⟩ = false := (HBD.out).frozen
  have O0 : W0.cell? ⟨w.heap.size + 1, 0, none⟩ = some (.int .i64 1) := (HBO.out).cell 0
  have O1 : W0.cell? ⟨w.heap.size + 1, 1, none⟩ = some (.int .i64 oi) := (HBO.out).cell 1
  have O2 : W0.cell? ⟨w.heap.size + 1, 2, none⟩ = some (.slice dA dn dc) := (HBO.out).cell 2
  have O3 : W0.cell? ⟨w.heap.size + 1, 3, none⟩ = some (.slice kA kn kc) := (HBO.out).cell 3
  have O4 : W0.cell? ⟨w.heap.size + 1, 4, none⟩ = some (.slice fA fn fc) := (HBO.out).cell 4
  have R0 : W0.cell? ⟨w.heap.size + 2, 0, none⟩ = some (.slice none 0 0) := (HBR.out).cell 0
  have R1 : W0.cell? ⟨w.heap.size + 2, 1, none⟩ = some (.slice none 0 0) := (HBR.out).cell 1
  have R2 : W0.cell? ⟨w.heap.size + 2, 2, none⟩ = some (.int .i64 0) := (HBR.out).cell 2
  have R3 : W0.cell? ⟨w.heap.size + 2, 3, none⟩ = some (.bool false) := (HBR.out).cell 3
  have F2 : ∀ j, W0.frozen? ⟨w.heap.size + 2, j, none⟩ = false := (HBR.out).frozen
  unfold refV dkV opC
  rw [← hn, ← hs0, ← hoff]
  clear h hn hs0 hoff hdn hkn hfn hW0 hb1 hb2 hb3 hw0 hz0 hpr HRUN
  have hbf : Bf ≤ w.heap.size := by omega
  obtain ⟨re, hre⟩ : ∃ re, re = s.readE oi := ⟨_, rfl⟩
  have HRE := Lib.hid hre
  clear hre
  go_enter Try.func17, Try.ntmps17
  go_upto_region 1 with fail
  rw [← HW0.out]
  go_wp2_with fail
  refine (Read_any W0 p sb mb pl s HD.out oi).mono ?_
  rintro e w1 ⟨v1, rfl, hb1, hv1⟩
  rw [← HRE.out] at hv1 ⊢
  have hbd := HBD.out.below hb1 HBD.out.lt
  have hbo := HBO.out.below hb1 HBO.out.lt
  have hbr := HBR.out.below hb1 HBR.out.lt
  have HD1 := Lib.hid (HD.out.below hb1)
  have HREF1 := Lib.hid (HREF.out.below hb1)
  have HBx1 := Lib.hid hb1
  have HV1 := Lib.hid hv1
  have HBD1 := Lib.hid hbd
  have HBO1 := Lib.hid hbo
  have HBR1 := Lib.hid hbr
  clear D0 D1 D2 D3 F1 O0 O1 O2 O3 O4 R0 R1 R2 R3 F2 hb1 hv1
  have D0 : w1.cell? ⟨w.heap.size, 0, none⟩ = some (.slice A n c) := (hbd).cell 0
  have D1 : w1.cell? ⟨w.heap.size, 1, none⟩ = some (.slice P pn pc) := (hbd).cell 1
  have D2 : w1.cell? ⟨w.heap.size, 2, none⟩ = some (.int .i64 (st : Int)) := (hbd).cell 2
  have D3 : w1.cell? ⟨w.heap.size, 3, none⟩ = some (.bool off) := (hbd).cell 3
  have F1 : ∀ j, w1.frozen? ⟨w.heap.size, j, none⟩ = false := (hbd).frozen
  have O0 : w1.cell? ⟨w.heap.size + 1, 0, none⟩ = some (.int .i64 1) := (hbo).cell 0
  have O1 : w1.cell? ⟨w.heap.size + 1, 1, none⟩ = some (.int .i64 oi) := (hbo).cell 1
  have O2 : w1.cell? ⟨w.heap.size + 1, 2, none⟩ = some (.slice dA dn dc) := (hbo).cell 2
  have O3 : w1.cell? ⟨w.heap.size + 1, 3, none⟩ = some (.slice kA kn kc) := (hbo).cell 3
  have O4 : w1.cell? ⟨w.heap.size + 1, 4, none⟩ = some (.slice fA fn fc) := (hbo).cell 4
  have R0 : w1.cell? ⟨w.heap.size + 2, 0, none⟩ = some (.slice none 0 0) := (hbr).cell 0
  have R1 : w1.cell? ⟨w.heap.size + 2, 1, none⟩ = some (.slice none 0 0) := (hbr).cell 1
  have R2 : w1.cell? ⟨w.heap.size + 2, 2, none⟩ = some (.int .i64 0) := (hbr).cell 2
  have R3 : w1.cell? ⟨w.heap.size + 2, 3, none⟩ = some (.bool false) := (hbr).cell 3
  have F2 : ∀ j, w1.frozen? ⟨w.heap.size + 2, j, none⟩ = false := (hbr).frozen
  clear hbd hbo hbr
  obtain ⟨A1, n1, c1, rfl⟩ : ∃ A1 n1 c1, v1 = .slice A1 n1 c1 := by
    rcases HV1.out with ⟨-, b, rfl, -, -⟩ | ⟨-, rfl⟩
    · exact ⟨_, _, _, rfl⟩
    · exact ⟨_, _, _, rfl⟩
  go_wp2_with fail
  refine (Read_any w1 p sb mb pl s HD1.out oi).mono ?_
  rintro e w2 ⟨v2, rfl, hb2, hv2⟩
  rw [← HRE.out] at hv2 ⊢
  have hbd := HBD1.out.below hb2 HBD1.out.lt
  have hbo := HBO1.out.below hb2 HBO1.out.lt
  have hbr := HBR1.out.below hb2 HBR1.out.lt
  have HD2 := Lib.hid (HD1.out.below hb2)
  have HREF2 := Lib.hid (HREF1.out.below hb2)
  have HBx2 := Lib.hid hb2
  have HV2 := Lib.hid hv2
  have HBD2 := Lib.hid hbd
  have HBO2 := Lib.hid hbo
  have HBR2 := Lib.hid hbr
  clear D0 D1 D2 D3 F1 O0 O1 O2 O3 O4 R0 R1 R2 R3 F2 hb2 hv2
  have D0 : w2.cell? ⟨w.heap.size, 0, none⟩ = some (.slice A n c) := (hbd).cell 0
  have D1 : w2.cell? ⟨w.heap.size, 1, none⟩ = some (.slice P pn pc) := (hbd).cell 1
  have D2 : w2.cell? ⟨w.heap.size, 2, none⟩ = some (.int .i64 (st : Int)) := (hbd).cell 2
  have D3 : w2.cell? ⟨w.heap.size, 3, none⟩ = some (.bool off) := (hbd).cell 3
  have F1 : ∀ j, w2.frozen? ⟨w.heap.size, j, none⟩ = false := (hbd).frozen
  have O0 : w2.cell? ⟨w.heap.size + 1, 0, none⟩ = some (.int .i64 1) := (hbo).cell 0
  have O1 : w2.cell? ⟨w.heap.size + 1, 1, none⟩ = some (.int .i64 oi) := (hbo).cell 1
  have O2 : w2.cell? ⟨w.heap.size + 1, 2, none⟩ = some (.slice dA dn dc) := (hbo).cell 2
  have O3 : w2.cell? ⟨w.heap.size + 1, 3, none⟩ = some (.slice kA kn kc) := (hbo).cell 3
  have O4 : w2.cell? ⟨w.heap.size + 1, 4, none⟩ = some (.slice fA fn fc) := (hbo).cell 4
  have R0 : w2.cell? ⟨w.heap.size + 2, 0, none⟩ = some (.slice none 0 0) := (hbr).cell 0
  have R1 : w2.cell? ⟨w.heap.size + 2, 1, none⟩ = some (.slice none 0 0) := (hbr).cell 1
  have R2 : w2.cell? ⟨w.heap.size + 2, 2, none⟩ = some (.int .i64 0) := (hbr).cell 2
  have R3 : w2.cell? ⟨w.heap.size + 2, 3, none⟩ = some (.bool false) := (hbr).cell 3
  have F2 : ∀ j, w2.frozen? ⟨w.heap.size + 2, j, none⟩ = false := (hbr).frozen
  clear hbd hbo hbr
  obtain ⟨A2, n2, c2, rfl⟩ : ∃ A2 n2 c2, v2 = .slice A2 n2 c2 := by
    rcases HV2.out with ⟨-, b, rfl, -, -⟩ | ⟨-, rfl⟩
    · exact ⟨_, _, _, rfl⟩
    · exact ⟨_, _, _, rfl⟩
  go_wp2_with fail
  refine (refRead_any w2 B A n c xs s.spotF (by have h := HREF2.out.row; rw [← HN.out] at h; exact h) (by rw [HREF2.out.len]; exact HN.out.symm) P pn pc st off oi).mono ?_
  rintro e w3 ⟨hb3, ⟨A3, n3, c3⟩, k3, rfl, hv3⟩
  have hk3 : k3 = re := by
    have h := readE_is s oi off n HN.out HOFF.out
    rw [HRE.out]
    rcases hv3 with ⟨h1, rfl, -⟩ | ⟨h1, h2, rfl, -⟩ | ⟨h1, h2, h3, rfl, -⟩
    · exact (h.1 h1).symm
    · exact (h.2.1 h1 h2).symm
    · exact (h.2.2 h1 h2 h3).symm
  subst hk3
  have hbd := HBD2.out.below hb3 HBD2.out.lt
  have hbr := HBR2.out.below hb3 HBR2.out.lt
  have HD3 := Lib.hid (HD2.out.below hb3)
  have HREF3 := Lib.hid (HREF2.out.below hb3)
  have HBx3 := Lib.hid hb3
  have HV3 := Lib.hid hv3
  have HBD3 := Lib.hid hbd
  have HBR3 := Lib.hid hbr
  have hz1 := HBx1.out.size
  have hz2 := HBx2.out.size
  have hz3 := HBx3.out.size
  have HB3 : Hid (Below w.heap.size w w3) := Lib.hid (((HB0.out.trans (HBx1.out.mono HB0.out.size)).trans (HBx2.out.mono (Nat.le_trans HB0.out.size hz1))).trans (HBx3.out.mono (Nat.le_trans HB0.out.size (Nat.le_trans hz1 hz2))))
  have HAP : Hid (Calls Try.prog 48 #[.slice A1 n1 c1, .slice A2 n2 c2, .slice A3 n3 c3] w3.drew fun e w' => e = .returned (.bool true) ∧ Mod (fun k => W0.heap.size ≤ k ∧ ∃ cs, Blk w3 k 85 cs) w3 w') := Lib.hid (by
    rcases HV1.out with ⟨h0, b1, e1, hlb1, hs1⟩ | ⟨h0, e1⟩
    · rcases HV2.out with ⟨-, b2, e2, hlb2, hs2⟩ | ⟨h02, -⟩
      · have hro := readE_ok (by rw [← HRE.out]; exact h0)
        rcases hv3 with ⟨h1, -, -⟩ | ⟨h1, h2, -, -⟩ | ⟨h1, h2, h3, -, ho3⟩
        · rw [HOFF.out, hro.1] at h1; cases h1
        · exfalso; have := HN.out; omega
        · injection e1 with e1 e1b e1c
          injection e2 with e2 e2b e2c
          subst e1 e1b e1c e2 e2b e2c
          have bb1 := secs_bb ((hs1.below HBx2.out hs1.lt).below HBx3.out (Nat.lt_of_lt_of_le hs1.lt hz2))
          have bb2 := secs_bb (hs2.below HBx3.out hs2.lt)
          have hl : (s.has oi.toNat).length = 512 := (hs1.ok _ (by simp)).1
          refine (apartB_any w3.drew b1 b2 85 _ (s.has oi.toNat) w2.heap.size bb1.drew bb2.drew (show OB w3.drew w2.heap.size (slW (A3, n3, c3)) (s.has oi.toNat) from ho3) hl (by have := hs1.lt; omega) (by decide)).mono ?_
          rintro e w' ⟨rfl, hm⟩
          have hm3 : Mod (fun k => k = b1) w3 w' := ⟨hm.os, hm.tape, hm.output, hm.size, hm.block⟩
          exact ⟨rfl, hm3.mono (fun k _ e => by subst e; exact ⟨hlb1, _, bb1.blk⟩)⟩
      · exact absurd h0 h02
    · rcases HV2.out with ⟨h02, -⟩ | ⟨-, e2⟩
      · exact absurd h02 h0
      · injection e1 with e1 e1b e1c
        injection e2 with e2 e2b e2c
        subst e1 e1b e1c e2 e2b e2c
        have e3 : (A3, n3, c3) = ((none, 0, 0) : Option Addr × Nat × Nat) := by
          rcases hv3 with ⟨-, -, h⟩ | ⟨-, -, -, h⟩ | ⟨-, -, -, h, -⟩
          · exact h
          · exact h
          · exact absurd h h0
        injection e3 with e3 e3b
        injection e3b with e3b e3c
        subst e3 e3b e3c
        refine (apart_nil w3.drew).mono ?_
        rintro e w' ⟨rfl, hb⟩
        have hb3 : Below w3.heap.size w3 w' := ⟨hb.os, hb.tape, hb.output, hb.size, hb.block⟩
        exact ⟨rfl, Mod.of_below hb3 _⟩)
  clear D0 D1 D2 D3 F1 O0 O1 O2 O3 O4 R0 R1 R2 R3 F2 hb3 hv3
  have D0 : w3.cell? ⟨w.heap.size, 0, none⟩ = some (.slice A n c) := (hbd).cell 0
  have D1 : w3.cell? ⟨w.heap.size, 1, none⟩ = some (.slice P pn pc) := (hbd).cell 1
  have D2 : w3.cell? ⟨w.heap.size, 2, none⟩ = some (.int .i64 (st : Int)) := (hbd).cell 2
  have D3 : w3.cell? ⟨w.heap.size, 3, none⟩ = some (.bool off) := (hbd).cell 3
  have F1 : ∀ j, w3.frozen? ⟨w.heap.size, j, none⟩ = false := (hbd).frozen
  have R0 : w3.cell? ⟨w.heap.size + 2, 0, none⟩ = some (.slice none 0 0) := (hbr).cell 0
  have R1 : w3.cell? ⟨w.heap.size + 2, 1, none⟩ = some (.slice none 0 0) := (hbr).cell 1
  have R2 : w3.cell? ⟨w.heap.size + 2, 2, none⟩ = some (.int .i64 0) := (hbr).cell 2
  have R3 : w3.cell? ⟨w.heap.size + 2, 3, none⟩ = some (.bool false) := (hbr).cell 3
  have F2 : ∀ j, w3.frozen? ⟨w.heap.size + 2, j, none⟩ = false := (hbr).frozen
  clear hbd hbr
  go_upto_region 6 with fail
  go_region_law (first
    | (go_simp; go_at_call 48; refine HAP.out.mono ?_; rintro e w4 ⟨rfl, hm4⟩; have HM4 := Lib.hid hm4; have bd4 := HBD3.out.mod hm4 (fun e => by have := e.1; have := HZ0.out; omega); have br4 := HBR3.out.mod hm4 (fun e => by have := e.1; have := HZ0.out; omega); have E0 : w4.cell? ⟨w.heap.size, 0, none⟩ = some (.slice A n c) := bd4.cell 0; have E1 : w4.cell? ⟨w.heap.size, 1, none⟩ = some (.slice P pn pc) := bd4.cell 1; have E2 : w4.cell? ⟨w.heap.size, 2, none⟩ = some (.int .i64 (st : Int)) := bd4.cell 2; have E3 : w4.cell? ⟨w.heap.size, 3, none⟩ = some (.bool off) := bd4.cell 3; have G0 : w4.cell? ⟨w.heap.size + 2, 0, none⟩ = some (.slice none 0 0) := br4.cell 0; have G1 : w4.cell? ⟨w.heap.size + 2, 1, none⟩ = some (.slice none 0 0) := br4.cell 1; have G2 : w4.cell? ⟨w.heap.size + 2, 2, none⟩ = some (.int .i64 0) := br4.cell 2; have G3 : w4.cell? ⟨w.heap.size + 2, 3, none⟩ = some (.bool false) := br4.cell 3; have GF : ∀ j, w4.frozen? ⟨w.heap.size + 2, j, none⟩ = false := br4.frozen; have HBR4 := Lib.hid br4; clear bd4 br4 hm4))
  all_goals (
    have hHE : Hid (AskOut7 w p sb mb B Bf s (.returned (.tuple #[.agg #[.slice A n c, .slice P pn pc, .int .i64 (st : Int), .bool off], .bool true])) ((((w4.setCell ⟨w.heap.size + 2, 0, none⟩ (.slice A n c)).setCell ⟨w.heap.size + 2, 1, none⟩ (.slice P pn pc)).setCell ⟨w.heap.size + 2, 2, none⟩ (.int .i64 (st : Int))).setCell ⟨w.heap.size + 2, 3, none⟩ (.bool off)) ∧ Blk ((((w4.setCell ⟨w.heap.size + 2, 0, none⟩ (.slice A n c)).setCell ⟨w.heap.size + 2, 1, none⟩ (.slice P pn pc)).setCell ⟨w.heap.size + 2, 2, none⟩ (.int .i64 (st : Int))).setCell ⟨w.heap.size + 2, 3, none⟩ (.bool off)) (w.heap.size + 2) 46 #[.slice A n c, .slice P pn pc, .int .i64 (st : Int), .bool off]) := Lib.hid (by
      have hm4 := HM4.out
      have hz0 := HZ0.out
      have hlt := HD.out.lt
      have hd4 : DiskAt w4 p sb mb pl s := HD3.out.mod hm4 (fun e => by have := e.1; omega) (fun e => by have := e.1; omega) (fun e => by have := e.1; omega) (fun b hb e => by have := e.1; have := hlt.2.2.2 b hb; omega)
      have hr4 : RefAt w4 B Bf A c P pn pc s xs fs := ⟨⟨HREF3.out.row.row.mod hm4 (fun b hb e => by obtain ⟨-, cs, hc⟩ := e; exact ok_blk HREF3.out.row.row hc (by decide) b hb rfl), fun i x hx => ⟨(HREF3.out.row.at_ i x hx).safe.mod hm4 (fun b hb e => by obtain ⟨-, cs, hc⟩ := e; exact ob_blk (HREF3.out.row.at_ i x hx).safe hc (by decide) b hb rfl), (HREF3.out.row.at_ i x hx).lo, fun l hl => ((HREF3.out.row.at_ i x hx).now l hl).mod hm4 (fun b hb e => by obtain ⟨-, cs, hc⟩ := e; exact ob_blk ((HREF3.out.row.at_ i x hx).now l hl) hc (by decide) b hb rfl)⟩⟩, HREF3.out.len, HREF3.out.fates.below (hm4.below HREF3.out.fb (fun k e => by have := e.1; omega)), Nat.le_trans HREF3.out.fb hm4.size, HREF3.out.plan⟩
      have hb4 := (Mod.of_below HB3.out (AskS p sb mb w.heap.size)).trans hm4 (fun q _ e => .inr (by have := e.1; omega))
      have hE := askOut_of (n := n) (st := st) (off := off) hd4 hr4 hb4 (Nat.le_trans HB3.out.size hm4.size) (Nat.le_add_right _ 2) HBR4.out (by omega) hbf (fun b e => hd4.ne_pl e HBR4.out) HN.out HS0.out HOFF.out
      exact ⟨hE.2, hE.1⟩)
    go_wp2_with fail
    exact ret_dk2 (b := w.heap.size + 2) rfl rfl rfl hHE.out.2 rfl hHE.out.1)
end Go.Proofs.Ytdghanhpeekbhaa
