/-
  The walk of skeinref07's Load.
-/
import Derived.Test.YtdghanhpeekbhaaB5
namespace Go.Proofs.Ytdghanhpeekbhaa
open Go.RowKit Go.Maps
set_option linter.unusedVariables false

theorem piece_full (L : List Nat) (k : Nat) : (piece L (k * 512) ((k + 1) * 512)).take 512 = (L.drop (k * 512)).take 512 := by
  unfold piece
  rw [List.drop_take, List.take_take]
  congr 1
  omega
theorem piece_at (w : World) (v : Value) (l : List Nat) (hv : RB w w.heap.size v l) (lo hi : Nat) (loi hii : Int) (h1 : loi = (lo : Int)) (h2 : hii = (hi : Int)) (hlo : lo ≤ 9223372036854775806) (hhi : hi ≤ 9223372036854775807) :
    Calls Try.prog 33 #[v, .int .i64 loi, .int .i64 hii] w fun e w' => ∃ v', e = .returned v' ∧ OB w' w.heap.size v' (piece l lo hi) ∧ Below w.heap.size w w' := by
  subst h1 h2
  exact piece_any v l lo hi w hv hlo hhi
def loadF (L : List Nat) (i : Nat) : List Nat × Option (List Nat) := (pad ((L.drop (i * 512)).take 512), none)

set_option maxRecDepth 100000 in
set_option maxHeartbeats 4000000 in
theorem refLoad_any (w : World) (v : Value) (L : List Nat) (hv : RB w w.heap.size v L) :
    Calls Try.prog 16 #[v] w fun e w' => ∃ A c xs, e = .returned (dkV A (secsOf L) c none 0 0 0 false) ∧ SpRow w' w.heap.size (.slice A (secsOf L) c) xs (loadF L) ∧ xs.length = secsOf L ∧ Below w.heap.size w w' := by
  obtain ⟨LA, lc, rfl, -, -, hln, -⟩ := hv.open_
  obtain ⟨ln, hl⟩ : ∃ ln, ln = L.length := ⟨_, rfl⟩
  obtain ⟨n, hn⟩ : ∃ n, n = secsOf L := ⟨_, rfl⟩
  rw [← hl] at hv hln ⊢
  rw [← hn]
  have hn2 : n = min ((ln + 511) / 512) 4096 := by rw [hn, hl]; rfl
  have HV := Lib.hid hv
  have HNE := Lib.hid hn2
  obtain ⟨W0, hW0, hb1, hb2, hw0, hz0⟩ : ∃ W, W = (w.alloc (.cells #[.slice none 0 0, .slice none 0 0, .int .i64 0, .bool false] 46)).alloc (.cells #[.slice none 0 0, .slice none 0 0, .int .i64 0, .bool false] 46) ∧ Blk W w.heap.size 46 #[.slice none 0 0, .slice none 0 0, .int .i64 0, .bool false] ∧ Blk W (w.heap.size + 1) 46 #[.slice none 0 0, .slice none 0 0, .int .i64 0, .bool false] ∧ Below w.heap.size w W ∧ W.heap.size = w.heap.size + 2 :=
    ⟨_, rfl, (Blk.new w _ _).alloc _, boxes2 w _ _ _ _, ((Below.refl _ _).alloc (Nat.le_refl _) _).alloc (by simp) _, by simp⟩
  have HW0 := Lib.hid hW0
  have HR0 := Lib.hid hb1
  have HD0 := Lib.hid hb2
  have HB0 := Lib.hid hw0
  have HZ0 := Lib.hid hz0
  unfold dkV
  clear hv hl hn hn2 hW0 hb1 hb2 hw0 hz0
  go_enter Try.func16, Try.ntmps16
  go_wp2_with fail
  rw [← HW0.out]
  go_loopw [4] (fun i wr => ∃ (k : Nat) (A1 : Option Addr) (c1 : Nat) (ys : List Spt), i = .int .i64 (k : Int) ∧ k ≤ n ∧ Hid (ys.length = k) ∧ Hid (Blk wr (w.heap.size + 1) 46 #[.slice A1 k c1, .slice none 0 0, .int .i64 0, .bool false]) ∧ Hid (Blk wr w.heap.size 46 #[.slice none 0 0, .slice none 0 0, .int .i64 0, .bool false]) ∧ Hid (SpRow wr (w.heap.size + 2) (.slice A1 k c1) ys (loadF L)) ∧ Hid (Below w.heap.size w wr)) (fun i wr => n - (intOf i).toNat)
  case atStart => exact ⟨0, none, 0, [], rfl, Nat.zero_le _, rfl, HD0, HR0, SpRow.nil _ _, HB0⟩
  case round =>
    obtain ⟨k, A1, c1, ys, rfl, hk, HYL, HBL, HRL, HO, HB⟩ := hrel
    have hwz := HBL.out.lt
    have hne := HNE.out
    by_cases hlt : k < n
    · have hlt2 : (k : Int) < 4096 := by omega
      have hl4 : (k : Int) * 512 < (ln : Int) := by omega
      have hd4 : decide ((k : Int) * 512 < (ln : Int)) = true := by simpa using hl4
      have hw5 : IntKind.i64.wrap ((k : Int) * 512) = (k : Int) * 512 := by rw [IntKind.wrap_i64]; omega
      have hw6 : IntKind.i64.wrap ((k : Int) + 1) = (k : Int) + 1 := by rw [IntKind.wrap_i64]; omega
      have hw7 : IntKind.i64.wrap (((k : Int) + 1) * 512) = ((k : Int) + 1) * 512 := by rw [IntKind.wrap_i64]; omega
      have c0 : wr.cell? ⟨w.heap.size + 1, 0, none⟩ = some (.slice A1 k c1) := HBL.out.cell 0
      have HZB : Hid (w.heap.size + 2 ≤ wr.heap.size) := Lib.hid (by omega)
      have RVD : Hid (RB wr.drew wr.drew.heap.size (.slice LA ln lc) L) := Lib.hid (RB.drew ((HV.out.below HB.out).more HB.out.size))
      clear hne
      go_wp2_with fail
      go_region_law (first
        | (go_simp; go_at_call 33; refine (piece_at _ _ L RVD.out (k * 512) ((k + 1) * 512) _ _ (by omega) (by omega) (by omega) (by omega)).mono ?_; rintro e W1 ⟨v1, rfl, ho1, hb1⟩; have HP1 := Lib.hid ho1.rbn; have HB1 : Hid (Below wr.heap.size wr W1) := ⟨hb1.os, hb1.tape, hb1.output, hb1.size, hb1.block⟩; have k1 : W1.cell? ⟨w.heap.size + 1, 0, none⟩ = some (.slice A1 k c1) := (HB1.out.cell (p := ⟨w.heap.size + 1, 0, none⟩) hwz).trans c0; clear ho1 hb1)
        | (go_simp; go_at_call 46; refine (full_any _ _ W1 HP1.out).mono ?_; rw [piece_full]; rintro e W2 ⟨v2, rfl, ho2, hb2⟩; obtain ⟨PA, pc, hpe, -, -, -, -⟩ := ho2.rbn.open_; obtain ⟨pn, hpn⟩ : ∃ pn, pn = (pad ((L.drop (k * 512)).take 512)).length := ⟨_, rfl⟩; rw [← hpn] at hpe; subst hpe; have HS2 : Hid (SptAt W2 (w.heap.size + 2) ⟨(PA, pn, pc), (none, 0, 0), false⟩ (loadF L k)) := Lib.hid ⟨ho2.base (Nat.le_trans HZB.out HB1.out.size), rfl, fun l hl => by cases hl⟩; have HB2 : Hid (Below wr.heap.size wr W2) := Lib.hid (HB1.out.trans (hb2.mono HB1.out.size)); have k2 : W2.cell? ⟨w.heap.size + 1, 0, none⟩ = some (.slice A1 k c1) := (HB2.out.cell (p := ⟨w.heap.size + 1, 0, none⟩) hwz).trans c0; have HZ2 : Hid (w.heap.size + 1 < W2.heap.size) := Lib.hid (Nat.lt_of_lt_of_le hwz HB2.out.size); have k2a : (W2.alloc (.cells #[.slice PA pn pc, .slice none 0 0, .bool false] 87)).cell? ⟨w.heap.size + 1, 0, none⟩ = some (.slice A1 k c1) := (((Below.refl _ W2).alloc (Nat.le_refl _) _).cell (p := ⟨w.heap.size + 1, 0, none⟩) HZ2.out).trans k2; clear ho2 hb2 hpn)
        | (refine step_app1 etSpots encSp_len encSp_one rfl (.tmp 18) (.tmp 28) rfl rfl ((HO.out.row.below HB2.out).alloc _) W2.heap.size rfl (y := (⟨(PA, pn, pc), (none, 0, 0), false⟩ : Spt)) (by intro j u hu; rw [(Blk.new W2 _ _).cell j]; simpa [encSp] using hu) (by rw [HYL.out]; omega) (by have := HZ2.out; simp; omega) ?_; intro v' W3 h1 h2 h3; obtain ⟨A3, c3, rfl, _, _, _, _⟩ := (h1.rk encSp_len (Nat.le_refl _)).open_; have H1 := Lib.hid h1; have HM3 : Hid (Mod (fun q => some q = (Value.slice A1 k c1).ownBlock) W2 W3) := Lib.hid (((Mod.refl _ W2).alloc _).trans' (Mod.of_grown h2)); have HB3 : Hid (Below (w.heap.size + 2) W2 W3) := Lib.hid (HM3.out.below (by have := HZ2.out; omega) (fun q e => (HO.out.row.lt q e.symm).1)); have hk3 : W3.cell? ⟨w.heap.size + 1, 0, none⟩ = some (.slice A1 k c1) := (HB3.out.cell (p := ⟨w.heap.size + 1, 0, none⟩) (by show w.heap.size + 1 < _; omega)).trans k2; have hf3 : W3.frozen? ⟨w.heap.size + 1, 0, none⟩ = false := ((HBL.out.below HB2.out HBL.out.lt).below HB3.out (by omega)).frozen 0; clear h1 h2 h3))
      all_goals (
        have hz2 := HB2.out.size
        have hz3 := HB3.out.size
        have hzb := HB.out.size
        have hw23 : Below w.heap.size w W3 := (HB.out.trans (HB2.out.mono hzb)).trans (HB3.out.mono (by omega))
        have hbl3 := (HBL.out.below HB2.out HBL.out.lt).below HB3.out (by omega)
        have hyl : (ys ++ [(⟨(PA, pn, pc), (none, 0, 0), false⟩ : Spt)]).length = k + 1 := by simp [HYL.out]
        have HYL3 := Lib.hid hyl
        rw [hyl] at H1
        have hsp : SpRow W3 (w.heap.size + 2) (.slice A3 (k + 1) c3) (ys ++ [(⟨(PA, pn, pc), (none, 0, 0), false⟩ : Spt)]) (loadF L) := (HO.out.below HB2.out).snoc (by rw [HYL.out]; exact HS2.out) H1.out HM3.out
        have hm4 : Mod (fun q => q = w.heap.size + 1) W3 (W3.setCell ⟨w.heap.size + 1, 0, none⟩ (.slice A3 (k + 1) c3)) := (Mod.refl (fun q => q = w.heap.size + 1) W3).setCell (p := ⟨w.heap.size + 1, 0, none⟩) (fun _ => rfl) _
        have HO4 := Lib.hid (hsp.modT hm4 (fun q e => by subst e; exact ⟨_, hbl3⟩))
        have HBL4 := Lib.hid (hbl3.set_ 0 (.slice A3 (k + 1) c3))
        have HRL4 := Lib.hid (((HRL.out.below HB2.out HRL.out.lt).below HB3.out (by omega)).far (p := ⟨w.heap.size + 1, 0, none⟩) (show w.heap.size ≠ w.heap.size + 1 by omega) (.slice A3 (k + 1) c3))
        have HB4 := Lib.hid (((Mod.of_below hw23 (fun q => w.heap.size ≤ q)).trans hm4 (fun q _ e => by omega)).below (Nat.le_refl _) (fun _ h => h))
        have hEQ : (⟨w.heap.size + 1, 0, none⟩ : Addr).block = w.heap.size + 1 := rfl
        clear hz2 hz3 hzb hw23 hbl3 hyl hsp hm4 k1 k2 k2a c0 hEQ
        rw [HYL.out]
        try go_frame
        go_wp2
        go_roundw
        case rel => exact ⟨k + 1, A3, c3, _, by go_num, by omega, HYL3, HBL4, HRL4, HO4, HB4⟩
        case measure => simp [intOf]; omega)
    · obtain rfl : k = n := by omega
      have d0 : wr.cell? ⟨w.heap.size + 1, 0, none⟩ = some (.slice A1 k c1) := HBL.out.cell 0
      have d1 : wr.cell? ⟨w.heap.size + 1, 1, none⟩ = some (.slice none 0 0) := HBL.out.cell 1
      have d2 : wr.cell? ⟨w.heap.size + 1, 2, none⟩ = some (.int .i64 0) := HBL.out.cell 2
      have d3 : wr.cell? ⟨w.heap.size + 1, 3, none⟩ = some (.bool false) := HBL.out.cell 3
      have r0 : wr.cell? ⟨w.heap.size, 0, none⟩ = some (.slice none 0 0) := HRL.out.cell 0
      have r1 : wr.cell? ⟨w.heap.size, 1, none⟩ = some (.slice none 0 0) := HRL.out.cell 1
      have r2 : wr.cell? ⟨w.heap.size, 2, none⟩ = some (.int .i64 0) := HRL.out.cell 2
      have r3 : wr.cell? ⟨w.heap.size, 3, none⟩ = some (.bool false) := HRL.out.cell 3
      have f0 : ∀ i, wr.frozen? ⟨w.heap.size, i, none⟩ = false := HRL.out.frozen
      have hm : Mod (fun q => q = w.heap.size) wr ((((wr.setCell ⟨w.heap.size, 0, none⟩ (.slice A1 k c1)).setCell ⟨w.heap.size, 1, none⟩ (.slice none 0 0)).setCell ⟨w.heap.size, 2, none⟩ (.int .i64 0)).setCell ⟨w.heap.size, 3, none⟩ (.bool false)) := ((((Mod.refl (fun q => q = w.heap.size) wr).setCell (p := ⟨w.heap.size, 0, none⟩) (fun _ => rfl) (.slice A1 k c1)).setCell (p := ⟨w.heap.size, 1, none⟩) (fun _ => rfl) (.slice none 0 0)).setCell (p := ⟨w.heap.size, 2, none⟩) (fun _ => rfl) (.int .i64 0)).setCell (p := ⟨w.heap.size, 3, none⟩) (fun _ => rfl) (.bool false)
      have HM := Lib.hid hm
      have HEND : Hid (SpRow _ w.heap.size (.slice A1 k c1) ys (loadF L) ∧ Below w.heap.size w _) := Lib.hid ⟨(HO.out.modT hm (fun q e => by subst e; exact ⟨_, HRL.out⟩)).base (by omega), ((Mod.of_below HB.out (fun q => w.heap.size ≤ q)).trans hm (fun q _ e => by omega)).below (Nat.le_refl _) (fun _ h => h)⟩
      clear hm
      by_cases h4 : k < 4096
      · have h5 : ¬ (k : Int) * 512 < (ln : Int) := by omega
        have h5d : decide ((k : Int) * 512 < (ln : Int)) = false := by simpa using h5
        have h4i : (k : Int) < 4096 := by omega
        have hw5 : IntKind.i64.wrap ((k : Int) * 512) = (k : Int) * 512 := by rw [IntKind.wrap_i64]; omega
        clear hne
        go_wp2_with fail
        refine ret_disk7 (b := w.heap.size) rfl rfl ((((HRL.out.set_ 0 (.slice A1 k c1)).set_ 1 (.slice none 0 0)).set_ 2 (.int .i64 0)).set_ 3 (.bool false)) rfl ?_
        exact ⟨A1, c1, rfl, ys, HEND.out.1, HYL.out, HEND.out.2⟩
      · have h4i : ¬ (k : Int) < 4096 := by omega
        clear hne
        go_wp2_with fail
        refine ret_disk7 (b := w.heap.size) rfl rfl ((((HRL.out.set_ 0 (.slice A1 k c1)).set_ 1 (.slice none 0 0)).set_ 2 (.int .i64 0)).set_ 3 (.bool false)) rfl ?_
        exact ⟨A1, c1, rfl, ys, HEND.out.1, HYL.out, HEND.out.2⟩
end Go.Proofs.Ytdghanhpeekbhaa
