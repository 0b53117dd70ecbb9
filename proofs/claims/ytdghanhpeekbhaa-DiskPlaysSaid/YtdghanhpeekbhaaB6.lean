/-
  The walk of skeinref07's On.
-/
import Derived.Test.YtdghanhpeekbhaaB5
namespace Go.Proofs.Ytdghanhpeekbhaa
open Go.RowKit Go.Maps
set_option linter.unusedVariables false

theorem boxes2s (w : World) (a b : Array Value) (ta tb : TypeId) : ∃ W, W = (w.alloc (.cells a ta)).alloc (.cells b tb) ∧ Blk W w.heap.size ta a ∧ Blk W (w.heap.size + 1) tb b ∧ Below w.heap.size w W ∧ W.heap.size = w.heap.size + 2 := by
  have h1 := (Blk.new w ta a).alloc (.cells b tb)
  have h2 := Blk.new (w.alloc (.cells a ta)) tb b
  simp only [size_alloc_] at h2
  exact ⟨_, rfl, h1, h2, ((Below.refl _ w).alloc (Nat.le_refl _) _).alloc (by simp) _, by simp⟩

set_option maxRecDepth 100000 in
set_option maxHeartbeats 2000000 in
theorem refOn_any (w : World) (B : Nat) (A : Option Addr) (n c : Nat) (xs : List Spt) (f : Nat → List Nat × Option (List Nat)) (h : SpRow w B (.slice A n c) xs f) (hn : xs.length = n) (hn4 : n ≤ 4096) (hB : B ≤ w.heap.size) (P : Option Addr) (pn pc st : Nat) (off : Bool) (kv : Value) (ks : List Int) (hk : RI w w.heap.size kv ks) :
    Calls Try.prog 51 #[dkV A n c P pn pc st off, kv] w fun e w' => ∃ A' c' xs', e = .returned (dkV A' n c' P pn pc st false) ∧ SpRow w' B (.slice A' n c') xs' (fun i => (if ks.contains (i : Int) then hasL (f i) else (f i).1, none)) ∧ xs'.length = n ∧ Below w.heap.size w w' := by
  have H := Lib.hid h
  have HN := Lib.hid hn
  have HBW := Lib.hid hB
  have HK := Lib.hid hk
  obtain ⟨KA, kc, rfl, -, -, -, -⟩ := hk.open_
  obtain ⟨kn, hkn⟩ : ∃ kn, kn = ks.length := ⟨_, rfl⟩
  rw [← hkn] at HK ⊢
  obtain ⟨W0, hW0, hb1, hb3, hw0, hz0⟩ := boxes2s w #[.slice A n c, .slice P pn pc, .int .i64 (st : Int), .bool off] #[.slice none 0 0, .slice none 0 0, .int .i64 0, .bool false] 46 46
  have HW0 := Lib.hid hW0
  have HBD := Lib.hid hb1
  have HBR := Lib.hid hb3
  have HB0 := Lib.hid hw0
  have HZ0 := Lib.hid hz0
  unfold dkV
  clear h hn hB hk hkn hW0 hb1 hb3 hw0 hz0
  go_enter Try.func51, Try.ntmps51
  go_wp2_with fail
  rw [← HW0.out]
  have hsz : W0.heap.size = w.heap.size + 1 + 1 := HZ0.out
  try rw [← hsz]
  clear hsz
  go_loopw [5, 6] (fun x q wr => ∃ (k : Nat) (A1 : Option Addr) (c1 : Nat) (ys : List Spt), k ≤ n ∧ q = .int .i64 (k : Int) ∧ x = .slice A1 k c1 ∧ Hid (ys.length = k) ∧ Hid (SpRow wr B (.slice A1 k c1) ys (fun i => (if ks.contains (i : Int) then hasL (f i) else (f i).1, none))) ∧ Hid (∀ b, (Value.slice A1 k c1).ownBlock = some b → W0.heap.size ≤ b) ∧ Hid (Below W0.heap.size W0 wr)) (fun x q wr => n - (intOf q).toNat)
  case atStart => exact ⟨0, _, 0, [], Nat.zero_le _, rfl, rfl, rfl, SpRow.made (Nat.le_trans HBW.out HB0.out.size), Lib.hid (fun b hb => by injection hb with hb; simp at hb; omega), Lib.hid ((Below.refl _ _).alloc (Nat.le_refl _) _)⟩
  case round =>
    obtain ⟨k, A1, c1, ys, hk, rfl, rfl, HYL, HY, HOW, HB⟩ := hrel
    have hbd := HBD.out.below HB.out HBD.out.lt
    have hbr := HBR.out.below HB.out HBR.out.lt
    have D0 : wr.cell? ⟨w.heap.size, 0, none⟩ = some (.slice A n c) := hbd.cell 0
    have HBD1 := Lib.hid hbd
    have HBR1 := Lib.hid hbr
    have HBELOW : Hid (Below w.heap.size w wr) := Lib.hid (HB0.out.trans (HB.out.mono HB0.out.size))
    have HYL1 : Hid (ys.length + 1 ≤ 1000000) := Lib.hid (by rw [HYL.out]; omega)
    have HSZ1 : Hid (B ≤ wr.heap.size) := Lib.hid (Nat.le_trans HBW.out HBELOW.out.size)
    by_cases hlt : k < n
    · obtain ⟨b, o, a1, n1, d1, a2, n2, d2, lo, hg⟩ := ((H.out.below HBELOW.out).get HN.out hlt)
      obtain rfl := hg.eq
      obtain ⟨W5, hW5⟩ : ∃ W5, W5 = wr.alloc (.cells #[.slice a1 n1 d1, .slice none 0 0, .bool false] 87) := ⟨_, rfl⟩
      obtain ⟨q5, hq5⟩ : ∃ q5, q5 = wr.heap.size := ⟨_, rfl⟩
      have hb5 : Below wr.heap.size wr W5 := by rw [hW5]; exact (Below.refl _ _).alloc (Nat.le_refl _) _
      have hB5 : Blk W5 q5 87 #[.slice a1 n1 d1, .slice none 0 0, .bool false] := by rw [hW5, hq5]; exact Blk.new _ _ _
      have hg5 := hg.below hb5
      have e0 : W5.cell? ⟨q5, 0, none⟩ = some (.slice a1 n1 d1) := hB5.cell 0
      have e1 : W5.cell? ⟨q5, 1, none⟩ = some (.slice none 0 0) := hB5.cell 1
      have e2 : W5.cell? ⟨q5, 2, none⟩ = some (.bool false) := hB5.cell 2
      have x0 := hg.x0
      have y0 := hg5.x0
      have y1 := hg5.x1
      have y2 := hg5.x2
      have D5 : W5.cell? ⟨w.heap.size, 0, none⟩ = some (.slice (some ⟨b, o, none⟩) n c) := (hb5.cell (p := ⟨w.heap.size, 0, none⟩) hbd.lt).trans D0
      have HK5 : Hid (RI W5 W5.heap.size (.slice KA kn kc) ks) := Lib.hid (((HK.out.below HBELOW.out).below (hb5.mono HBELOW.out.size)).more (Nat.le_trans HBELOW.out.size hb5.size))
      have HG := Lib.hid hg
      have HG5 := Lib.hid hg5
      have HB5 := Lib.hid hb5
      have HBK5 := Lib.hid hB5
      have HW5 := Lib.hid hW5
      have HQ5 := Lib.hid hq5
      have HSZ5 : Hid (B ≤ W5.heap.size) := Lib.hid (Nat.le_trans HSZ1.out hb5.size)
      have hqb : ¬ q5 = b := by have := hg.lt; omega
      clear hbd hbr hg hg5 hb5 hB5 hW5 hq5
      cases hq : ks.contains (k : Int) with
      | false =>
        have HQ := Lib.hid hq
        clear hq y0 y1 y2 D5
        go_wp2_with fail
        rw [← HW5.out]
        try rw [← HQ5.out]
        refine (Has_any _ ks (k : Int) false HQ.out W5 _ HK5.out).mono ?_
        rintro e w6 ⟨rfl, hw6⟩
        subst hw6
        go_wp2_with (at_builtin; go_must (refine wpList_appSp (HY.out.below HB5.out) (a1 := a1) (n1 := n1) (c1 := d1) (a2 := none) (n2 := 0) (c2 := 0) (lo := false) (by show SptAt _ _ _ (if ks.contains (ys.length : Int) then hasL (f ys.length) else (f ys.length).1, none); rw [HYL.out, HQ.out]; exact ⟨HG5.out.at_.safe, rfl, fun l hl => by cases hl⟩) rfl (.tmp 33) (.tmp 35) rfl rfl rfl HYL1.out HSZ5.out ?_); intro A4 c4 w4 q1 q2 q3; rw [HYL.out] at q1 q3 ⊢; have Q1 := Lib.hid q1; have Q2 := Lib.hid q2; have Q3 := Lib.hid q3; clear q1 q2 q3)
        go_roundw
        case rel =>
          have hz5 := HB5.out.size
          have hzb := HB.out.size
          refine ⟨k + 1, A4, c4, _, by omega, by go_num, rfl, Lib.hid (by simp [HYL.out]), Q1, Lib.hid (fun b hb => ?_), Lib.hid ?_⟩
          · rcases Q3.out b hb with h | h
            · exact HOW.out b h
            · omega
          · exact (((Mod.of_below (HB.out.trans (HB5.out.mono hzb)) (fun q => W0.heap.size ≤ q)).trans Q2.out (fun q _ e => HOW.out q e.symm)).below (Nat.le_refl _) (fun _ h => h))
        case measure => simp [intOf]; omega
      | true =>
        have HQ := Lib.hid hq
        clear hq e0
        go_wp2_with fail
        rw [← HW5.out]
        try rw [← HQ5.out]
        refine (Has_any _ ks (k : Int) true HQ.out W5 _ HK5.out).mono ?_
        rintro e w6 ⟨rfl, hw6⟩
        subst hw6
        go_wp2_with fail
        refine (has_at W5 B a1 a2 n1 n2 d1 d2 lo _ HG5.out.at_).mono ?_
        rintro e w7 ⟨⟨a3, n3, d3⟩, rfl, ho7, hb7⟩
        have hb7k := HBK5.out.below hb7 HBK5.out.lt
        have g1 : w7.cell? ⟨q5, 1, none⟩ = some (.slice none 0 0) := hb7k.cell 1
        have g2 : w7.cell? ⟨q5, 2, none⟩ = some (.bool false) := hb7k.cell 2
        have g0 : w7.cell? ⟨q5, 0, none⟩ = some (.slice a1 n1 d1) := hb7k.cell 0
        have gf : w7.frozen? ⟨q5, 0, none⟩ = false := hb7k.frozen 0
        have hz5 := HB5.out.size
        have hz7 := hb7.size
        have hq5 := HQ5.out
        have hm7 : Mod (fun q => q = q5) w7 (w7.setCell ⟨q5, 0, none⟩ (.slice a3 n3 d3)) := (Mod.refl (fun q => q = q5) w7).setCell (p := ⟨q5, 0, none⟩) (fun _ => rfl) _
        have HO7 : Hid (OB (w7.setCell ⟨q5, 0, none⟩ (.slice a3 n3 d3)) B (slW (a3, n3, d3)) (hasL (f k))) := Lib.hid (ho7.mod hm7 (ob_blk ho7 hb7k (by decide)))
        have hwr7 : Below wr.heap.size wr (w7.setCell ⟨q5, 0, none⟩ (.slice a3 n3 d3)) := (HB5.out.trans (hb7.mono hz5)).setCell (p := ⟨q5, 0, none⟩) (by show wr.heap.size ≤ q5; omega) _
        have HWR7 := Lib.hid hwr7
        have HSZ7 : Hid (B ≤ (w7.setCell ⟨q5, 0, none⟩ (.slice a3 n3 d3)).heap.size) := Lib.hid (Nat.le_trans HSZ1.out hwr7.size)
        clear ho7 hb7 hb7k hm7 hwr7 hq5 e1 e2 y0 y1 y2
        go_wp2_with (at_builtin; go_must (refine wpList_appSp (HY.out.below HWR7.out) (a1 := a3) (n1 := n3) (c1 := d3) (a2 := none) (n2 := 0) (c2 := 0) (lo := false) (by show SptAt _ _ _ (if ks.contains (ys.length : Int) then hasL (f ys.length) else (f ys.length).1, none); rw [HYL.out, HQ.out]; exact ⟨HO7.out, rfl, fun l hl => by cases hl⟩) rfl (.tmp 33) (.tmp 35) rfl rfl (by rw [show (w7.setCell ⟨q5, 0, none⟩ (.slice a3 n3 d3)).heap.size = w7.heap.size by simp]; rfl) HYL1.out HSZ7.out ?_); intro A4 c4 w4 q1 q2 q3; rw [HYL.out] at q1 q3 ⊢; have Q1 := Lib.hid q1; have Q2 := Lib.hid q2; have Q3 := Lib.hid q3; clear q1 q2 q3)
        go_roundw
        case rel =>
          have hzb := HB.out.size
          have hzw := HWR7.out.size
          refine ⟨k + 1, A4, c4, _, by omega, by go_num, rfl, Lib.hid (by simp [HYL.out]), Q1, Lib.hid (fun b hb => ?_), Lib.hid ?_⟩
          · rcases Q3.out b hb with h | h
            · exact HOW.out b h
            · omega
          · exact (((Mod.of_below (HB.out.trans (HWR7.out.mono hzb)) (fun q => W0.heap.size ≤ q)).trans Q2.out (fun q _ e => HOW.out q e.symm)).below (Nat.le_refl _) (fun _ h => h))
        case measure => simp [intOf]; omega
    · obtain rfl : k = n := by omega
      have D1 : wr.cell? ⟨w.heap.size, 1, none⟩ = some (.slice P pn pc) := hbd.cell 1
      have D2 : wr.cell? ⟨w.heap.size, 2, none⟩ = some (.int .i64 (st : Int)) := hbd.cell 2
      have D3 : wr.cell? ⟨w.heap.size, 3, none⟩ = some (.bool off) := hbd.cell 3
      have R0 : wr.cell? ⟨w.heap.size + 1, 0, none⟩ = some (.slice none 0 0) := hbr.cell 0
      have R1 : wr.cell? ⟨w.heap.size + 1, 1, none⟩ = some (.slice none 0 0) := hbr.cell 1
      have R2 : wr.cell? ⟨w.heap.size + 1, 2, none⟩ = some (.int .i64 0) := hbr.cell 2
      have R3 : wr.cell? ⟨w.heap.size + 1, 3, none⟩ = some (.bool false) := hbr.cell 3
      have F0 : ∀ j, wr.frozen? ⟨w.heap.size + 1, j, none⟩ = false := hbr.frozen
      have F1 : ∀ j, wr.frozen? ⟨w.heap.size, j, none⟩ = false := hbd.frozen
      clear hbd hbr
      go_wp2_with fail
      refine ret_disk7 (b := w.heap.size + 1) rfl rfl ((((((HBR1.out.far (p := ⟨w.heap.size, 0, none⟩) (by show w.heap.size + 1 ≠ w.heap.size; omega) (.slice A1 k c1)).far (p := ⟨w.heap.size, 3, none⟩) (by show w.heap.size + 1 ≠ w.heap.size; omega) (.bool false)).set_ 0 (.slice A1 k c1)).set_ 1 (.slice P pn pc)).set_ 2 (.int .i64 (st : Int))).set_ 3 (.bool false)) rfl ?_
      have hm : Mod (fun q => q = w.heap.size ∨ q = w.heap.size + 1) wr ((((((wr.setCell ⟨w.heap.size, 0, none⟩ (.slice A1 k c1)).setCell ⟨w.heap.size, 3, none⟩ (.bool false)).setCell ⟨w.heap.size + 1, 0, none⟩ (.slice A1 k c1)).setCell ⟨w.heap.size + 1, 1, none⟩ (.slice P pn pc)).setCell ⟨w.heap.size + 1, 2, none⟩ (.int .i64 (st : Int))).setCell ⟨w.heap.size + 1, 3, none⟩ (.bool false)) :=
        ((((((Mod.refl (fun q => q = w.heap.size ∨ q = w.heap.size + 1) wr).setCell (p := ⟨w.heap.size, 0, none⟩) (fun _ => .inl rfl) _).setCell (p := ⟨w.heap.size, 3, none⟩) (fun _ => .inl rfl) _).setCell (p := ⟨w.heap.size + 1, 0, none⟩) (fun _ => .inr rfl) _).setCell (p := ⟨w.heap.size + 1, 1, none⟩) (fun _ => .inr rfl) _).setCell (p := ⟨w.heap.size + 1, 2, none⟩) (fun _ => .inr rfl) _).setCell (p := ⟨w.heap.size + 1, 3, none⟩) (fun _ => .inr rfl) _
      refine ⟨A1, c1, ys, rfl, HY.out.modT hm (fun q e => ?_), HYL.out, ?_⟩
      · rcases e with rfl | rfl
        · exact ⟨_, HBD1.out⟩
        · exact ⟨_, HBR1.out⟩
      · exact ((Mod.of_below HBELOW.out (fun q => w.heap.size ≤ q)).trans hm (fun q _ e => by rcases e with e | e <;> omega)).below (Nat.le_refl _) (fun _ h => h)
end Go.Proofs.Ytdghanhpeekbhaa
