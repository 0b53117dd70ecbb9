/-
  The walk of skeinref07's put.
-/
import Derived.Test.YtdghanhpeekbhaaB4
namespace Go.Proofs.Ytdghanhpeekbhaa
open Go.RowKit Go.Maps
set_option linter.unusedVariables false

theorem ob_blk {w : World} {B g : Nat} {t : TypeId} {cs : Array Value} {u : Value} {l : List Nat} (h' : OB w B u l) (hb : Blk w g t cs) (ht : (5 : TypeId) ≠ t) : ∀ b, u.ownBlock = some b → b ≠ g := by
  intro b hb2 e
  rcases h'.2.2.2 with ⟨rfl, _⟩ | ⟨g', cap', cur', rfl, hbg', hg', _⟩
  · cases hb2
  · have e1 : g' = b := by injection hb2
    unfold Blk at hb
    rw [e1, e, hb] at hg'
    injection hg' with hg'
    injection hg' with _ hg'
    exact absurd hg'.symm ht
theorem ok_blk {α : Type} {enc : α → List Value} {k E : Nat} {w : World} {B g : Nat} {t : TypeId} {cs : Array Value} {v : Value} {xs : List α} (h : OK enc k E w B v xs) (hb : Blk w g t cs) (ht : E ≠ t) : ∀ b, v.ownBlock = some b → b ≠ g := by
  intro b hb2 e
  rcases h.2.2 with ⟨rfl, _⟩ | ⟨g', cap', cur', rfl, hbg', hg', _⟩
  · cases hb2
  · have e1 : g' = b := by injection hb2
    unfold Blk at hb
    rw [e1, e, hb] at hg'
    injection hg' with hg'
    injection hg' with _ hg'
    exact absurd hg'.symm ht
theorem SpRow.modT {w w' : World} {B : Nat} {v : Value} {xs : List Spt} {f : Nat → List Nat × Option (List Nat)} {S : Nat → Prop} (h : SpRow w B v xs f) (hm : Mod S w w') (hs : ∀ q, S q → ∃ cs, Blk w q 46 cs) : SpRow w' B v xs f := by
  have h1 : ∀ {u : Value} {l : List Nat}, OB w B u l → ∀ b, u.ownBlock = some b → ¬ S b := fun hu b hb e => by
    obtain ⟨cs, hc⟩ := hs b e
    exact ob_blk hu hc (by decide) b hb rfl
  refine ⟨h.row.mod hm (fun b hb e => ?_), fun i x hx => ⟨(h.at_ i x hx).safe.mod hm (h1 (h.at_ i x hx).safe), (h.at_ i x hx).lo, fun l hl => ((h.at_ i x hx).now l hl).mod hm (h1 ((h.at_ i x hx).now l hl))⟩⟩
  obtain ⟨cs, hc⟩ := hs b e
  exact ok_blk h.row hc (by decide) b hb rfl

set_option maxRecDepth 100000 in
set_option maxHeartbeats 2000000 in
theorem put_any (w : World) (B : Nat) (A : Option Addr) (n c : Nat) (xs : List Spt) (f : Nat → List Nat × Option (List Nat)) (h : SpRow w B (.slice A n c) xs f) (hn : xs.length = n) (hn4 : n ≤ 4096) (hB : B ≤ w.heap.size) (P : Option Addr) (pn pc st : Nat) (off : Bool) (i : Nat) (a1 a2 : Option Addr) (n1 n2 d1 d2 : Nat) (lo : Bool) (g : List Nat × Option (List Nat)) (hy : SptAt w B ⟨(a1, n1, d1), (a2, n2, d2), lo⟩ g) :
    Calls Try.prog 78 #[dkV A n c P pn pc st off, .int .i64 (i : Int), .agg #[.slice a1 n1 d1, .slice a2 n2 d2, .bool lo]] w fun e w' => ∃ A' c' xs', e = .returned (dkV A' n c' P pn pc st off) ∧ SpRow w' B (.slice A' n c') xs' (fun k => if k = i then g else f k) ∧ xs'.length = n ∧ Below w.heap.size w w' := by
  have H := Lib.hid h
  have HN := Lib.hid hn
  have HBW := Lib.hid hB
  have HY0 := Lib.hid hy
  obtain ⟨W0, hW0, hb1, hb2, hb3, hw0, hz0⟩ := boxes3s w #[.slice A n c, .slice P pn pc, .int .i64 (st : Int), .bool off] #[.slice a1 n1 d1, .slice a2 n2 d2, .bool lo] #[.slice none 0 0, .slice none 0 0, .int .i64 0, .bool false] 46 87 46
  have HW0 := Lib.hid hW0
  have HBD := Lib.hid hb1
  have HBS := Lib.hid hb2
  have HBR := Lib.hid hb3
  have HB0 := Lib.hid hw0
  have HZ0 := Lib.hid hz0
  unfold dkV
  clear h hn hB hy hW0 hb1 hb2 hb3 hw0 hz0
  go_enter Try.func78, Try.ntmps78
  go_wp2_with fail
  rw [← HW0.out]
  have hsz : W0.heap.size = w.heap.size + 1 + 1 + 1 := HZ0.out
  try rw [← hsz]
  clear hsz
  go_loopw [7, 8] (fun x q wr => ∃ (k : Nat) (A1 : Option Addr) (c1 : Nat) (ys : List Spt), k ≤ n ∧ q = .int .i64 (k : Int) ∧ x = .slice A1 k c1 ∧ Hid (ys.length = k) ∧ Hid (SpRow wr B (.slice A1 k c1) ys (fun k => if k = i then g else f k)) ∧ Hid (∀ b, (Value.slice A1 k c1).ownBlock = some b → W0.heap.size ≤ b) ∧ Hid (Below W0.heap.size W0 wr)) (fun x q wr => n - (intOf q).toNat)
  case atStart => exact ⟨0, _, 0, [], Nat.zero_le _, rfl, rfl, rfl, SpRow.made (Nat.le_trans HBW.out HB0.out.size), Lib.hid (fun b hb => by injection hb with hb; simp at hb; omega), Lib.hid ((Below.refl _ _).alloc (Nat.le_refl _) _)⟩
  case round =>
    obtain ⟨k, A1, c1, ys, hk, rfl, rfl, HYL, HY, HOW, HB⟩ := hrel
    have hbd := HBD.out.below HB.out HBD.out.lt
    have hbs := HBS.out.below HB.out HBS.out.lt
    have hbr := HBR.out.below HB.out HBR.out.lt
    have D0 : wr.cell? ⟨w.heap.size, 0, none⟩ = some (.slice A n c) := hbd.cell 0
    have HBD1 := Lib.hid hbd
    have HBR1 := Lib.hid hbr
    have HBELOW : Hid (Below w.heap.size w wr) := Lib.hid (HB0.out.trans (HB.out.mono HB0.out.size))
    have HYL1 : Hid (ys.length + 1 ≤ 1000000) := Lib.hid (by rw [HYL.out]; omega)
    have HSZ1 : Hid (B ≤ wr.heap.size) := Lib.hid (Nat.le_trans HBW.out HBELOW.out.size)
    by_cases hlt : k < n
    · by_cases hki : k = i
      · have hki2 : ((k : Int) == (i : Int)) = true := by simp; omega
        have S0 : wr.cell? ⟨w.heap.size + 1, 0, none⟩ = some (.slice a1 n1 d1) := hbs.cell 0
        have S1 : wr.cell? ⟨w.heap.size + 1, 1, none⟩ = some (.slice a2 n2 d2) := hbs.cell 1
        have S2 : wr.cell? ⟨w.heap.size + 1, 2, none⟩ = some (.bool lo) := hbs.cell 2
        have HKI := Lib.hid hki
        clear hbd hbs hbr hki
        go_wp2_with (at_builtin; go_must (refine wpList_appSp HY.out (a1 := a1) (n1 := n1) (c1 := d1) (a2 := a2) (n2 := n2) (c2 := d2) (lo := lo) (by show SptAt _ _ _ (if ys.length = i then g else f ys.length); rw [HYL.out, if_pos HKI.out]; exact HY0.out.below HBELOW.out) rfl (.tmp 20) (.tmp 22) rfl rfl rfl HYL1.out HSZ1.out ?_); intro A4 c4 w4 q1 q2 q3; rw [HYL.out] at q1 q3 ⊢; have Q1 := Lib.hid q1; have Q2 := Lib.hid q2; have Q3 := Lib.hid q3; clear q1 q2 q3)
        go_roundw
        case rel =>
          refine ⟨k + 1, A4, c4, _, by omega, by go_num, rfl, Lib.hid (by simp [HYL.out]), Q1, Lib.hid (fun b hb => ?_), Lib.hid ?_⟩
          · rcases Q3.out b hb with h | h
            · exact HOW.out b h
            · have := HB.out.size; omega
          · exact (((Mod.of_below HB.out (fun q => W0.heap.size ≤ q)).trans Q2.out (fun q _ e => HOW.out q e.symm)).below (Nat.le_refl _) (fun _ h => h))
        case measure => simp [intOf]; omega
      · have hki2 : ((k : Int) == (i : Int)) = false := by simp; omega
        obtain ⟨b, o, b1, m1, e1, b2, m2, e2, lo2, hg⟩ := ((H.out.below HBELOW.out).get HN.out hlt)
        obtain rfl := hg.eq
        have x0 := hg.x0
        have x1 := hg.x1
        have x2 := hg.x2
        have HG := Lib.hid hg
        have HKI := Lib.hid hki
        clear hg hbd hbs hbr hki
        go_wp2_with (at_builtin; go_must (refine wpList_appSp HY.out (a1 := b1) (n1 := m1) (c1 := e1) (a2 := b2) (n2 := m2) (c2 := e2) (lo := lo2) (by show SptAt _ _ _ (if ys.length = i then g else f ys.length); rw [HYL.out, if_neg HKI.out]; exact HG.out.at_) rfl (.tmp 24) (.tmp 30) rfl rfl rfl HYL1.out HSZ1.out ?_); intro A4 c4 w4 q1 q2 q3; rw [HYL.out] at q1 q3 ⊢; have Q1 := Lib.hid q1; have Q2 := Lib.hid q2; have Q3 := Lib.hid q3; clear q1 q2 q3)
        go_roundw
        case rel =>
          refine ⟨k + 1, A4, c4, _, by omega, by go_num, rfl, Lib.hid (by simp [HYL.out]), Q1, Lib.hid (fun b hb => ?_), Lib.hid ?_⟩
          · rcases Q3.out b hb with h | h
            · exact HOW.out b h
            · have := HB.out.size; omega
          · exact (((Mod.of_below HB.out (fun q => W0.heap.size ≤ q)).trans Q2.out (fun q _ e => HOW.out q e.symm)).below (Nat.le_refl _) (fun _ h => h))
        case measure => simp [intOf]; omega
    · obtain rfl : k = n := by omega
      have D1 : wr.cell? ⟨w.heap.size, 1, none⟩ = some (.slice P pn pc) := hbd.cell 1
      have D2 : wr.cell? ⟨w.heap.size, 2, none⟩ = some (.int .i64 (st : Int)) := hbd.cell 2
      have D3 : wr.cell? ⟨w.heap.size, 3, none⟩ = some (.bool off) := hbd.cell 3
      have R0 : wr.cell? ⟨w.heap.size + 2, 0, none⟩ = some (.slice none 0 0) := hbr.cell 0
      have R1 : wr.cell? ⟨w.heap.size + 2, 1, none⟩ = some (.slice none 0 0) := hbr.cell 1
      have R2 : wr.cell? ⟨w.heap.size + 2, 2, none⟩ = some (.int .i64 0) := hbr.cell 2
      have R3 : wr.cell? ⟨w.heap.size + 2, 3, none⟩ = some (.bool false) := hbr.cell 3
      have F0 : ∀ j, wr.frozen? ⟨w.heap.size + 2, j, none⟩ = false := hbr.frozen
      have F1 : ∀ j, wr.frozen? ⟨w.heap.size, j, none⟩ = false := hbd.frozen
      clear hbd hbs hbr
      go_wp2_with fail
      refine ret_disk7 (b := w.heap.size + 2) rfl rfl (((((HBR1.out.far (p := ⟨w.heap.size, 0, none⟩) (by show w.heap.size + 2 ≠ w.heap.size; omega) (.slice A1 k c1)).set_ 0 (.slice A1 k c1)).set_ 1 (.slice P pn pc)).set_ 2 (.int .i64 (st : Int))).set_ 3 (.bool off)) rfl ?_
      have hm : Mod (fun q => q = w.heap.size ∨ q = w.heap.size + 2) wr (((((wr.setCell ⟨w.heap.size, 0, none⟩ (.slice A1 k c1)).setCell ⟨w.heap.size + 2, 0, none⟩ (.slice A1 k c1)).setCell ⟨w.heap.size + 2, 1, none⟩ (.slice P pn pc)).setCell ⟨w.heap.size + 2, 2, none⟩ (.int .i64 (st : Int))).setCell ⟨w.heap.size + 2, 3, none⟩ (.bool off)) :=
        (((((Mod.refl (fun q => q = w.heap.size ∨ q = w.heap.size + 2) wr).setCell (p := ⟨w.heap.size, 0, none⟩) (fun _ => .inl rfl) _).setCell (p := ⟨w.heap.size + 2, 0, none⟩) (fun _ => .inr rfl) _).setCell (p := ⟨w.heap.size + 2, 1, none⟩) (fun _ => .inr rfl) _).setCell (p := ⟨w.heap.size + 2, 2, none⟩) (fun _ => .inr rfl) _).setCell (p := ⟨w.heap.size + 2, 3, none⟩) (fun _ => .inr rfl) _
      refine ⟨A1, c1, ys, rfl, HY.out.modT hm (fun q e => ?_), HYL.out, ?_⟩
      · rcases e with rfl | rfl
        · exact ⟨_, HBD1.out⟩
        · exact ⟨_, HBR1.out⟩
      · exact ((Mod.of_below HBELOW.out (fun q => w.heap.size ≤ q)).trans hm (fun q _ e => by rcases e with e | e <;> omega)).below (Nat.le_refl _) (fun _ h => h)
end Go.Proofs.Ytdghanhpeekbhaa
