/-
  The walk of skeinref08's Insert at a page without items.
-/
import Derived.Test.YtknhlbbgjfcjaaaJ11
namespace Go.Proofs.Ytknhlbbgjfcjaaa
open Go.RowKit Go.Maps
set_option linter.unusedVariables false

/-- Two pages laid, and the second written over. -/
theorem two_pages (w : World) (B : Nat) (x : Value) : ∃ W, W = (w.alloc (.cells #[.int .i64 0, .int .u8 0, .int .u32 0, .slice none 0 0] 49)).alloc (.cells #[.int .i64 0, .int .u8 0, .int .u32 0, .slice none 0 0] 49) ∧
    Blk W w.heap.size 49 #[.int .i64 0, .int .u8 0, .int .u32 0, .slice none 0 0] ∧ Blk W (w.heap.size + 1) 49 #[.int .i64 0, .int .u8 0, .int .u32 0, .slice none 0 0] ∧ Below w.heap.size w W := by
  have hb1 := (Blk.new w 49 #[.int .i64 0, .int .u8 0, .int .u32 0, .slice none 0 0]).alloc (.cells #[.int .i64 0, .int .u8 0, .int .u32 0, .slice none 0 0] 49)
  have hb2 := Blk.new (w.alloc (.cells #[.int .i64 0, .int .u8 0, .int .u32 0, .slice none 0 0] 49)) 49 #[.int .i64 0, .int .u8 0, .int .u32 0, .slice none 0 0]
  rw [size_alloc_] at hb2
  exact ⟨_, rfl, hb1, hb2, ((Below.refl _ w).alloc (Nat.le_refl _) _).alloc (by simp) _⟩
theorem over_page' {w W : World} {B q : Nat} {v0 v1 v2 v3 x0 x1 x2 x3 : Value} (hb : Below B w W) (hq : B ≤ q) (h : Blk W q 49 #[v0, v1, v2, v3]) :
    Blk ((((W.setCell ⟨q, 0, none⟩ x0).setCell ⟨q, 1, none⟩ x1).setCell ⟨q, 2, none⟩ x2).setCell ⟨q, 3, none⟩ x3) q 49 #[x0, x1, x2, x3] ∧ Below B w ((((W.setCell ⟨q, 0, none⟩ x0).setCell ⟨q, 1, none⟩ x1).setCell ⟨q, 2, none⟩ x2).setCell ⟨q, 3, none⟩ x3) :=
  ⟨(((h.set_ 0 x0).set_ 1 x1).set_ 2 x2).set_ 3 x3, (((hb.setCell (p := ⟨q, 0, none⟩) hq _).setCell (p := ⟨q, 1, none⟩) hq _).setCell (p := ⟨q, 2, none⟩) hq _).setCell (p := ⟨q, 3, none⟩) hq _⟩
theorem over_page {w W : World} {q : Nat} {v0 v1 v2 v3 x0 x1 x2 x3 : Value} (hb : Below w.heap.size w W) (hq : w.heap.size ≤ q) (h : Blk W q 49 #[v0, v1, v2, v3]) :
    Blk ((((W.setCell ⟨q, 0, none⟩ x0).setCell ⟨q, 1, none⟩ x1).setCell ⟨q, 2, none⟩ x2).setCell ⟨q, 3, none⟩ x3) q 49 #[x0, x1, x2, x3] ∧ Below w.heap.size w ((((W.setCell ⟨q, 0, none⟩ x0).setCell ⟨q, 1, none⟩ x1).setCell ⟨q, 2, none⟩ x2).setCell ⟨q, 3, none⟩ x3) :=
  ⟨(((h.set_ 0 x0).set_ 1 x1).set_ 2 x2).set_ 3 x3, (((hb.setCell (p := ⟨q, 0, none⟩) hq _).setCell (p := ⟨q, 1, none⟩) hq _).setCell (p := ⟨q, 2, none⟩) hq _).setCell (p := ⟨q, 3, none⟩) hq _⟩
structure Cells4P (w : World) (b : Nat) (v0 v1 v2 v3 : Value) : Prop where
  c0 : w.cell? ⟨b, 0, none⟩ = some v0
  c1 : w.cell? ⟨b, 1, none⟩ = some v1
  c2 : w.cell? ⟨b, 2, none⟩ = some v2
  c3 : w.cell? ⟨b, 3, none⟩ = some v3
theorem Blk.cells4 {w : World} {b : Nat} {v0 v1 v2 v3 : Value} (h : Blk w b 49 #[v0, v1, v2, v3]) : Cells4P w b v0 v1 v2 v3 := ⟨h.cell 0, h.cell 1, h.cell 2, h.cell 3⟩

def RefOut (w : World) (e : Ending) (w' : World) : Prop := ∃ A n c f, e = .returned (.tuple #[.agg #[.int .i64 0, .int .u8 0, .int .u32 0, .slice A n c], .int .i64 f]) ∧ Below w.heap.size w w'
theorem RefOut.of {w w' : World} {f : Int} (h : Below w.heap.size w w') : RefOut w (.returned (.tuple #[.agg #[.int .i64 0, .int .u8 0, .int .u32 0, .slice none 0 0], .int .i64 f])) w' := ⟨none, 0, 0, f, rfl, h⟩
set_option maxHeartbeats 400000 in
theorem refInsert_off (w : World) (i : Int) (hi : ¬ i = 0) (AI : Option Addr) (n cI : Nat) : Calls Try.prog 91 #[refP none 0 0, .int .i64 i, .slice AI n cI] w (RefOut w) := by
  unfold refP
  by_cases hn : i < 0
  · go_enter Try.func91, Try.ntmps91
    go_wp2
    refine bodyPost_ret (v := .tuple #[.agg #[.int .i64 0, .int .u8 0, .int .u32 0, .slice none 0 0], .int .i64 82]) (by simp [results, Try.results91, go_sem]; try rfl) rfl (RefOut.of ?_)
    go_grown
  · have hp : 0 < i := by omega
    go_enter Try.func91, Try.ntmps91
    go_wp2
    refine bodyPost_ret (v := .tuple #[.agg #[.int .i64 0, .int .u8 0, .int .u32 0, .slice none 0 0], .int .i64 82]) (by simp [results, Try.results91, go_sem]; try rfl) rfl (RefOut.of ?_)
    go_grown
set_option maxHeartbeats 400000 in
theorem refInsert_long (w : World) (AI : Option Addr) (n cI : Nat) (h : 200 < n) : Calls Try.prog 91 #[refP none 0 0, .int .i64 0, .slice AI n cI] w (RefOut w) := by
  unfold refP
  go_enter Try.func91, Try.ntmps91
  go_wp2
  refine bodyPost_ret (v := .tuple #[.agg #[.int .i64 0, .int .u8 0, .int .u32 0, .slice none 0 0], .int .i64 4]) (by simp [results, Try.results91, go_sem]; try rfl) rfl (RefOut.of ?_)
  go_grown
set_option maxRecDepth 100000 in
set_option maxHeartbeats 1000000 in
theorem refInsert_put (w : World) (AI : Option Addr) (n cI : Nat) (l : List Nat) (hv : RB w w.heap.size (.slice AI n cI) l) (hn : l.length = n) (h : n ≤ 200) : Calls Try.prog 91 #[refP none 0 0, .int .i64 0, .slice AI n cI] w (RefOut w) := by
  have HV := Lib.hid hv
  unfold refP
  obtain ⟨W0, hW0, hb1, hb2, hw0⟩ := two_pages w 0 (.slice none 0 0)
  have HB1 := Lib.hid hb1
  have HB2 := Lib.hid hb2
  have HW0 := Lib.hid hw0
  have hnl : ¬ 200 < n := by omega
  have hnl2 : ¬ (200 : Int) < (n : Int) := by omega
  clear hv hn hb1 hb2 hw0
  go_enter Try.func91, Try.ntmps91
  go_wp2_with fail
  rw [← hW0]
  have hr := refRoom_any W0
  unfold refP at hr
  refine hr.mono ?_
  rintro e w1 ⟨rfl, hb⟩
  have k1 := HB1.out.below hb HB1.out.lt
  have k2 := HB2.out.below hb HB2.out.lt
  have hw1 : Below w.heap.size w w1 := HW0.out.trans (hb.mono (Nat.le_trans (by omega) HW0.out.size))
  have hz := k2.lt
  have HK1 := Lib.hid k1
  have HK2 := Lib.hid k2
  have HW1 := Lib.hid hw1
  clear hr hb k1 k2 hw1 hW0
  go_wp2_with fail
  obtain ⟨bp, hbp⟩ : ∃ bp, bp = w.heap.size := ⟨_, rfl⟩
  have HBP := Lib.hid hbp
  rw [← hbp] at HK1 HK2 HW1 hz ⊢
  have hbz : bp < w1.heap.size := by omega
  have HE0 : Hid (OK encSl 1 22 (w1.alloc (.cells #[] 22)) (bp + 2) (.slice (some ⟨w1.heap.size, 0, none⟩) 0 0) []) := OK.ofBlk (Blk.new _ _ _) (by omega) rfl (by omega) (Nat.le_refl _) (by simp [maxLen]) rfl rfl
  have HA1 : Hid (Blk (w1.alloc (.cells #[] 22)) bp 49 #[.int .i64 0, .int .u8 0, .int .u32 0, .slice none 0 0]) := HK1.out.alloc _
  have HA2 : Hid (Blk (w1.alloc (.cells #[] 22)) (bp + 1) 49 #[.int .i64 0, .int .u8 0, .int .u32 0, .slice none 0 0]) := HK2.out.alloc _
  have HA3 : Hid (Below bp w (w1.alloc (.cells #[] 22))) := HW1.out.alloc (Nat.le_of_lt hbz) _
  clear hbp HK1 HK2 HW1
  go_loopw [8, 9] (fun x i wr => ∃ (k : Nat) (A : Option Addr) (c : Nat), k ≤ 1 ∧ i = .int .i64 k ∧ x = .slice A k c ∧ Hid (k = 0 → OK encSl 1 22 wr (bp + 2) (.slice A k c) []) ∧ Hid (Blk wr bp 49 #[.int .i64 0, .int .u8 0, .int .u32 0, .slice none 0 0]) ∧ Hid (Blk wr (bp + 1) 49 #[.int .i64 0, .int .u8 0, .int .u32 0, .slice none 0 0]) ∧ Hid (Below bp w wr)) (fun x i wr => 1 - (intOf i).toNat)
  case atStart => exact ⟨0, _, _, by omega, rfl, rfl, Lib.hid (fun _ => HE0.out), HA1, HA2, HA3⟩
  case round =>
    obtain ⟨k, A, c, hk, rfl, rfl, HO, H1, H2, H3⟩ := hrel
    have hbl := H1.out.lt
    have c3 : wr.cell? ⟨bp, 3, none⟩ = some (.slice none 0 0) := H1.out.cell 3
    by_cases hk0 : k = 0
    · subst hk0
      have HOK := Lib.hid (HO.out rfl)
      clear HO
      go_wp2_with (first
        | (go_at_call 42; refine (copy_any _ l _ ((by rw [HBP.out]; exact HV.out : RB w bp (.slice AI n cI) l).below H3.out |>.more (Nat.le_of_lt hbl))).mono ?_; rintro e2 w2 ⟨v2, rfl, ho2, hb2⟩; obtain ⟨A2, c2, rfl, _, _, _, _⟩ := ho2.rbn.open_; have HB2 := Lib.hid hb2; clear ho2 hb2)
        | (at_builtin; go_must (refine wpList_appE etSls encSl_len encSl_one (y := ((A2, l.length, c2) : Sl)) rfl (.tmp 41) (.tmp 44) rfl rfl ((HOK.out.below HB2.out).alloc _) w2.heap.size rfl (by intro j u hu; rw [(Blk.new w2 _ _).cell j]; simpa [encSl] using hu) (by simp) (by have := HB2.out.size; have := H2.out.lt; simp; omega) ?_); intro v3 w3 k1 k2 k3; obtain ⟨A3, c3', rfl, _, _, _, _⟩ := (k1.rk encSl_len (Nat.le_refl _)).open_; have hne1 : some bp ≠ (Value.slice A 0 c).ownBlock := fun e5 => by { have := (HOK.out.lt _ e5.symm).1; omega }; have hne2 : some (bp + 1) ≠ (Value.slice A 0 c).ownBlock := fun e5 => by { have := (HOK.out.lt _ e5.symm).1; omega }; have HN1 : Hid (Blk w3 bp 49 #[.int .i64 0, .int .u8 0, .int .u32 0, .slice none 0 0]) := ((H1.out.below HB2.out hbl).alloc _).grown k2 hne1; have HN2 : Hid (Blk w3 (bp + 1) 49 #[.int .i64 0, .int .u8 0, .int .u32 0, .slice none 0 0]) := ((H2.out.below HB2.out H2.out.lt).alloc _).grown k2 hne2; have HN3 : Hid (Below bp w w3) := ((H3.out.trans (HB2.out.mono (Nat.le_of_lt hbl))).alloc (by have := HB2.out.size; omega) _).grown k2 (by have := HB2.out.size; simp; omega) (fun q hq => by { have := (HOK.out.lt q hq).1; omega }); have c33 : w3.cell? ⟨bp, 3, none⟩ = some (.slice none 0 0) := HN1.out.cell 3; clear k1 k2 k3 hne1 hne2))
      go_roundw
      case rel => exact ⟨1, A3, c3', by omega, by go_num, rfl, Lib.hid (fun h => by omega), HN1, HN2, HN3⟩
      case measure => simp [intOf]
    · obtain rfl : k = 1 := by omega
      have c0 : wr.cell? ⟨bp, 0, none⟩ = some (.int .i64 0) := H1.out.cell 0
      have c1 : wr.cell? ⟨bp, 1, none⟩ = some (.int .u8 0) := H1.out.cell 1
      have c2 : wr.cell? ⟨bp, 2, none⟩ = some (.int .u32 0) := H1.out.cell 2
      have f3 := H1.out.frozen 3
      have d0 : wr.cell? ⟨bp + 1, 0, none⟩ = some (.int .i64 0) := H2.out.cell 0
      have d1 : wr.cell? ⟨bp + 1, 1, none⟩ = some (.int .u8 0) := H2.out.cell 1
      have d2 : wr.cell? ⟨bp + 1, 2, none⟩ = some (.int .u32 0) := H2.out.cell 2
      have d3 : wr.cell? ⟨bp + 1, 3, none⟩ = some (.slice none 0 0) := H2.out.cell 3
      have g0 := H2.out.frozen 0
      have g1 := H2.out.frozen 1
      have g2 := H2.out.frozen 2
      have g3 := H2.out.frozen 3
      go_wp2_with fail
      have h3 := H3.out.setCell (p := ⟨bp, 3, none⟩) (Nat.le_refl _) (.slice A 1 c)
      have hq := H2.out.far (p := ⟨bp, 3, none⟩) (by simp) (.slice A 1 c)
      obtain ⟨q1, q2⟩ := over_page' (x0 := .int .i64 0) (x1 := .int .u8 0) (x2 := .int .u32 0) (x3 := .slice A 1 c) h3 (q := bp + 1) (Nat.le_succ _) hq
      exact ret_pg8 Try.results91 rfl rfl q1 rfl ⟨A, 1, c, 0, rfl, by rw [← HBP.out]; exact q2⟩
theorem refInsert_any (w : World) (i : Int) (iv : Value) (l : List Nat) (hv : RB w w.heap.size iv l) : Calls Try.prog 91 #[refP none 0 0, .int .i64 i, iv] w (RefOut w) := by
  obtain ⟨AI, cI, rfl, _, _, _, _⟩ := hv.open_
  by_cases hi : i = 0
  · subst hi
    by_cases h : 200 < l.length
    · exact refInsert_long w AI l.length cI h
    · exact refInsert_put w AI l.length cI l hv rfl (by omega)
  · exact refInsert_off w i hi AI l.length cI
end Go.Proofs.Ytknhlbbgjfcjaaa
