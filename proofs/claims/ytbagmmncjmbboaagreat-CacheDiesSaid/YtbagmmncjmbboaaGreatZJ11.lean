/-
  The walks of skeinref08's Insert, Remove and Replace at a page without items.
-/
import Derived.Test.YtbagmmncjmbboaaGreatZJ7
namespace Go.Proofs.YtbagmmncjmbboaaGreat
open Go.RowKit Go.Maps
set_option linter.unusedVariables false

theorem ret_pg8 {fn : Func} {q r : Tmp} {a : Act} {w : World} {post : Ending → World → Prop} {b : Nat} {v0 v1 v2 v3 u : Value} (hr : fn.results = #[.cell q 97, .tmp r]) (hp : a.tmps.getD q undef = .pointer (some ⟨b, 0, none⟩)) (hu : a.tmps.getD r undef = u)
    (hB : Blk w b 97 #[v0, v1, v2, v3]) (hd : a.defers = []) (h : post (.returned (.tuple #[.agg #[v0, v1, v2, v3], u])) w) : bodyPost Tryz.prog fn post .ret a w := by
  refine bodyPost_ret (v := .tuple #[.agg #[v0, v1, v2, v3], u]) ?_ hd h
  have hp' : a.tmps[q]?.getD undef = .pointer (some ⟨b, 0, none⟩) := by simpa using hp
  have hu' : a.tmps[r]?.getD undef = u := by simpa using hu
  have e0 : w.cell? ⟨b, 0, none⟩ = some v0 := hB.cell 0
  have e1 : w.cell? ⟨b, 1, none⟩ = some v1 := hB.cell 1
  have e2 : w.cell? ⟨b, 2, none⟩ = some v2 := hB.cell 2
  have e3 : w.cell? ⟨b, 3, none⟩ = some v3 := hB.cell 3
  simp only [results, hr]
  go_simp

/-- skeinref08's page, its numbers 0. -/
def refP (A : Option Addr) (n c : Nat) : Value := .agg #[.int .i64 0, .int .u8 0, .int .u32 0, .slice A n c]

theorem refUsed_any (w : World) : Calls Tryz.prog 124 #[refP none 0 0] w fun e w' => e = .returned (.int .i64 18) ∧ Below w.heap.size w w' := by
  unfold refP
  go_enter Tryz.func124, Tryz.ntmps124
  go_wp2
  go_loopw [3, 4] (fun x i wr => x = .int .i64 18 ∧ i = .int .i64 0 ∧ wr = w.alloc (.cells #[.int .i64 0, .int .u8 0, .int .u32 0, .slice none 0 0] 97)) (fun _ _ _ => 0)
  case atStart => exact ⟨rfl, rfl, rfl⟩
  case round =>
    obtain ⟨rfl, rfl, rfl⟩ := hrel
    go_wp2
    go_ret
    exact ⟨rfl, (Below.refl _ _).alloc (Nat.le_refl _) _⟩

theorem refRoom_any (w : World) : Calls Tryz.prog 113 #[refP none 0 0] w fun e w' => e = .returned (.int .i64 200) ∧ Below w.heap.size w w' := by
  unfold refP
  go_enter Tryz.func113, Tryz.ntmps113
  go_wp2_with fail
  have hb := Blk.new w 97 #[.int .i64 0, .int .u8 0, .int .u32 0, .slice none 0 0]
  have hl := hb.lt
  refine (refUsed_any _).mono ?_
  rintro e w1 ⟨rfl, hb1⟩
  have c3 : w1.cell? ⟨w.heap.size, 3, none⟩ = some (.slice none 0 0) := (hb.below hb1 hl).cell 3
  have HB : Hid (Below w.heap.size w w1) := ((Below.refl _ w).alloc (Nat.le_refl _) _).trans (hb1.mono (by simp))
  clear hb1 hb hl
  go_wp2
  go_ret
  exact ⟨rfl, HB.out⟩
end Go.Proofs.YtbagmmncjmbboaaGreat

/-
  The walk of skeinref08's Insert at a page without items.
-/
namespace Go.Proofs.YtbagmmncjmbboaaGreat
open Go.RowKit Go.Maps
set_option linter.unusedVariables false

/-- Two pages laid, and the second written over. -/
theorem two_pages (w : World) (B : Nat) (x : Value) : ∃ W, W = (w.alloc (.cells #[.int .i64 0, .int .u8 0, .int .u32 0, .slice none 0 0] 97)).alloc (.cells #[.int .i64 0, .int .u8 0, .int .u32 0, .slice none 0 0] 97) ∧
    Blk W w.heap.size 97 #[.int .i64 0, .int .u8 0, .int .u32 0, .slice none 0 0] ∧ Blk W (w.heap.size + 1) 97 #[.int .i64 0, .int .u8 0, .int .u32 0, .slice none 0 0] ∧ Below w.heap.size w W := by
  have hb1 := (Blk.new w 97 #[.int .i64 0, .int .u8 0, .int .u32 0, .slice none 0 0]).alloc (.cells #[.int .i64 0, .int .u8 0, .int .u32 0, .slice none 0 0] 97)
  have hb2 := Blk.new (w.alloc (.cells #[.int .i64 0, .int .u8 0, .int .u32 0, .slice none 0 0] 97)) 97 #[.int .i64 0, .int .u8 0, .int .u32 0, .slice none 0 0]
  rw [size_alloc_] at hb2
  exact ⟨_, rfl, hb1, hb2, ((Below.refl _ w).alloc (Nat.le_refl _) _).alloc (by simp) _⟩

theorem over_page' {w W : World} {B q : Nat} {v0 v1 v2 v3 x0 x1 x2 x3 : Value} (hb : Below B w W) (hq : B ≤ q) (h : Blk W q 97 #[v0, v1, v2, v3]) :
    Blk ((((W.setCell ⟨q, 0, none⟩ x0).setCell ⟨q, 1, none⟩ x1).setCell ⟨q, 2, none⟩ x2).setCell ⟨q, 3, none⟩ x3) q 97 #[x0, x1, x2, x3] ∧ Below B w ((((W.setCell ⟨q, 0, none⟩ x0).setCell ⟨q, 1, none⟩ x1).setCell ⟨q, 2, none⟩ x2).setCell ⟨q, 3, none⟩ x3) :=
  ⟨(((h.set_ 0 x0).set_ 1 x1).set_ 2 x2).set_ 3 x3, (((hb.setCell (p := ⟨q, 0, none⟩) hq _).setCell (p := ⟨q, 1, none⟩) hq _).setCell (p := ⟨q, 2, none⟩) hq _).setCell (p := ⟨q, 3, none⟩) hq _⟩

theorem over_page {w W : World} {q : Nat} {v0 v1 v2 v3 x0 x1 x2 x3 : Value} (hb : Below w.heap.size w W) (hq : w.heap.size ≤ q) (h : Blk W q 97 #[v0, v1, v2, v3]) :
    Blk ((((W.setCell ⟨q, 0, none⟩ x0).setCell ⟨q, 1, none⟩ x1).setCell ⟨q, 2, none⟩ x2).setCell ⟨q, 3, none⟩ x3) q 97 #[x0, x1, x2, x3] ∧ Below w.heap.size w ((((W.setCell ⟨q, 0, none⟩ x0).setCell ⟨q, 1, none⟩ x1).setCell ⟨q, 2, none⟩ x2).setCell ⟨q, 3, none⟩ x3) :=
  ⟨(((h.set_ 0 x0).set_ 1 x1).set_ 2 x2).set_ 3 x3, (((hb.setCell (p := ⟨q, 0, none⟩) hq _).setCell (p := ⟨q, 1, none⟩) hq _).setCell (p := ⟨q, 2, none⟩) hq _).setCell (p := ⟨q, 3, none⟩) hq _⟩

structure Cells4P (w : World) (b : Nat) (v0 v1 v2 v3 : Value) : Prop where
  c0 : w.cell? ⟨b, 0, none⟩ = some v0
  c1 : w.cell? ⟨b, 1, none⟩ = some v1
  c2 : w.cell? ⟨b, 2, none⟩ = some v2
  c3 : w.cell? ⟨b, 3, none⟩ = some v3

theorem Blk.cells4 {w : World} {b : Nat} {v0 v1 v2 v3 : Value} (h : Blk w b 97 #[v0, v1, v2, v3]) : Cells4P w b v0 v1 v2 v3 := ⟨h.cell 0, h.cell 1, h.cell 2, h.cell 3⟩

def RefOut (w : World) (e : Ending) (w' : World) : Prop := ∃ A n c f, e = .returned (.tuple #[.agg #[.int .i64 0, .int .u8 0, .int .u32 0, .slice A n c], .int .i64 f]) ∧ Below w.heap.size w w'

theorem RefOut.of {w w' : World} {f : Int} (h : Below w.heap.size w w') : RefOut w (.returned (.tuple #[.agg #[.int .i64 0, .int .u8 0, .int .u32 0, .slice none 0 0], .int .i64 f])) w' := ⟨none, 0, 0, f, rfl, h⟩

set_option maxHeartbeats 400000 in
theorem refInsert_off (w : World) (i : Int) (hi : ¬ i = 0) (AI : Option Addr) (n cI : Nat) : Calls Tryz.prog 90 #[refP none 0 0, .int .i64 i, .slice AI n cI] w (RefOut w) := by
  unfold refP
  by_cases hn : i < 0
  · go_enter Tryz.func90, Tryz.ntmps90
    go_wp2
    refine bodyPost_ret (v := .tuple #[.agg #[.int .i64 0, .int .u8 0, .int .u32 0, .slice none 0 0], .int .i64 82]) (by simp [results, Tryz.results90, go_sem]; try rfl) rfl (RefOut.of ?_)
    go_grown
  · have hp : 0 < i := by omega
    go_enter Tryz.func90, Tryz.ntmps90
    go_wp2
    refine bodyPost_ret (v := .tuple #[.agg #[.int .i64 0, .int .u8 0, .int .u32 0, .slice none 0 0], .int .i64 82]) (by simp [results, Tryz.results90, go_sem]; try rfl) rfl (RefOut.of ?_)
    go_grown

set_option maxHeartbeats 400000 in
theorem refInsert_long (w : World) (AI : Option Addr) (n cI : Nat) (h : 200 < n) : Calls Tryz.prog 90 #[refP none 0 0, .int .i64 0, .slice AI n cI] w (RefOut w) := by
  unfold refP
  go_enter Tryz.func90, Tryz.ntmps90
  go_wp2
  refine bodyPost_ret (v := .tuple #[.agg #[.int .i64 0, .int .u8 0, .int .u32 0, .slice none 0 0], .int .i64 4]) (by simp [results, Tryz.results90, go_sem]; try rfl) rfl (RefOut.of ?_)
  go_grown

set_option maxRecDepth 100000 in
set_option maxHeartbeats 1000000 in
theorem refInsert_put (w : World) (AI : Option Addr) (n cI : Nat) (l : List Nat) (hv : RB w w.heap.size (.slice AI n cI) l) (hn : l.length = n) (h : n ≤ 200) : Calls Tryz.prog 90 #[refP none 0 0, .int .i64 0, .slice AI n cI] w (RefOut w) := by
  have HV := Lib.hid hv
  unfold refP
  obtain ⟨W0, hW0, hb1, hb2, hw0⟩ := two_pages w 0 (.slice none 0 0)
  have HB1 := Lib.hid hb1
  have HB2 := Lib.hid hb2
  have HW0 := Lib.hid hw0
  have hnl : ¬ 200 < n := by omega
  have hnl2 : ¬ (200 : Int) < (n : Int) := by omega
  clear hv hn hb1 hb2 hw0
  go_enter Tryz.func90, Tryz.ntmps90
  go_wp2_with fail
  rw [← hW0]
  have hr := refRoom_any W0
  unfold refP at hr
  refine hr.mono ?_
  rintro e w1 ⟨rfl, hb⟩
  have k1 := HB1.out.below hb HB1.out.lt
  have k2 := HB2.out.below hb HB2.out.lt
  have hw1 : Below w.heap.size w w1 := HW0.out.trans (hb.mono (Nat.le_trans (by omega) HW0.out.size))
  have hz := k2.lt
  have HK1 := Lib.hid k1
  have HK2 := Lib.hid k2
  have HW1 := Lib.hid hw1
  clear hr hb k1 k2 hw1 hW0
  go_wp2_with fail
  obtain ⟨bp, hbp⟩ : ∃ bp, bp = w.heap.size := ⟨_, rfl⟩
  have HBP := Lib.hid hbp
  rw [← hbp] at HK1 HK2 HW1 hz ⊢
  have hbz : bp < w1.heap.size := by omega
  have HE0 : Hid (OK encSl 1 22 (w1.alloc (.cells #[] 22)) (bp + 2) (.slice (some ⟨w1.heap.size, 0, none⟩) 0 0) []) := OK.ofBlk (Blk.new _ _ _) (by omega) rfl (by omega) (Nat.le_refl _) (by simp [maxLen]) rfl rfl
  have HA1 : Hid (Blk (w1.alloc (.cells #[] 22)) bp 97 #[.int .i64 0, .int .u8 0, .int .u32 0, .slice none 0 0]) := HK1.out.alloc _
  have HA2 : Hid (Blk (w1.alloc (.cells #[] 22)) (bp + 1) 97 #[.int .i64 0, .int .u8 0, .int .u32 0, .slice none 0 0]) := HK2.out.alloc _
  have HA3 : Hid (Below bp w (w1.alloc (.cells #[] 22))) := HW1.out.alloc (Nat.le_of_lt hbz) _
  clear hbp HK1 HK2 HW1
  go_loopw [8, 9] (fun x i wr => ∃ (k : Nat) (A : Option Addr) (c : Nat), k ≤ 1 ∧ i = .int .i64 k ∧ x = .slice A k c ∧ Hid (k = 0 → OK encSl 1 22 wr (bp + 2) (.slice A k c) []) ∧ Hid (Blk wr bp 97 #[.int .i64 0, .int .u8 0, .int .u32 0, .slice none 0 0]) ∧ Hid (Blk wr (bp + 1) 97 #[.int .i64 0, .int .u8 0, .int .u32 0, .slice none 0 0]) ∧ Hid (Below bp w wr)) (fun x i wr => 1 - (intOf i).toNat)
  case atStart => exact ⟨0, _, _, by omega, rfl, rfl, Lib.hid (fun _ => HE0.out), HA1, HA2, HA3⟩
  case round =>
    obtain ⟨k, A, c, hk, rfl, rfl, HO, H1, H2, H3⟩ := hrel
    have hbl := H1.out.lt
    have c3 : wr.cell? ⟨bp, 3, none⟩ = some (.slice none 0 0) := H1.out.cell 3
    by_cases hk0 : k = 0
    · subst hk0
      have HOK := Lib.hid (HO.out rfl)
      clear HO
      go_wp2_with (first
        | (go_at_call 80; refine (copy_any _ l _ ((by rw [HBP.out]; exact HV.out : RB w bp (.slice AI n cI) l).below H3.out |>.more (Nat.le_of_lt hbl))).mono ?_; rintro e2 w2 ⟨v2, rfl, ho2, hb2⟩; obtain ⟨A2, c2, rfl, _, _, _, _⟩ := ho2.rbn.open_; have HB2 := Lib.hid hb2; clear ho2 hb2)
        | (at_builtin; go_must (refine wpList_appE etSls encSl_len encSl_one (y := ((A2, l.length, c2) : Sl)) rfl (.tmp 41) (.tmp 44) rfl rfl ((HOK.out.below HB2.out).alloc _) w2.heap.size rfl (by intro j u hu; rw [(Blk.new w2 _ _).cell j]; simpa [encSl] using hu) (by simp) (by have := HB2.out.size; have := H2.out.lt; simp; omega) ?_); intro v3 w3 k1 k2 k3; obtain ⟨A3, c3', rfl, _, _, _, _⟩ := (k1.rk encSl_len (Nat.le_refl _)).open_; have hne1 : some bp ≠ (Value.slice A 0 c).ownBlock := fun e5 => by { have := (HOK.out.lt _ e5.symm).1; omega }; have hne2 : some (bp + 1) ≠ (Value.slice A 0 c).ownBlock := fun e5 => by { have := (HOK.out.lt _ e5.symm).1; omega }; have HN1 : Hid (Blk w3 bp 97 #[.int .i64 0, .int .u8 0, .int .u32 0, .slice none 0 0]) := ((H1.out.below HB2.out hbl).alloc _).grown k2 hne1; have HN2 : Hid (Blk w3 (bp + 1) 97 #[.int .i64 0, .int .u8 0, .int .u32 0, .slice none 0 0]) := ((H2.out.below HB2.out H2.out.lt).alloc _).grown k2 hne2; have HN3 : Hid (Below bp w w3) := ((H3.out.trans (HB2.out.mono (Nat.le_of_lt hbl))).alloc (by have := HB2.out.size; omega) _).grown k2 (by have := HB2.out.size; simp; omega) (fun q hq => by { have := (HOK.out.lt q hq).1; omega }); have c33 : w3.cell? ⟨bp, 3, none⟩ = some (.slice none 0 0) := HN1.out.cell 3; clear k1 k2 k3 hne1 hne2))
      go_roundw
      case rel => exact ⟨1, A3, c3', by omega, by go_num, rfl, Lib.hid (fun h => by omega), HN1, HN2, HN3⟩
      case measure => simp [intOf]
    · obtain rfl : k = 1 := by omega
      have c0 : wr.cell? ⟨bp, 0, none⟩ = some (.int .i64 0) := H1.out.cell 0
      have c1 : wr.cell? ⟨bp, 1, none⟩ = some (.int .u8 0) := H1.out.cell 1
      have c2 : wr.cell? ⟨bp, 2, none⟩ = some (.int .u32 0) := H1.out.cell 2
      have f3 := H1.out.frozen 3
      have d0 : wr.cell? ⟨bp + 1, 0, none⟩ = some (.int .i64 0) := H2.out.cell 0
      have d1 : wr.cell? ⟨bp + 1, 1, none⟩ = some (.int .u8 0) := H2.out.cell 1
      have d2 : wr.cell? ⟨bp + 1, 2, none⟩ = some (.int .u32 0) := H2.out.cell 2
      have d3 : wr.cell? ⟨bp + 1, 3, none⟩ = some (.slice none 0 0) := H2.out.cell 3
      have g0 := H2.out.frozen 0
      have g1 := H2.out.frozen 1
      have g2 := H2.out.frozen 2
      have g3 := H2.out.frozen 3
      go_wp2_with fail
      have h3 := H3.out.setCell (p := ⟨bp, 3, none⟩) (Nat.le_refl _) (.slice A 1 c)
      have hq := H2.out.far (p := ⟨bp, 3, none⟩) (by simp) (.slice A 1 c)
      obtain ⟨q1, q2⟩ := over_page' (x0 := .int .i64 0) (x1 := .int .u8 0) (x2 := .int .u32 0) (x3 := .slice A 1 c) h3 (q := bp + 1) (Nat.le_succ _) hq
      exact ret_pg8 Tryz.results90 rfl rfl q1 rfl ⟨A, 1, c, 0, rfl, by rw [← HBP.out]; exact q2⟩

theorem refInsert_any (w : World) (i : Int) (iv : Value) (l : List Nat) (hv : RB w w.heap.size iv l) : Calls Tryz.prog 90 #[refP none 0 0, .int .i64 i, iv] w (RefOut w) := by
  obtain ⟨AI, cI, rfl, _, _, _, _⟩ := hv.open_
  by_cases hi : i = 0
  · subst hi
    by_cases h : 200 < l.length
    · exact refInsert_long w AI l.length cI h
    · exact refInsert_put w AI l.length cI l hv rfl (by omega)
  · exact refInsert_off w i hi AI l.length cI

end Go.Proofs.YtbagmmncjmbboaaGreat

/-
  The walk of skeinlaw08's asks, the document's page being empty: what a call does to a page.
-/
namespace Go.Proofs.YtbagmmncjmbboaaGreat
open Go.RowKit Go.Maps
set_option linter.unusedVariables false

/-- A call on a page, as the laws write it. -/
structure PgOp where
  kind : Int
  i : Int
  data : List Nat

def PG.run (m : PG) (o : PgOp) : PG :=
  if o.kind = 1 then (if m.insE o.i o.data = 0 then m.insert o.i.toNat o.data else m)
  else if o.kind = 2 then (if m.repE o.i o.data = 0 then m.replace o.i.toNat o.data else m)
  else if o.kind = 3 then (if m.isSlot o.i = true then m.remove o.i.toNat else m)
  else if o.kind = 5 then { m with extra := (o.i % 4294967296).toNat }
  else if o.kind = 6 then { m with lsn := max o.i 0 }
  else m

def AskOut (w : World) (p B : Nat) (v : Value) (xs : List Sl) (m m' : PG) (e : Ending) (w' : World) : Prop := (∃ x, e = .returned x) ∧ PgOut w w' p B v xs m m'

/-- What a call leaves, and what is turned behind it in blocks laid since. -/
theorem PgOut.around {w w3 w4 w9 : World} {p B : Nat} {v : Value} {xs : List Sl} {m m' : PG} {S : Nat → Prop} (h : PageAt w p B v xs m) (hb : Below w.heap.size w w3) (h4 : PgOut w3 w4 p B v xs m m') (hm : Mod S w4 w9) (hs : ∀ k, S k → w.heap.size ≤ k ∧ k < w3.heap.size) : PgOut w w9 p B v xs m m' := by
  obtain ⟨v', xs', h1, h2, h3⟩ := h4
  have hz := hb.size
  have hp := h.lt
  have hit := (h3 (fun k => k < w.heap.size ∨ w3.heap.size ≤ k) (h.itemsIn.mono fun k hk => .inl hk) (fun k hk => .inr hk)).off (S := S) (fun k hk e => by have := hs k hk; rcases e with e | e <;> omega)
  have hown : ∀ b, v'.ownBlock = some b → ¬ S b := fun b hb' e => by
    have h5 := hs b e
    rcases h2.own with h6 | h6
    · rw [h6] at hb'; have := (h.row.lt b hb').2; omega
    · have := h6 b hb'; omega
  refine ⟨v', xs', h1.mod hm (fun e => by have := hs p e; omega) hown hit, ⟨?_, ?_⟩, fun Q hq hk => h3 Q hq fun k hk2 => hk k (by omega)⟩
  · exact ((Mod.of_below hb _).trans h2.mod (fun k _ e => e)).trans hm (fun k hk e => by have := hs k e; omega)
  · rcases h2.own with h6 | h6
    · exact .inl h6
    · exact .inr fun b hb' => by have := h6 b hb'; omega

theorem PageAt.rowlt {w : World} {p B : Nat} {v : Value} {xs : List Sl} {m : PG} (h : PageAt w p B v xs m) : ∀ k, (k = p ∨ v.ownBlock = some k) → k < w.heap.size := fun k e => by
  rcases e with rfl | e
  · exact h.lt
  · exact (h.row.lt k e).2

/-- Three structs laid ahead of a call. -/
theorem three_laid (w : World) (A C D : Array Value) (ta tc td : TypeId) : ∃ W, W = ((w.alloc (.cells A ta)).alloc (.cells C tc)).alloc (.cells D td) ∧ Blk W w.heap.size ta A ∧ Blk W (w.heap.size + 1) tc C ∧ Blk W (w.heap.size + 2) td D ∧ Below w.heap.size w W ∧ W.heap.size = w.heap.size + 3 := by
  have h1 := ((Blk.new w ta A).alloc (.cells C tc)).alloc (.cells D td)
  have h2 := (Blk.new (w.alloc (.cells A ta)) tc C).alloc (.cells D td)
  have h3 := Blk.new ((w.alloc (.cells A ta)).alloc (.cells C tc)) td D
  simp only [size_alloc_] at h2 h3
  exact ⟨_, rfl, h1, h2, h3, (((Below.refl _ w).alloc (Nat.le_refl _) _).alloc (by simp) _).alloc (by simp; omega) _, by simp⟩
end Go.Proofs.YtbagmmncjmbboaaGreat

/-
  The walk of skeinlaw08's asks, the document's page being empty: the other calls; filled.
-/
namespace Go.Proofs.YtbagmmncjmbboaaGreat
open Go.RowKit Go.Maps
set_option linter.unusedVariables false

theorem pageItem_no {w : World} {p B : Nat} {v : Value} {xs : List Sl} {m : PG} (h : PageAt w p B v xs m) {i : Int} (hi : m.isSlot i = false) : Calls Tryz.prog 97 #[.pointer (some ⟨p, 0, none⟩), .int .i64 i] w fun e w' => (∃ A n c f, e = .returned (.tuple #[.slice A n c, .int .i64 f]) ∧ f = 82 ∧ A = none ∧ n = 0 ∧ c = 0) ∧ Below w.heap.size w w' := by
  refine (pageItem_any w p B v xs m h i).mono ?_
  rintro e w' (⟨_, rfl, rfl⟩ | ⟨h1, _⟩)
  · exact ⟨⟨none, 0, 0, 82, rfl, rfl, rfl, rfl, rfl⟩, Below.refl _ _⟩
  · rw [hi] at h1; cases h1

theorem pageItem_yes {w : World} {p B : Nat} {v : Value} {xs : List Sl} {m : PG} (h : PageAt w p B v xs m) {i : Int} (hi : m.isSlot i = true) : Calls Tryz.prog 97 #[.pointer (some ⟨p, 0, none⟩), .int .i64 i] w fun e w' => (∃ A n c, e = .returned (.tuple #[.slice A n c, .int .i64 0]) ∧ OB w' w.heap.size (.slice A n c) (m.items.getD i.toNat []) ∧ n = (m.items.getD i.toNat []).length) ∧ Below w.heap.size w w' := by
  refine (pageItem_any w p B v xs m h i).mono ?_
  rintro e w' (⟨h1, _⟩ | ⟨_, v', rfl, ho, hb⟩)
  · rw [hi] at h1; cases h1
  · obtain ⟨A, c, rfl, _, _, _, _⟩ := ho.rbn.open_
    exact ⟨⟨A, _, c, rfl, ho, rfl⟩, hb⟩

theorem PgOut.eq {w w' : World} {p B : Nat} {v : Value} {xs : List Sl} {m m' : PG} (h : PageAt w' p B v xs m') (hs : PgStep w w' p v v) (hi : m'.items = m.items) : PgOut w w' p B v xs m m' := ⟨v, xs, h, hs, fun Q hq _ => by rw [hi]; exact hq⟩
end Go.Proofs.YtbagmmncjmbboaaGreat

/-
  The walk of cache's copyOf: a page of its own with the same content.
-/
namespace Go.Proofs.YtbagmmncjmbboaaGreat
open Go.RowKit Go.Maps
set_option linter.unusedVariables false

theorem first_step {m : PG} (hm : m.Ok) (hf : m.Fit) {k : Nat} (hk : k < m.items.length) : (m.first k).insE (k : Int) m.items[k] = 0 ∧ (m.first k).insert k m.items[k] = m.first (k + 1) := by
  have hl : (m.items.take k).length = k := by rw [List.length_take]; omega
  have h200 : m.items[k].length ≤ 200 := hm.item _ (List.getElem_mem hk)
  have hs := sumTo_succ hk
  have hmono : sumTo m.items (k + 1) ≤ (m.items.map List.length).sum := sumTo_mono
  have hst : ((m.items.take k).map List.length).sum = sumTo m.items k := rfl
  unfold PG.Fit at hf
  have hn := hm.num
  constructor
  · unfold PG.insE PG.room PG.free PG.first
    dsimp only
    rw [hl, hst]
    repeat' split
    all_goals first | rfl | omega
  · unfold PG.insert PG.first
    dsimp only
    rw [List.take_of_length_le (by omega), List.drop_eq_nil_of_le (by omega), List.append_nil, List.take_succ_eq_append_getElem hk]
theorem first_all (m : PG) : m.first m.items.length = m := by unfold PG.first; rw [List.take_length]
theorem first_zero {m : PG} (hm : m.Ok) : { PG.new (m.kind : Int) m.extra with lsn := max m.lsn 0 } = m.first 0 := by
  have h1 := hm.kind
  have h2 := hm.lsn.1
  have h3 : ((m.kind : Int) % 256).toNat = m.kind := by omega
  have h4 : max m.lsn 0 = m.lsn := by omega
  unfold PG.new PG.first
  dsimp only
  rw [h3, h4, List.take_zero]

theorem PgOut.belowC {w W W' : World} {p B C : Nat} {v : Value} {xs : List Sl} {m m' : PG} (h : PgOut W W' p B v xs m m') (hb : Below C w W) (hC : C ≤ W.heap.size) (hp : C ≤ p) (hv : ∀ k, v.ownBlock = some k → C ≤ k) : Below C w W' := by
  obtain ⟨v', xs', _, h2, _⟩ := h
  exact hb.trans (h2.mod.below hC fun k e => by rcases e with rfl | e; exact hp; exact hv k e)

set_option maxRecDepth 100000 in
set_option maxHeartbeats 2000000 in
theorem copyOf_any (w : World) (p B : Nat) (v : Value) (xs : List Sl) (m : PG) (h : PageAt w p B v xs m) (hf : m.Fit) :
    Calls Tryz.prog 65 #[.pointer (some ⟨p, 0, none⟩)] w fun e w' => ∃ p' v' xs', e = .returned (.pointer (some ⟨p', 0, none⟩)) ∧ PageAt w' p' w.heap.size v' xs' m ∧ ItemsIn (fun k => w.heap.size ≤ k) xs' m.items ∧ Below w.heap.size w w' := by
  have H := Lib.hid h
  have HF := Lib.hid hf
  have HM := Lib.hid h.ok
  have hx32 := h.ok.extra
  have hk256 := h.ok.kind
  have hlsn := h.ok.lsn
  obtain ⟨n, hn⟩ : ∃ n, n = m.items.length := ⟨_, rfl⟩
  have HN := Lib.hid hn
  have hn100 : n ≤ 100 := by rw [hn]; exact h.ok.num
  clear h hf hn
  go_enter Tryz.func65, Tryz.ntmps65
  go_wp2_with (first
    | (go_at_call 95; refine (pageKind_any w p B v xs m H.out).mono ?_; rintro e w1 ⟨rfl, rfl⟩)
    | (go_at_call 96; refine (pageExtra_any w p B v xs m H.out).mono ?_; rintro e w1 ⟨rfl, rfl⟩)
    | (go_at_call 63; refine (pageNew_any w (m.kind : Int) m.extra hx32).mono ?_; rintro e w1 ⟨rfl, hp1, hb1⟩; have HP1 := Lib.hid hp1; have HB1 := Lib.hid hb1; clear hp1 hb1)
    | (go_at_call 37; refine (pageLSN_any w1 p B v xs m (H.out.below HB1.out)).mono ?_; rintro e w2 ⟨rfl, rfl⟩))
  refine (pageSetLSN_any w1 _ _ _ _ _ HP1.out m.lsn hlsn.2).mono ?_
  rintro e w2 ⟨rfl, hp2, hst2⟩
  rw [first_zero HM.out] at hp2
  obtain ⟨p1, hp1⟩ : ∃ p1, p1 = w.heap.size := ⟨_, rfl⟩
  have hb2 : Below w.heap.size w w2 := HB1.out.trans (hst2.mod.below HB1.out.size (fun k e => by rcases e with rfl | e; exact Nat.le_refl _; cases e))
  have HB2 := Lib.hid hb2
  have HP2 : Hid (PageAt w2 p1 w.heap.size (.slice none 0 0) [] (m.first 0)) := Lib.hid (by rw [hp1]; exact hp2)
  rw [← hp1]
  have HP1E := Lib.hid hp1
  clear hp2 hst2 hb2 hp1 HP1
  go_wp2_with fail
  refine (pageLen_n (H.out.below HB2.out) HN.out).mono ?_
  rintro e w3 ⟨rfl, hw3⟩
  subst w3
  go_wp2_with fail
  go_loopw [18] (fun i wr => ∃ k : Nat, k ≤ n ∧ i = .int .i64 (k : Int) ∧ Hid (∃ v' xs', PageAt wr p1 w.heap.size v' xs' (m.first k) ∧ ItemsIn (fun k => w.heap.size ≤ k) xs' (m.first k).items) ∧ Hid (Below w.heap.size w wr)) (fun i wr => n - (intOf i).toNat)
  case atStart => exact ⟨0, Nat.zero_le _, rfl, Lib.hid ⟨_, _, HP2.out, fun j x l hx => by simp at hx⟩, HB2⟩
  case round =>
    obtain ⟨k, hk, rfl, HX, HB⟩ := hrel
    obtain ⟨v', xs', hp, hin⟩ := HX.out
    have HP := Lib.hid hp
    have HIN := Lib.hid hin
    clear hp hin HX
    by_cases hlt : k < n
    · have hki : k < m.items.length := by rw [← HN.out]; exact hlt
      have hsl : m.isSlot (k : Int) = true := by unfold PG.isSlot; simp; omega
      have HSL := Lib.hid hsl
      have hgd : m.items.getD (k : Int).toNat [] = m.items[k] := by simp [List.getD, hki]
      have HGD := Lib.hid hgd
      clear hsl hgd
      go_wp2_with fail
      refine (pageItem_yes (H.out.below HB.out) HSL.out).mono ?_
      rintro e w4 ⟨⟨A4, n4, c4, rfl, ho4, -⟩, hb4⟩
      rw [HGD.out] at ho4
      have HO4 := Lib.hid ho4
      have HP4 := Lib.hid (HP.out.below hb4)
      have hz4 := hb4.size
      have hzr := HB.out.size
      have HB4 : Hid (Below w.heap.size w w4) := Lib.hid (HB.out.trans (hb4.mono hzr))
      have hstep := first_step HM.out HF.out hki
      have HST : Hid (m.first (k + 1) = if (m.first k).insE (k : Int) m.items[k] = 0 then (m.first k).insert (k : Int).toNat m.items[k] else m.first k) := Lib.hid (by rw [if_pos hstep.1, Int.toNat_natCast, hstep.2])
      clear ho4 hb4 hstep
      go_wp2_with fail
      refine (pageInsert_u HP4.out (k : Int) HO4.out.rbn HST.out).mono ?_
      rintro e w5 ⟨rfl, hout⟩
      have hb5 := hout.belowC HB4.out (Nat.le_trans hzr hz4) (by rw [HP1E.out]; exact Nat.le_refl _) (fun q hq => (HP4.out.row.lt q hq).1)
      obtain ⟨v5, xs5, hp5, -, hit5⟩ := hout
      have HX5 : Hid (∃ v' xs', PageAt w5 p1 w.heap.size v' xs' (m.first (k + 1)) ∧ ItemsIn (fun k => w.heap.size ≤ k) xs' (m.first (k + 1)).items) := Lib.hid ⟨v5, xs5, hp5, hit5 _ HIN.out (fun q hq => by omega)⟩
      have HB5 := Lib.hid hb5
      clear hb5 hp5 hit5
      go_wp2_with fail
      go_roundw
      case rel => exact ⟨k + 1, by omega, by go_num, HX5, HB5⟩
      case measure => simp [intOf]; omega
    · obtain rfl : k = n := by omega
      have hall : m.first k = m := by rw [HN.out]; exact first_all m
      have h1 := HP.out
      have h2 := HIN.out
      rw [hall] at h1 h2
      have HP9 := Lib.hid h1
      have HIN9 := Lib.hid h2
      clear hall h1 h2
      go_wp2_with fail
      go_ret
      exact ⟨p1, v', xs', rfl, HP9.out, HIN9.out, HB.out⟩
end Go.Proofs.YtbagmmncjmbboaaGreat
