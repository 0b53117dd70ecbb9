/-
  The walks of skeinref08's Insert, Remove and Replace at a page without items.
-/
import Derived.Test.YtdghanhpeekbhaaZJ10
namespace Go.Proofs.Ytdghanhpeekbhaa
open Go.RowKit Go.Maps
set_option linter.unusedVariables false

theorem ret_pg8 {fn : Func} {q r : Tmp} {a : Act} {w : World} {post : Ending → World → Prop} {b : Nat} {v0 v1 v2 v3 u : Value} (hr : fn.results = #[.cell q 32, .tmp r]) (hp : a.tmps.getD q undef = .pointer (some ⟨b, 0, none⟩)) (hu : a.tmps.getD r undef = u)
    (hB : Blk w b 32 #[v0, v1, v2, v3]) (hd : a.defers = []) (h : post (.returned (.tuple #[.agg #[v0, v1, v2, v3], u])) w) : bodyPost Try.prog fn post .ret a w := by
  refine bodyPost_ret (v := .tuple #[.agg #[v0, v1, v2, v3], u]) ?_ hd h
  have hp' : a.tmps[q]?.getD undef = .pointer (some ⟨b, 0, none⟩) := by simpa using hp
  have hu' : a.tmps[r]?.getD undef = u := by simpa using hu
  have e0 : w.cell? ⟨b, 0, none⟩ = some v0 := hB.cell 0
  have e1 : w.cell? ⟨b, 1, none⟩ = some v1 := hB.cell 1
  have e2 : w.cell? ⟨b, 2, none⟩ = some v2 := hB.cell 2
  have e3 : w.cell? ⟨b, 3, none⟩ = some v3 := hB.cell 3
  simp only [results, hr]
  go_simp

/-- skeinref08's page, its numbers 0. -/
def refP (A : Option Addr) (n c : Nat) : Value := .agg #[.int .i64 0, .int .u8 0, .int .u32 0, .slice A n c]

theorem refUsed_any (w : World) : Calls Try.prog 65 #[refP none 0 0] w fun e w' => e = .returned (.int .i64 18) ∧ Below w.heap.size w w' := by
  unfold refP
  go_enter Try.func65, Try.ntmps65
  go_wp2
  go_loopw [3, 4] (fun x i wr => x = .int .i64 18 ∧ i = .int .i64 0 ∧ wr = w.alloc (.cells #[.int .i64 0, .int .u8 0, .int .u32 0, .slice none 0 0] 32)) (fun _ _ _ => 0)
  case atStart => exact ⟨rfl, rfl, rfl⟩
  case round =>
    obtain ⟨rfl, rfl, rfl⟩ := hrel
    go_wp2
    go_ret
    exact ⟨rfl, (Below.refl _ _).alloc (Nat.le_refl _) _⟩

theorem refRoom_any (w : World) : Calls Try.prog 34 #[refP none 0 0] w fun e w' => e = .returned (.int .i64 200) ∧ Below w.heap.size w w' := by
  unfold refP
  go_enter Try.func34, Try.ntmps34
  go_wp2_with fail
  have hb := Blk.new w 32 #[.int .i64 0, .int .u8 0, .int .u32 0, .slice none 0 0]
  have hl := hb.lt
  refine (refUsed_any _).mono ?_
  rintro e w1 ⟨rfl, hb1⟩
  have c3 : w1.cell? ⟨w.heap.size, 3, none⟩ = some (.slice none 0 0) := (hb.below hb1 hl).cell 3
  have HB : Hid (Below w.heap.size w w1) := ((Below.refl _ w).alloc (Nat.le_refl _) _).trans (hb1.mono (by simp))
  clear hb1 hb hl
  go_wp2
  go_ret
  exact ⟨rfl, HB.out⟩
end Go.Proofs.Ytdghanhpeekbhaa

/-
  The walk of skeinref08's Insert at a page without items.
-/
namespace Go.Proofs.Ytdghanhpeekbhaa
open Go.RowKit Go.Maps
set_option linter.unusedVariables false

/-- Two pages laid, and the second written over. -/
theorem two_pages (w : World) (B : Nat) (x : Value) : ∃ W, W = (w.alloc (.cells #[.int .i64 0, .int .u8 0, .int .u32 0, .slice none 0 0] 32)).alloc (.cells #[.int .i64 0, .int .u8 0, .int .u32 0, .slice none 0 0] 32) ∧
    Blk W w.heap.size 32 #[.int .i64 0, .int .u8 0, .int .u32 0, .slice none 0 0] ∧ Blk W (w.heap.size + 1) 32 #[.int .i64 0, .int .u8 0, .int .u32 0, .slice none 0 0] ∧ Below w.heap.size w W := by
  have hb1 := (Blk.new w 32 #[.int .i64 0, .int .u8 0, .int .u32 0, .slice none 0 0]).alloc (.cells #[.int .i64 0, .int .u8 0, .int .u32 0, .slice none 0 0] 32)
  have hb2 := Blk.new (w.alloc (.cells #[.int .i64 0, .int .u8 0, .int .u32 0, .slice none 0 0] 32)) 32 #[.int .i64 0, .int .u8 0, .int .u32 0, .slice none 0 0]
  rw [size_alloc_] at hb2
  exact ⟨_, rfl, hb1, hb2, ((Below.refl _ w).alloc (Nat.le_refl _) _).alloc (by simp) _⟩

theorem over_page' {w W : World} {B q : Nat} {v0 v1 v2 v3 x0 x1 x2 x3 : Value} (hb : Below B w W) (hq : B ≤ q) (h : Blk W q 32 #[v0, v1, v2, v3]) :
    Blk ((((W.setCell ⟨q, 0, none⟩ x0).setCell ⟨q, 1, none⟩ x1).setCell ⟨q, 2, none⟩ x2).setCell ⟨q, 3, none⟩ x3) q 32 #[x0, x1, x2, x3] ∧ Below B w ((((W.setCell ⟨q, 0, none⟩ x0).setCell ⟨q, 1, none⟩ x1).setCell ⟨q, 2, none⟩ x2).setCell ⟨q, 3, none⟩ x3) :=
  ⟨(((h.set_ 0 x0).set_ 1 x1).set_ 2 x2).set_ 3 x3, (((hb.setCell (p := ⟨q, 0, none⟩) hq _).setCell (p := ⟨q, 1, none⟩) hq _).setCell (p := ⟨q, 2, none⟩) hq _).setCell (p := ⟨q, 3, none⟩) hq _⟩

theorem over_page {w W : World} {q : Nat} {v0 v1 v2 v3 x0 x1 x2 x3 : Value} (hb : Below w.heap.size w W) (hq : w.heap.size ≤ q) (h : Blk W q 32 #[v0, v1, v2, v3]) :
    Blk ((((W.setCell ⟨q, 0, none⟩ x0).setCell ⟨q, 1, none⟩ x1).setCell ⟨q, 2, none⟩ x2).setCell ⟨q, 3, none⟩ x3) q 32 #[x0, x1, x2, x3] ∧ Below w.heap.size w ((((W.setCell ⟨q, 0, none⟩ x0).setCell ⟨q, 1, none⟩ x1).setCell ⟨q, 2, none⟩ x2).setCell ⟨q, 3, none⟩ x3) :=
  ⟨(((h.set_ 0 x0).set_ 1 x1).set_ 2 x2).set_ 3 x3, (((hb.setCell (p := ⟨q, 0, none⟩) hq _).setCell (p := ⟨q, 1, none⟩) hq _).setCell (p := ⟨q, 2, none⟩) hq _).setCell (p := ⟨q, 3, none⟩) hq _⟩

structure Cells4P (w : World) (b : Nat) (v0 v1 v2 v3 : Value) : Prop where
  c0 : w.cell? ⟨b, 0, none⟩ = some v0
  c1 : w.cell? ⟨b, 1, none⟩ = some v1
  c2 : w.cell? ⟨b, 2, none⟩ = some v2
  c3 : w.cell? ⟨b, 3, none⟩ = some v3

theorem Blk.cells4 {w : World} {b : Nat} {v0 v1 v2 v3 : Value} (h : Blk w b 32 #[v0, v1, v2, v3]) : Cells4P w b v0 v1 v2 v3 := ⟨h.cell 0, h.cell 1, h.cell 2, h.cell 3⟩

def RefOut (w : World) (e : Ending) (w' : World) : Prop := ∃ A n c f, e = .returned (.tuple #[.agg #[.int .i64 0, .int .u8 0, .int .u32 0, .slice A n c], .int .i64 f]) ∧ Below w.heap.size w w'

theorem RefOut.of {w w' : World} {f : Int} (h : Below w.heap.size w w') : RefOut w (.returned (.tuple #[.agg #[.int .i64 0, .int .u8 0, .int .u32 0, .slice none 0 0], .int .i64 f])) w' := ⟨none, 0, 0, f, rfl, h⟩
end Go.Proofs.Ytdghanhpeekbhaa
