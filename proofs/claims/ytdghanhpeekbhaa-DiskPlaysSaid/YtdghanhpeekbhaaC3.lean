/-
  The walk of crc.Open.
-/
import Derived.Test.YtdghanhpeekbhaaC2
import Derived.Handy
import Derived.Laws.Cover3
namespace Go.Proofs.Ytdghanhpeekbhaa
open Go.RowKit
set_option linter.unusedVariables false

def openOk (l : List Nat) : Bool := decide (4 ≤ l.length ∧ l.take 4 = sumBytes (crcSum (l.drop 4)))
def openL (l : List Nat) : List Nat := if openOk l then l.drop 4 else []

theorem RB.len_eq {w : World} {B : Nat} {A : Option Addr} {n c : Nat} {l : List Nat} (h : RB w B (.slice A n c) l) : n = l.length := by
  obtain ⟨_, _, A', c', hv, _⟩ := h
  injection hv

theorem RP.one {w W : World} {u : Value} {t : List Nat} {g B : Nat} (hg : g = W.heap.size) (hw : Below B w W) (hu : RB w B u t) (hB : B ≤ W.heap.size) : RP (W.alloc (.cells #[u] 22)) B g 0 [t] := by
  intro i hi
  have : i = 0 := by simp at hi; omega
  subst this
  subst hg
  exact ⟨u, by simp, (hu.below hw).alloc hB _⟩
theorem RP.drew {w : World} {B p off : Nat} {ps : List (List Nat)} (h : RP w B p off ps) : RP w.drew B p off ps := h

theorem openOk_eq (x0 x1 x2 x3 : Nat) (t : List Nat) : openOk (x0 :: x1 :: x2 :: x3 :: t) =
    ((x0 : Int) == (crcSum t : Int) % 256 && ((x1 : Int) == (crcSum t : Int) / 256 % 256 && ((x2 : Int) == (crcSum t : Int) / 65536 % 256 && (x3 : Int) == (crcSum t : Int) / 16777216))) := by
  unfold openOk
  rw [Bool.eq_iff_iff]
  simp [sumBytes]
  omega

theorem OB.madeAt (w : World) (B g : Nat) (cur : Array Value) (cap : Nat) (hg : g = w.heap.size) (hB : B ≤ w.heap.size) (hm : cap ≤ 9223372036854775807) (hs : cur.size = cap) :
    OB (w.alloc (.cells cur 5)) B (.slice (some ⟨g, 0, none⟩) 0 cap) [] := by subst hg; exact OB.made w B cur cap hB hm hs
def Cells4 (w : World) (b off x0 x1 x2 x3 : Nat) : Prop := w.cell? ⟨b, off, none⟩ = some (.int .u8 (x0 : Int)) ∧ w.cell? ⟨b, off + 1, none⟩ = some (.int .u8 (x1 : Int)) ∧ w.cell? ⟨b, off + 2, none⟩ = some (.int .u8 (x2 : Int)) ∧ w.cell? ⟨b, off + 3, none⟩ = some (.int .u8 (x3 : Int))
theorem keep4 {w w' : World} {b off x0 x1 x2 x3 : Nat} (h : Cells4 w b off x0 x1 x2 x3) (hb : b < w.heap.size) (hw : Below w.heap.size w w') :
    w'.cell? ⟨b, off, none⟩ = some (.int .u8 (x0 : Int)) ∧ w'.cell? ⟨b, off + 1, none⟩ = some (.int .u8 (x1 : Int)) ∧ w'.cell? ⟨b, off + 2, none⟩ = some (.int .u8 (x2 : Int)) ∧ w'.cell? ⟨b, off + 3, none⟩ = some (.int .u8 (x3 : Int)) := by
  obtain ⟨h0, h1, h2, h3⟩ := h
  exact ⟨(hw.cell (p := ⟨b, off, none⟩) hb).trans h0, (hw.cell (p := ⟨b, off + 1, none⟩) hb).trans h1, (hw.cell (p := ⟨b, off + 2, none⟩) hb).trans h2, (hw.cell (p := ⟨b, off + 3, none⟩) hb).trans h3⟩
end Go.Proofs.Ytdghanhpeekbhaa
