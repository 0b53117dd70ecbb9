/-
  What single operations give, for the steps of a region whose order is drawn.
-/
import Derived.Test.YtbmjiheclagfiaaReg
import Derived.Test.YtbmjiheclagfiaaBase
import Derived.WalkKit
import Derived.WalkLawsBesides
import Derived.Laws.IdiomStrings
namespace Go.Proofs.Ytbmjiheclagfiaa
open Go.RowKit
set_option linter.unusedVariables false

section
variable {a : Act} {ty : TypeId} {pos : String} {d : Option Tmp} {af : Array Edge} {g : Option (Nat × Bool)}
theorem ro_move {x : Tmp} {v : Value} (w : World) (hx : a.tmps.getD x undef = v) :
    (execOp a.eval { dst := d, op := .move (.tmp x), type := ty, pos := pos, after := af, guard := g }).run Try.prog w = .ok (.value v) w := by
  simp only [execOp, Act.eval, hx]; rfl
theorem ro_assign {x : Tmp} {v : Value} (w : World) (hx : a.tmps.getD x undef = v) :
    (execOp a.eval { dst := d, op := .assign (.tmp x), type := ty, pos := pos, after := af, guard := g }).run Try.prog w = .ok (.value v) w := by
  simp only [execOp, Act.eval, hx]; rfl
theorem ro_assignC {v : Value} (w : World) :
    (execOp a.eval { dst := d, op := .assign (.const v), type := ty, pos := pos, after := af, guard := g }).run Try.prog w = .ok (.value v) w := by
  simp only [execOp, Act.eval]; rfl
theorem ro_call1 {x : Tmp} {u : Value} {ts : Array TypeId} {F : Nat} (hF : ∀ (args : Array Value) (w : World), (callFunc F args).run Try.prog w = .ok (.enter F args) w) (w : World) (hx : a.tmps.getD x undef = u) :
    (execOp a.eval { dst := d, op := .call { callee := .value (.func F), args := #[.tmp x], argTypes := ts }, type := ty, pos := pos, after := af, guard := g }).run Try.prog w = .ok (.enter F #[u]) w := by
  have := hF #[u] w
  simp only [execOp, resolve, Act.eval, hx, List.map_toArray, List.map]
  go_simp
theorem ro_call1c {x : Tmp} {u c : Value} {ts : Array TypeId} {F : Nat} (hF : ∀ (args : Array Value) (w : World), (callFunc F args).run Try.prog w = .ok (.enter F args) w) (w : World) (hx : a.tmps.getD x undef = u) :
    (execOp a.eval { dst := d, op := .call { callee := .value (.func F), args := #[.tmp x, .const c], argTypes := ts }, type := ty, pos := pos, after := af, guard := g }).run Try.prog w = .ok (.enter F #[u, c]) w := by
  have := hF #[u, c] w
  simp only [execOp, resolve, Act.eval, hx, List.map_toArray, List.map]
  go_simp
theorem ro_call2 {x y : Tmp} {u v : Value} {ts : Array TypeId} {F : Nat} (hF : ∀ (args : Array Value) (w : World), (callFunc F args).run Try.prog w = .ok (.enter F args) w) (w : World) (hx : a.tmps.getD x undef = u) (hy : a.tmps.getD y undef = v) :
    (execOp a.eval { dst := d, op := .call { callee := .value (.func F), args := #[.tmp x, .tmp y], argTypes := ts }, type := ty, pos := pos, after := af, guard := g }).run Try.prog w = .ok (.enter F #[u, v]) w := by
  have := hF #[u, v] w
  simp only [execOp, resolve, Act.eval, hx, hy, List.map_toArray, List.map]
  go_simp
theorem ro_call3 {x y z : Tmp} {u v q : Value} {ts : Array TypeId} {F : Nat} (hF : ∀ (args : Array Value) (w : World), (callFunc F args).run Try.prog w = .ok (.enter F args) w) (w : World) (hx : a.tmps.getD x undef = u) (hy : a.tmps.getD y undef = v) (hz : a.tmps.getD z undef = q) :
    (execOp a.eval { dst := d, op := .call { callee := .value (.func F), args := #[.tmp x, .tmp y, .tmp z], argTypes := ts }, type := ty, pos := pos, after := af, guard := g }).run Try.prog w = .ok (.enter F #[u, v, q]) w := by
  have := hF #[u, v, q] w
  simp only [execOp, resolve, Act.eval, hx, hy, hz, List.map_toArray, List.map]
  go_simp
theorem ro_build1 {x : Tmp} {n : Int} (w : World) (hx : a.tmps.getD x undef = .int .u8 n) :
    (execOp a.eval { dst := d, op := .buildSlice 22 1 #[(0, .tmp x)], type := ty, pos := pos, after := af, guard := g }).run Try.prog w = .ok (.value (.slice (some ⟨w.heap.size, 0, none⟩) 1 1)) (w.alloc (.cells #[.int .u8 n] 5)) := by
  simp only [execOp, Act.eval, hx, List.map_toArray, List.map]
  go_simp
theorem ro_build2 {x : Tmp} {n c : Int} (w : World) (hx : a.tmps.getD x undef = .int .u8 n) :
    (execOp a.eval { dst := d, op := .buildSlice 22 2 #[(0, .const (.int .u8 c)), (1, .tmp x)], type := ty, pos := pos, after := af, guard := g }).run Try.prog w = .ok (.value (.slice (some ⟨w.heap.size, 0, none⟩) 2 2)) (w.alloc (.cells #[.int .u8 c, .int .u8 n] 5)) := by
  simp only [execOp, Act.eval, hx, List.map_toArray, List.map]
  go_simp
theorem ro_bytes {x : Tmp} {s : ByteArray} (w : World) (hx : a.tmps.getD x undef = .string s) :
    (execOp a.eval { dst := d, op := .convert 9 22 (.tmp x), type := ty, pos := pos, after := af, guard := g }).run Try.prog w = .ok (.value (.slice (some ⟨w.heap.size, 0, none⟩) s.size (grownCap w s.size 0 5)))
      (w.drew.alloc (.cells (bytesRow s (grownCap w s.size 0 5)) 5 ((bytesRow s (grownCap w s.size 0 5)).size, (bytesRow s (grownCap w s.size 0 5)).size + 1))) := by
  have h := run_bytes_of_string (P := Try.prog) w 9 22 5 s Try.underlying9 Try.underlying22 Try.underlying5
  simp only [execOp, Act.eval, hx, Sem.run_bind, h, Result.andThen_ok, Sem.run_pure]
end

/-- A string's bytes as numbers. -/
def strL (s : ByteArray) : List Nat := s.data.toList.map UInt8.toNat
theorem strL_length (s : ByteArray) : (strL s).length = s.size := by simp [strL]
theorem strL_lt (s : ByteArray) : ∀ x ∈ strL s, x < 256 := by
  intro x hx
  simp only [strL, List.mem_map] at hx
  obtain ⟨c, _, rfl⟩ := hx
  exact UInt8.toNat_lt c
/-- '[]byte(s)' reads as s's bytes. -/
theorem RB.ofString (w : World) (s : ByteArray) (hs : s.size ≤ 140737488355328) :
    RB (w.drew.alloc (.cells (bytesRow s (grownCap w s.size 0 5)) 5 ((bytesRow s (grownCap w s.size 0 5)).size, (bytesRow s (grownCap w s.size 0 5)).size + 1)))
      (w.drew.alloc (.cells (bytesRow s (grownCap w s.size 0 5)) 5 ((bytesRow s (grownCap w s.size 0 5)).size, (bytesRow s (grownCap w s.size 0 5)).size + 1))).heap.size (.slice (some ⟨w.heap.size, 0, none⟩) s.size (grownCap w s.size 0 5)) (strL s) := by
  have h1 := grownCap_ge w s.size 0 5
  have h2 := grownCap_le_maxLen w s.size 0 5 (by simp only [maxLen]; omega)
  generalize grownCap w s.size 0 5 = c at h1 h2 ⊢
  refine ⟨strL_lt s, by rw [strL_length]; exact hs, some ⟨w.heap.size, 0, none⟩, c, by rw [strL_length], by rw [strL_length]; exact h1, by simpa [maxLen] using h2, .inr ⟨_, _, rfl, by simp, ?_⟩⟩
  intro j x hj
  have hj' : j < s.size := by have := (List.getElem?_eq_some_iff.1 hj).1; rwa [strL_length] at this
  rw [cell_of_row _ w.heap.size (0 + j) (bytesRow s c) 5 ((bytesRow s c).size, (bytesRow s c).size + 1) (heap_alloc_new w.drew _), Nat.zero_add]
  unfold bytesRow
  have hsz : j < (s.data.map (fun b => Value.int .u8 b.toNat)).size := by simpa using hj'
  rw [Array.getElem?_append_left hsz, Array.getElem?_map]
  simp only [strL, List.getElem?_map, Array.getElem?_toList] at hj
  cases hc : s.data[j]? with
  | none => rw [hc] at hj; simp at hj
  | some b => rw [hc] at hj; simp at hj; subst hj; rfl

/-- Stable: what holds of a slot stays when nothing old is written. -/
def Stable (S : Nat → Value → World → Prop) : Prop := ∀ k v w w', S k v w → Below w.heap.size w w' → S k v w'
end Go.Proofs.Ytbmjiheclagfiaa
