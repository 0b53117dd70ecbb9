/-
  The arguments of DiskPlays, and one call of its script.
-/
import Derived.Test.YtdghanhpeekbhaaB15
import Derived.Test.YtdghanhpeekbhaaB16
import Derived.Test.YtdghanhpeekbhaaB17
import Derived.Test.YtdghanhpeekbhaaE1
namespace Go.Proofs.Ytdghanhpeekbhaa
open Go.ChangeShapes Go.WideShapes Go.ChangeAt Go.RowKit Go.Deep Go.Maps
set_option linter.unusedVariables false

section
variable {H : Type} {enc : TypeId × Value → H} {W : World} {sp : Nat → Bool} {held : Bool}
theorem fates_in2 {fuel : Nat} {v : Value} {y : DataW H × List MemPlace} (h : DataW.trod enc Try.prog W 0 sp held fuel 44 [v] = some y) (hs : ∀ n ∈ y.1.weights Try.prog 44, n ≤ reachBytes) :
    ∃ fs, RF W W.heap.size v fs ∧ (∀ f ∈ fs, I64 f.1) ∧ fs.length * 16 ≤ 140737488351232 := by
  obtain ⟨fs, h1, h3, h2⟩ := structs_in (e := 97) encF 2 16 encF_len (by omega) (by omega) (fun f => I64 f.1) Try.underlying44 (by kernel_rfl) (by kernel_rfl) (fun n cs x hl h _ => fate_elem hl h) h hs
  exact ⟨fs, h1, h2, h3⟩
set_option maxRecDepth 100000 in
theorem op_elem2 {n : Nat} {cs : List Value} {x : DataW H × List MemPlace} (hl : cs.length = 5) (h : DataW.trod enc Try.prog W 0 sp held n 50 cs = some x) (hs : ∀ m ∈ x.1.weights Try.prog 50, m ≤ reachBytes) :
    ∃ a : OpV, cs = encOp a ∧ (OpAt W a.op a.dv a.kv a.fv ∧ I64 a.op.kind ∧ I64 a.op.i ∧ a.op.data.length ≤ 140737488351232 ∧ a.op.fates.length * 16 ≤ 140737488351232) := by
  obtain ⟨xs, n', _, rfl, _, hxl, hf⟩ := DataW.trod_struct Try.underlying50 h
  match cs, hl with
  | [c0, c1, c2, c3, c4], _ =>
    have hx5 : xs.length = 5 := hxl
    have g : ∀ (j : Nat), j < xs.length → (xs[j]?).isSome = true := fun j hj => by rw [List.getElem?_eq_getElem hj]; rfl
    have f0 : DataW.trod enc Try.prog W 0 sp held n' 3 (([c0, c1, c2, c3, c4].drop 0).take (Try.prog.cellsOf 3)) = xs[0]? := hf 0 _ rfl
    have f1 : DataW.trod enc Try.prog W 0 sp held n' 3 (([c0, c1, c2, c3, c4].drop 1).take (Try.prog.cellsOf 3)) = xs[1]? := hf 1 _ rfl
    have f2 : DataW.trod enc Try.prog W 0 sp held n' 22 (([c0, c1, c2, c3, c4].drop 2).take (Try.prog.cellsOf 22)) = xs[2]? := hf 2 _ rfl
    have f3 : DataW.trod enc Try.prog W 0 sp held n' 48 (([c0, c1, c2, c3, c4].drop 3).take (Try.prog.cellsOf 48)) = xs[3]? := hf 3 _ rfl
    have f4 : DataW.trod enc Try.prog W 0 sp held n' 44 (([c0, c1, c2, c3, c4].drop 4).take (Try.prog.cellsOf 44)) = xs[4]? := hf 4 _ rfl
    rw [show Try.prog.cellsOf 3 = 1 from by kernel_rfl] at f0 f1
    rw [show Try.prog.cellsOf 22 = 1 from by kernel_rfl] at f2
    rw [show Try.prog.cellsOf 48 = 1 from by kernel_rfl] at f3
    rw [show Try.prog.cellsOf 44 = 1 from by kernel_rfl] at f4
    obtain ⟨z0, rfl, hz0⟩ := int_cell Try.underlying3 (c := c0) (n := n') (by have := g 0 (by omega); rw [← f0] at this; exact this)
    obtain ⟨z1, rfl, hz1⟩ := int_cell Try.underlying3 (c := c1) (n := n') (by have := g 1 (by omega); rw [← f1] at this; exact this)
    match xs, hx5 with
    | [y0, y1, y2, y3, y4], _ =>
      have hw : ∀ (j : Nat) (t : TypeId) (y : DataW H × List MemPlace), [3, 3, 22, 48, 44][j]? = some t → [y0, y1, y2, y3, y4][j]? = some y → ∀ m ∈ y.1.weights Try.prog t, m ≤ reachBytes := by
        intro j t y ht hy m hm
        refine hs m ?_
        have h1 := DataW.weights_mem_each (ts := [3, 3, 22, 48, 44]) (ds := [y0, y1, y2, y3, y4].map (·.1)) (d := y.1) ht (by rw [List.getElem?_map, hy]; rfl) m hm
        simp only [DataW.weights, Try.underlying50]
        exact h1
      obtain ⟨l, hl, hl2⟩ := bytes_in (v := c2) f2 (hw 2 _ y2 rfl rfl)
      obtain ⟨V, hV, hV2⟩ := ints_in (v := c3) f3 (hw 3 _ y3 rfl rfl)
      obtain ⟨fs, hF, hF2, hF3⟩ := fates_in2 (v := c4) f4 (hw 4 _ y4 rfl rfl)
      exact ⟨⟨⟨z0, z1, l, V, fs⟩, c2, c3, c4⟩, rfl, ⟨hl, hV, hF, hV2, hF2⟩, hz0, hz1, hl2, hF3⟩
/-- What is known of calls that came in. -/
structure Script2 (W : World) (v : Value) (os : List OpV) : Prop where
  rk : RK encOp 5 W W.heap.size v os
  len : os.length ≤ 1000000000000000
  at_ : ∀ x ∈ os, OpAt W x.op x.dv x.kv x.fv ∧ I64 x.op.kind ∧ I64 x.op.i ∧ x.op.data.length ≤ 140737488351232 ∧ x.op.fates.length * 16 ≤ 140737488351232
theorem ops_in2 {v : Value} {d : DataW H} {p : List MemPlace} (h : DataW.Trod enc Try.prog W 0 sp held 40 v d p) (hs : ∀ n ∈ d.weights Try.prog 40, n ≤ reachBytes) (hone : v.cells.toList = [v]) :
    ∃ os, Script2 W v os := by
  obtain ⟨fuel, hf⟩ := h
  rw [hone] at hf
  obtain ⟨os, h1, h2, h3⟩ := structs_in (e := 50) encOp 5 88 encOp_len (by omega) (by omega) (fun a => OpAt W a.op a.dv a.kv a.fv ∧ I64 a.op.kind ∧ I64 a.op.i ∧ a.op.data.length ≤ 140737488351232 ∧ a.op.fates.length * 16 ≤ 140737488351232) Try.underlying40 (by kernel_rfl) (by kernel_rfl) (fun n cs x hl h hw => op_elem2 hl h hw) hf hs
  exact ⟨os, h1, by omega, h3⟩
end
theorem asks7_any (w : World) (p sb mb : Nat) (pl : Option Nat) (s : DS) (B Bf : Nat) (A : Option Addr) (c : Nat) (P : Option Addr) (pn pc : Nat) (xs : List Spt) (fs : List (Int × Int)) (o : OpD) (dv kv fv : Value) (h : AskIn w p sb mb pl s B Bf A c P pn pc xs fs o dv kv fv) :
    Calls Try.prog 17 #[.pointer (some ⟨p, 0, none⟩), refV A c P pn pc s, .agg (opC o dv kv fv)] w (AskOut7 w p sb mb B Bf (s.run o)) := by
  by_cases h1 : o.kind = 1
  · exact asks_read w p sb mb pl s B Bf A c P pn pc xs fs o dv kv fv h h1
  by_cases h2 : o.kind = 2
  · exact asks_write w p sb mb pl s B Bf A c P pn pc xs fs o dv kv fv h h2
  by_cases h3 : o.kind = 3
  · exact asks_sync w p sb mb pl s B Bf A c P pn pc xs fs o dv kv fv h h3
  by_cases h4 : o.kind = 4
  · exact asks_on w p sb mb pl s B Bf A c P pn pc xs fs o dv kv fv h h4
  by_cases h5 : o.kind = 5
  · exact asks_plan w p sb mb pl s B Bf A c P pn pc xs fs o dv kv fv h h5
  exact asks_none w p sb mb pl s B Bf A c P pn pc xs fs o dv kv fv h ⟨h1, h2, h3, h4, h5⟩
end Go.Proofs.Ytdghanhpeekbhaa
