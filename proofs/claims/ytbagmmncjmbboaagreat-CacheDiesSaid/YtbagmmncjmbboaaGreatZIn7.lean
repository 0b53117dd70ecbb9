/-
  Arguments of layer 7's laws, as the form hands them in.
-/
import Derived.Test.YtbagmmncjmbboaaGreatE4
import Derived.Test.YtbagmmncjmbboaaGreatZCA29
import Derived.Test.YtbagmmncjmbboaaGreatE3
namespace Go.Proofs.YtbagmmncjmbboaaGreat
open Go.ChangeShapes Go.WideShapes Go.ChangeAt Go.RowKit Go.Deep
set_option linter.unusedVariables false
section
variable {H : Type} {enc : TypeId × Value → H} {W : World} {sp : Nat → Bool} {held : Bool}
theorem sized_arg {ts : List TypeId} {ds : List (DataW H)} (hsz : (DataW.weightsEach Tryz.prog ts ds).all (· ≤ reachBytes) = true) {j : Nat} {t : TypeId} {d : DataW H} (ht : ts[j]? = some t) (hd : ds[j]? = some d) : ∀ n ∈ d.weights Tryz.prog t, n ≤ reachBytes := fun n hn => by
  have := List.all_eq_true.1 hsz n (DataW.weights_mem_each ht hd n hn)
  simpa using this
theorem ints_arg {v : Value} {d : DataW H} {p : List MemPlace} (h : DataW.Trod enc Tryz.prog W 0 sp held 33 v d p) (hs : ∀ n ∈ d.weights Tryz.prog 33, n ≤ reachBytes) (hone : v.cells.toList = [v]) :
    ∃ V, RI W W.heap.size v V ∧ ∀ x ∈ V, I64 x := by
  obtain ⟨fuel, hf⟩ := h
  rw [hone] at hf
  exact ints_in hf hs
theorem bytes_arg {v : Value} {d : DataW H} {p : List MemPlace} (h : DataW.Trod enc Tryz.prog W 0 sp held 22 v d p) (hs : ∀ n ∈ d.weights Tryz.prog 22, n ≤ reachBytes) (hone : v.cells.toList = [v]) :
    ∃ l, RB W W.heap.size v l ∧ l.length ≤ 140737488351232 := by
  obtain ⟨fuel, hf⟩ := h
  rw [hone] at hf
  exact bytes_in hf hs
end
end Go.Proofs.YtbagmmncjmbboaaGreat

/-
  Arguments of layer 10's laws, as the form hands them in: slices of calls.
-/
namespace Go.Proofs.YtbagmmncjmbboaaGreat
open Go.ChangeShapes Go.WideShapes Go.ChangeAt Go.RowKit Go.Deep
set_option linter.unusedVariables false

instance : Inhabited OpK := ⟨⟨0, 0, none, 0, 0, none, 0, 0, [], []⟩⟩

section
variable {H : Type} {enc : TypeId × Value → H} {W : World} {sp : Nat → Bool} {held : Bool}

set_option maxRecDepth 100000 in
theorem opk_elem {n : Nat} {cs : List Value} {x : DataW H × List MemPlace} (hl : cs.length = 4) (h : DataW.trod enc Tryz.prog W 0 sp held n 43 cs = some x) (hs : ∀ m ∈ x.1.weights Tryz.prog 43, m ≤ reachBytes) :
    ∃ a : OpK, cs = encK a ∧ OpKAt W a := by
  obtain ⟨xs, n', _, rfl, _, hxl, hf⟩ := DataW.trod_struct Tryz.underlying43 h
  match cs, hl with
  | [c0, c1, c2, c3], _ =>
    have hx4 : xs.length = 4 := hxl
    have g : ∀ (j : Nat), j < xs.length → (xs[j]?).isSome = true := fun j hj => by rw [List.getElem?_eq_getElem hj]; rfl
    have f0 : DataW.trod enc Tryz.prog W 0 sp held n' 3 (([c0, c1, c2, c3].drop 0).take (Tryz.prog.cellsOf 3)) = xs[0]? := hf 0 _ rfl
    have f1 : DataW.trod enc Tryz.prog W 0 sp held n' 3 (([c0, c1, c2, c3].drop 1).take (Tryz.prog.cellsOf 3)) = xs[1]? := hf 1 _ rfl
    have f2 : DataW.trod enc Tryz.prog W 0 sp held n' 22 (([c0, c1, c2, c3].drop 2).take (Tryz.prog.cellsOf 22)) = xs[2]? := hf 2 _ rfl
    have f3 : DataW.trod enc Tryz.prog W 0 sp held n' 38 (([c0, c1, c2, c3].drop 3).take (Tryz.prog.cellsOf 38)) = xs[3]? := hf 3 _ rfl
    rw [show Tryz.prog.cellsOf 3 = 1 from by kernel_rfl] at f0 f1
    rw [show Tryz.prog.cellsOf 22 = 1 from by kernel_rfl] at f2
    rw [show Tryz.prog.cellsOf 38 = 1 from by kernel_rfl] at f3
    obtain ⟨z0, rfl, hz0⟩ := int_cell Tryz.underlying3 (c := c0) (n := n') (by have := g 0 (by omega); rw [← f0] at this; exact this)
    obtain ⟨z1, rfl, hz1⟩ := int_cell Tryz.underlying3 (c := c1) (n := n') (by have := g 1 (by omega); rw [← f1] at this; exact this)
    match xs, hx4 with
    | [y0, y1, y2, y3], _ =>
      have hw : ∀ (j : Nat) (t : TypeId) (y : DataW H × List MemPlace), [3, 3, 22, 38][j]? = some t → [y0, y1, y2, y3][j]? = some y → ∀ m ∈ y.1.weights Tryz.prog t, m ≤ reachBytes := by
        intro j t y ht hy m hm
        refine hs m ?_
        have h1 := DataW.weights_mem_each (ts := [3, 3, 22, 38]) (ds := [y0, y1, y2, y3].map (·.1)) (d := y.1) ht (by rw [List.getElem?_map, hy]; rfl) m hm
        simp only [DataW.weights, Tryz.underlying43]
        exact h1
      obtain ⟨l, hl, hl2⟩ := bytes_in (v := c2) f2 (hw 2 _ y2 rfl rfl)
      obtain ⟨fs, hF, hF2⟩ := fates_in (v := c3) f3 (hw 3 _ y3 rfl rfl)
      obtain ⟨dA, dc, rfl, -, -, -, -⟩ := hl.open_
      obtain ⟨fA, fc, rfl, -, -, -, -⟩ := hF.open_
      exact ⟨⟨z0, z1, dA, l.length, dc, fA, fs.length, fc, l, fs⟩, rfl, ⟨hl, hz1, hz0⟩⟩

theorem kops_in {v : Value} {d : DataW H} {p : List MemPlace} (h : DataW.Trod enc Tryz.prog W 0 sp held 23 v d p) (hs : ∀ n ∈ d.weights Tryz.prog 23, n ≤ reachBytes) (hone : v.cells.toList = [v]) :
    ∃ os, OpsK W v os ∧ os.length * 64 ≤ 140737488351232 := by
  obtain ⟨fuel, hf⟩ := h
  rw [hone] at hf
  obtain ⟨os, h1, h2, h3⟩ := structs_in (e := 43) encK 4 64 encK_len (by omega) (by omega) (fun a => OpKAt W a) Tryz.underlying23 (by kernel_rfl) (by kernel_rfl) (fun n cs x hl h hw => opk_elem hl h hw) hf hs
  exact ⟨os, ⟨h1, h3⟩, h2⟩
end
end Go.Proofs.YtbagmmncjmbboaaGreat

/-
  The same as CAIn, and each item's length is bounded.
-/
namespace Go.Proofs.YtbagmmncjmbboaaGreat
open Go.ChangeShapes Go.WideShapes Go.ChangeAt Go.RowKit Go.Deep
set_option linter.unusedVariables false


section
variable {H : Type} {enc : TypeId × Value → H} {W : World} {sp : Nat → Bool} {held : Bool}

set_option maxRecDepth 100000 in
theorem opk_elem2 {n : Nat} {cs : List Value} {x : DataW H × List MemPlace} (hl : cs.length = 4) (h : DataW.trod enc Tryz.prog W 0 sp held n 43 cs = some x) (hs : ∀ m ∈ x.1.weights Tryz.prog 43, m ≤ reachBytes) :
    ∃ a : OpK, cs = encK a ∧ OpKAt W a ∧ a.item.length ≤ 140737488351232 := by
  obtain ⟨xs, n', _, rfl, _, hxl, hf⟩ := DataW.trod_struct Tryz.underlying43 h
  match cs, hl with
  | [c0, c1, c2, c3], _ =>
    have hx4 : xs.length = 4 := hxl
    have g : ∀ (j : Nat), j < xs.length → (xs[j]?).isSome = true := fun j hj => by rw [List.getElem?_eq_getElem hj]; rfl
    have f0 : DataW.trod enc Tryz.prog W 0 sp held n' 3 (([c0, c1, c2, c3].drop 0).take (Tryz.prog.cellsOf 3)) = xs[0]? := hf 0 _ rfl
    have f1 : DataW.trod enc Tryz.prog W 0 sp held n' 3 (([c0, c1, c2, c3].drop 1).take (Tryz.prog.cellsOf 3)) = xs[1]? := hf 1 _ rfl
    have f2 : DataW.trod enc Tryz.prog W 0 sp held n' 22 (([c0, c1, c2, c3].drop 2).take (Tryz.prog.cellsOf 22)) = xs[2]? := hf 2 _ rfl
    have f3 : DataW.trod enc Tryz.prog W 0 sp held n' 38 (([c0, c1, c2, c3].drop 3).take (Tryz.prog.cellsOf 38)) = xs[3]? := hf 3 _ rfl
    rw [show Tryz.prog.cellsOf 3 = 1 from by kernel_rfl] at f0 f1
    rw [show Tryz.prog.cellsOf 22 = 1 from by kernel_rfl] at f2
    rw [show Tryz.prog.cellsOf 38 = 1 from by kernel_rfl] at f3
    obtain ⟨z0, rfl, hz0⟩ := int_cell Tryz.underlying3 (c := c0) (n := n') (by have := g 0 (by omega); rw [← f0] at this; exact this)
    obtain ⟨z1, rfl, hz1⟩ := int_cell Tryz.underlying3 (c := c1) (n := n') (by have := g 1 (by omega); rw [← f1] at this; exact this)
    match xs, hx4 with
    | [y0, y1, y2, y3], _ =>
      have hw : ∀ (j : Nat) (t : TypeId) (y : DataW H × List MemPlace), [3, 3, 22, 38][j]? = some t → [y0, y1, y2, y3][j]? = some y → ∀ m ∈ y.1.weights Tryz.prog t, m ≤ reachBytes := by
        intro j t y ht hy m hm
        refine hs m ?_
        have h1 := DataW.weights_mem_each (ts := [3, 3, 22, 38]) (ds := [y0, y1, y2, y3].map (·.1)) (d := y.1) ht (by rw [List.getElem?_map, hy]; rfl) m hm
        simp only [DataW.weights, Tryz.underlying43]
        exact h1
      obtain ⟨l, hl, hl2⟩ := bytes_in (v := c2) f2 (hw 2 _ y2 rfl rfl)
      obtain ⟨fs, hF, hF2⟩ := fates_in (v := c3) f3 (hw 3 _ y3 rfl rfl)
      obtain ⟨dA, dc, rfl, -, -, -, -⟩ := hl.open_
      obtain ⟨fA, fc, rfl, -, -, -, -⟩ := hF.open_
      exact ⟨⟨z0, z1, dA, l.length, dc, fA, fs.length, fc, l, fs⟩, rfl, ⟨hl, hz1, hz0⟩, hl2⟩

theorem kops_in2 {v : Value} {d : DataW H} {p : List MemPlace} (h : DataW.Trod enc Tryz.prog W 0 sp held 23 v d p) (hs : ∀ n ∈ d.weights Tryz.prog 23, n ≤ reachBytes) (hone : v.cells.toList = [v]) :
    ∃ os, OpsK W v os ∧ os.length * 64 ≤ 140737488351232 ∧ ∀ x ∈ os, x.item.length ≤ 140737488351232 := by
  obtain ⟨fuel, hf⟩ := h
  rw [hone] at hf
  obtain ⟨os, h1, h2, h3⟩ := structs_in (e := 43) encK 4 64 encK_len (by omega) (by omega) (fun a => OpKAt W a ∧ a.item.length ≤ 140737488351232) Tryz.underlying23 (by kernel_rfl) (by kernel_rfl) (fun n cs x hl h hw => opk_elem2 hl h hw) hf hs
  exact ⟨os, ⟨h1, fun x hx => (h3 x hx).1⟩, h2, fun x hx => (h3 x hx).2⟩
end
end Go.Proofs.YtbagmmncjmbboaaGreat
