/-
  An argument that is a net: it reads as vertices and edges, within the form's reach.
-/
import Derived.Test.YtghacfhpafbdmaaGreatG5
import Derived.ProofKit
import Derived.OpenShut
import Derived.ShutString
import Derived.ChangeOld
import Derived.SizedLaws
import Derived.Lib.SmallJoins
import Derived.Deep.Slices
namespace Go.Proofs.YtghacfhpafbdmaaGreat
open Go.ChangeShapes Go.WideShapes Go.ChangeAt Go.RowKit Go.Deep
set_option linter.unusedVariables false

theorem own : ownKnob Tryz.prog.godebug = none := by kernel_rfl
theorem laidOut : laidOutB Tryz.prog = true := by kernel_rfl

section
variable {H : Type} {enc : TypeId × Value → H} {W : World} {sp : Nat → Bool} {held : Bool}
/-- The sum of an address whose cell is there. -/
theorem add_none {b off j : Nat} : (⟨b, off, none⟩ : Addr).add j = ⟨b, off + j, none⟩ := by unfold Addr.add; split <;> simp_all

theorem ints_in {fuel : Nat} {v : Value} {y : DataW H × List MemPlace} (h : DataW.trod enc Tryz.prog W 0 sp held fuel 22 [v] = some y)
    (hs : ∀ elems spare, y.1 = .slice elems spare → (elems.length + spare.length) * Tryz.prog.bytesOf 3 ≤ reachBytes) : ∃ V, RI W W.heap.size v V := by
  rcases open_ints Tryz.underlying22 Tryz.underlying3 (by kernel_rfl) h with ⟨hcs, _⟩ | ⟨a, len, cap, zs, hcs, _, hl, hm, hz, hx, hcell, hwz⟩
  · simp at hcs
    subst hcs
    exact ⟨[], RK.nil _ _⟩
  · simp at hcs
    subst hcs
    have hd : y.1 = _ := congrArg Prod.fst hx
    have hreach := hs _ _ hd
    rw [show Tryz.prog.bytesOf 3 = 8 from by kernel_rfl] at hreach
    simp only [lits, List.length_map, List.length_take, List.length_drop, reachBytes] at hreach
    have hlz : len ≤ zs.length := by rw [hz]; split <;> omega
    have hlen : (zs.take len).length = len := by rw [List.length_take]; omega
    refine ⟨zs.take len, by omega, some a, cap, by rw [hlen], by omega, by simpa [maxLen] using hm, ?_⟩
    obtain ⟨b, off, spot⟩ := a
    rcases Nat.eq_zero_or_pos len with h0 | h0
    · exact .inl (List.eq_nil_of_length_eq_zero (by omega))
    · have hspot : spot = none := by simpa [Addr.add] using World.cell?_spot (hcell 0 (by omega))
      subst hspot
      have hblt : b < W.heap.size := by
        have := World.block_lt_of_cell? W _ (hcell 0 (by omega))
        simpa [Addr.add] using this
      refine .inr ⟨b, off, rfl, hblt, fun i x hi j u hu => ?_⟩
      have hil : i < len := by have := (List.getElem?_eq_some_iff.1 hi).1; omega
      rw [List.getElem?_take, if_pos hil] at hi
      have hc := hcell i (by omega)
      rw [add_none, List.getD, hi] at hc
      match j, hu with
      | 0, hu =>
        simp [encI] at hu
        subst hu
        simpa using hc
      | j + 1, hu => simp [encI] at hu

set_option maxRecDepth 100000 in
theorem edges_in {fuel : Nat} {v : Value} {y : DataW H × List MemPlace} (h : DataW.trod enc Tryz.prog W 0 sp held fuel 23 [v] = some y)
    (hs : ∀ elems spare, y.1 = .slice elems spare → (elems.length + spare.length) * Tryz.prog.bytesOf 47 ≤ reachBytes) : ∃ E, RE W W.heap.size v E := by
  rcases open_slice Tryz.underlying23 h with ⟨hcs, _⟩ | ⟨a, len, cap, m, n, D, Pl, hcs, _, hl, hm, hmm, hx, hi⟩
  · simp at hcs
    subst hcs
    exact ⟨[], RK.nil _ _⟩
  · simp at hcs
    subst hcs
    have hd : y.1 = _ := congrArg Prod.fst hx
    have hreach := hs _ _ hd
    rw [show Tryz.prog.bytesOf 47 = 32 from by kernel_rfl] at hreach
    simp only [List.length_map, List.length_range, reachBytes] at hreach
    have hlm : len ≤ m := by rw [hmm]; split <;> omega
    have each : ∀ i, i < m → ∃ e : Ed, ∀ (j : Nat) u, (encE e)[j]? = some u → W.cell? ((a.add (i * 4)).add j) = some u := by
      intro i him
      obtain ⟨cs, h1, h2⟩ := hi i him
      rw [show Tryz.prog.cellsOf 47 = 4 from by kernel_rfl] at h1
      obtain ⟨_, hcl, hat⟩ := World.cells?_some h1
      obtain ⟨xs, n', _, _, _, hxl, hf⟩ := DataW.trod_struct Tryz.underlying47 h2
      match cs, hcl with
      | [c0, c1, c2, c3], _ =>
        have k : ∀ (t : Nat) (ht : Tryz.prog.underlying t = some (.int .i64)) (c : Value), (DataW.trod enc Tryz.prog W 0 sp held n' t [c]).isSome = true → ∃ z : Int, c = .int .i64 z := by
          intro t ht c hc
          obtain ⟨z, hz⟩ := Option.isSome_iff_exists.1 hc
          obtain ⟨q, h3, _⟩ := DataW.trod_int ht hz
          exact ⟨q, by simpa using h3⟩
        have g : ∀ (j : Nat), j < xs.length → (xs[j]?).isSome = true := fun j hj => by rw [List.getElem?_eq_getElem hj]; rfl
        have hx4 : xs.length = 4 := hxl
        have f0 : DataW.trod enc Tryz.prog W 0 sp held n' 3 (([c0, c1, c2, c3].drop 0).take (Tryz.prog.cellsOf 3)) = xs[0]? := hf 0 _ rfl
        have f1 : DataW.trod enc Tryz.prog W 0 sp held n' 3 (([c0, c1, c2, c3].drop 1).take (Tryz.prog.cellsOf 3)) = xs[1]? := hf 1 _ rfl
        have f2 : DataW.trod enc Tryz.prog W 0 sp held n' 3 (([c0, c1, c2, c3].drop 2).take (Tryz.prog.cellsOf 3)) = xs[2]? := hf 2 _ rfl
        have f3 : DataW.trod enc Tryz.prog W 0 sp held n' 2 (([c0, c1, c2, c3].drop 3).take (Tryz.prog.cellsOf 2)) = xs[3]? := hf 3 _ rfl
        rw [show Tryz.prog.cellsOf 3 = 1 from by kernel_rfl] at f0 f1 f2
        rw [show Tryz.prog.cellsOf 2 = 1 from by kernel_rfl] at f3
        obtain ⟨z0, rfl⟩ := k 3 Tryz.underlying3 c0 (by have := g 0 (by omega); rw [← f0] at this; exact this)
        obtain ⟨z1, rfl⟩ := k 3 Tryz.underlying3 c1 (by have := g 1 (by omega); rw [← f1] at this; exact this)
        obtain ⟨z2, rfl⟩ := k 3 Tryz.underlying3 c2 (by have := g 2 (by omega); rw [← f2] at this; exact this)
        obtain ⟨z3, rfl⟩ := k 2 Tryz.underlying2 c3 (by have := g 3 (by omega); rw [← f3] at this; exact this)
        refine ⟨⟨z0, z1, z2, z3⟩, fun j u hu => ?_⟩
        have hj : j < 4 := (List.getElem?_eq_some_iff.1 hu).1
        rw [hat j hj]
        exact hu
    obtain ⟨F, hF⟩ := choose_lt each
    have hlen : ((List.range len).map F).length = len := by simp
    refine ⟨(List.range len).map F, by omega, some a, cap, by rw [hlen], by omega, by simpa [maxLen] using hm, ?_⟩
    obtain ⟨b, off, spot⟩ := a
    rcases Nat.eq_zero_or_pos len with h0 | h0
    · exact .inl (List.eq_nil_of_length_eq_zero (by omega))
    · have h00 := hF 0 (by omega) 0 _ rfl
      have hspot : spot = none := by simpa [Addr.add] using World.cell?_spot h00
      subst hspot
      have hblt : b < W.heap.size := by
        have := World.block_lt_of_cell? W _ h00
        simpa [Addr.add] using this
      refine .inr ⟨b, off, rfl, hblt, fun i x hi j u hu => ?_⟩
      have hil : i < len := by have := (List.getElem?_eq_some_iff.1 hi).1; omega
      rw [List.getElem?_map, List.getElem?_range hil] at hi
      simp at hi
      subst hi
      have := hF i (by omega) j u hu
      rw [add_none, add_none] at this
      exact this

set_option maxRecDepth 100000 in
/-- The argument: its two slices. -/
theorem net_in {r : Reach} {b0 : Nat} {v : Value} {d : DataW H} {p : List MemPlace} {ts : List TypeId} {ds : List (DataW H)} {j : Nat} (hok : Value.okWide Tryz.prog W r b0 25 v)
    (h0 : DataW.Trod enc Tryz.prog W 0 sp held 25 v d p) (hsz : (DataW.weightsEach Tryz.prog ts ds).all (· ≤ reachBytes) = true) (ht : ts[j]? = some 25) (hd : ds[j]? = some d) :
    ∃ sv se V E, v = netV sv se ∧ RI W W.heap.size sv V ∧ RE W W.heap.size se E := by
  obtain ⟨v0, v1, y0, y1, k, rfl, rfl, _, h1, h2⟩ := Go.Joins.open_agg2 Tryz.underlying25 (by kernel_rfl) (by kernel_rfl) hok h0
  have hs : (DataW.weightsEach Tryz.prog [22, 23] [y0.1, y1.1]).all (· ≤ reachBytes) = true := by
    refine List.all_eq_true.2 fun n hn => (List.all_eq_true.1 hsz) n (DataW.weights_mem_each ht hd n ?_)
    simp only [DataW.weights, Tryz.underlying25]
    exact hn
  obtain ⟨V, hV⟩ := ints_in h1 fun elems spare e => sized_slice hs (j := 0) (t := 22) (e := 3) rfl (by rw [← e]; rfl) Tryz.underlying22
  obtain ⟨E, hE⟩ := edges_in h2 fun elems spare e => sized_slice hs (j := 1) (t := 23) (e := 47) rfl (by rw [← e]; rfl) Tryz.underlying23
  exact ⟨v0, v1, V, E, rfl, hV, hE⟩
end
end Go.Proofs.YtghacfhpafbdmaaGreat
