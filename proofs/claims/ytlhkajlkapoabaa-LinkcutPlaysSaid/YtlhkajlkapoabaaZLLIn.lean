/-
  Arguments of layer 17's laws, as the form hands them in.
-/
import Derived.ProofKit
import Derived.OpenShut
import Derived.ShutString
import Derived.ChangeOld
import Derived.SizedLaws
import Derived.Lib.SmallJoins
import Derived.Deep.Slices
import Derived.Test.YtlhkajlkapoabaaZLL6
namespace Go.Proofs.Ytlhkajlkapoabaa
open Go.ChangeShapes Go.WideShapes Go.ChangeAt Go.RowKit Go.Deep
set_option linter.unusedVariables false

theorem own : ownKnob Try.prog.godebug = none := by kernel_rfl

theorem laidOut : laidOutB Try.prog = true := by kernel_rfl

theorem i64_of_wf {i : Int} (h : (Lit.int .i64 i).wf = true) : I64 i := by
  simp [Lit.wf, IntKind.min, IntKind.max, IntKind.signed, IntKind.bits] at h
  unfold I64; omega

section

variable {H : Type} {enc : TypeId × Value → H} {W : World} {sp : Nat → Bool} {held : Bool}

theorem add_none {b off j : Nat} : (⟨b, off, none⟩ : Addr).add j = ⟨b, off + j, none⟩ := by unfold Addr.add; split <;> simp_all

/-- What an element weighs its slice weighs. -/
theorem weights_all {P : Program} {e : TypeId} : ∀ (l : List (DataW H)) (d : DataW H) (n : Nat), d ∈ l → n ∈ d.weights P e → n ∈ DataW.weightsAll P e l
  | [], _, _, h, _ => by cases h
  | x :: r, d, n, h, hn => by
    simp only [DataW.weightsAll, List.mem_append]
    rcases List.mem_cons.1 h with h | h
    · subst h; exact .inl hn
    · exact .inr (weights_all r d n h hn)

theorem weights_elem {P : Program} {t e : TypeId} {elems spare : List (DataW H)} (ht : P.underlying t = some (.slice e)) {d : DataW H} {n : Nat} (hd : d ∈ elems) (hn : n ∈ d.weights P e) : n ∈ (DataW.slice elems spare).weights P t := by
  simp only [DataW.weights, ht]
  exact List.mem_cons_of_mem _ (List.mem_append_left _ (weights_all elems d n hd hn))

theorem weights_len {P : Program} {t e : TypeId} {elems spare : List (DataW H)} (ht : P.underlying t = some (.slice e)) : (elems.length + spare.length) * P.bytesOf e ∈ (DataW.slice elems spare).weights P t := by
  simp [DataW.weights, ht]

/-- A slice of numbers of one kind, as it came in. -/
theorem nums_in {t e : TypeId} {q : IntKind} {bytes : Nat} (ht : Try.prog.underlying t = some (.slice e)) (he : Try.prog.underlying e = some (.int q)) (hc : Try.prog.cellsOf e = 1) (hb : Try.prog.bytesOf e = bytes) (hb0 : 0 < bytes)
    {fuel : Nat} {v : Value} {y : DataW H × List MemPlace} (h : DataW.trod enc Try.prog W 0 sp held fuel t [v] = some y) (hs : ∀ n ∈ y.1.weights Try.prog t, n ≤ reachBytes) :
    ∃ (A : Option Addr) (len cap : Nat) (zs : List Int), v = .slice A len cap ∧ zs.length = len ∧ len ≤ cap ∧ cap ≤ 9223372036854775807 ∧ len * bytes ≤ 140737488351232 ∧ (∀ z ∈ zs, (Lit.int q z).wf = true) ∧
      (zs = [] ∨ ∃ b off, A = some ⟨b, off, none⟩ ∧ b < W.heap.size ∧ ∀ (i : Nat) z, zs[i]? = some z → W.cell? ⟨b, off + i, none⟩ = some (.int q z)) := by
  rcases open_ints ht he hc h with ⟨hcs, _⟩ | ⟨a, len, cap, zs, hcs, _, hl, hm, hz, hx, hcell, hwz⟩
  · simp at hcs
    subst hcs
    exact ⟨none, 0, 0, [], rfl, rfl, Nat.le_refl _, by omega, by omega, by simp, .inl rfl⟩
  · simp at hcs
    subst hcs
    have hd : y.1 = _ := congrArg Prod.fst hx
    have hreach := hs ((zs.take len |>.length) + (zs.drop len |>.length) |> (· * Try.prog.bytesOf e)) (by
      rw [hd]
      have := weights_len (H := H) (P := Try.prog) (t := t) (e := e) (elems := lits q (zs.take len)) (spare := lits q (zs.drop len)) ht
      simpa [lits] using this)
    rw [hb] at hreach
    simp only [List.length_take, List.length_drop, reachBytes] at hreach
    have hlz : len ≤ zs.length := by rw [hz]; split <;> omega
    have hlen : (zs.take len).length = len := by rw [List.length_take]; omega
    have hmul : len * bytes ≤ (min len zs.length + (zs.length - len)) * bytes := Nat.mul_le_mul_right _ (by omega)
    refine ⟨some a, len, cap, zs.take len, rfl, hlen, by omega, by simpa [maxLen] using hm, by omega, fun z hz => hwz z (List.mem_of_mem_take hz), ?_⟩
    obtain ⟨b, off, spot⟩ := a
    rcases Nat.eq_zero_or_pos len with h0 | h0
    · exact .inl (List.eq_nil_of_length_eq_zero (by omega))
    · have hspot : spot = none := by simpa [Addr.add] using World.cell?_spot (hcell 0 (by omega))
      subst hspot
      have hblt : b < W.heap.size := by
        have := World.block_lt_of_cell? W _ (hcell 0 (by omega))
        simpa [Addr.add] using this
      refine .inr ⟨b, off, rfl, hblt, fun i z hi => ?_⟩
      have hil : i < len := by have := (List.getElem?_eq_some_iff.1 hi).1; omega
      rw [List.getElem?_take, if_pos hil] at hi
      have hc := hcell i (by omega)
      rw [add_none, List.getD, hi] at hc
      simpa using hc

theorem ints_in {fuel : Nat} {v : Value} {y : DataW H × List MemPlace} (h : DataW.trod enc Try.prog W 0 sp held fuel 26 [v] = some y) (hs : ∀ n ∈ y.1.weights Try.prog 26, n ≤ reachBytes) :
    ∃ V, RI W W.heap.size v V ∧ ∀ x ∈ V, I64 x := by
  obtain ⟨A, len, cap, zs, rfl, hz, h1, h2, h3, hw, hc⟩ := nums_in (bytes := 8) Try.underlying26 Try.underlying3 (by kernel_rfl) (by kernel_rfl) (by omega) h hs
  refine ⟨zs, ⟨by omega, A, cap, by rw [hz], by omega, h2, ?_⟩, fun x hx => ?_⟩
  · rcases hc with rfl | ⟨b, off, rfl, hbl, hc⟩
    · exact .inl rfl
    · refine .inr ⟨b, off, rfl, hbl, fun i x hx j u hu => ?_⟩
      match j, hu with
      | 0, hu => simp [encI] at hu; subst hu; simpa using hc i x hx
      | j + 1, hu => simp [encI] at hu
  · have := hw x hx
    simp [Lit.wf, IntKind.min, IntKind.max, IntKind.signed, IntKind.bits] at this
    unfold I64; omega

/-- A slice of structs, as it came in: each element by its cells. -/
theorem structs_in {α : Type} [Inhabited α] {t e : TypeId} (encA : α → List Value) (k bytes : Nat) (hk : ∀ x, (encA x).length = k) (hk0 : 0 < k) (hkb : k ≤ bytes) (P : α → Prop) (ht : Try.prog.underlying t = some (.slice e)) (hc : Try.prog.cellsOf e = k) (hb : Try.prog.bytesOf e = bytes)
    (hel : ∀ (n : Nat) (cs : List Value) (x : DataW H × List MemPlace), cs.length = k → DataW.trod enc Try.prog W 0 sp held n e cs = some x → (∀ m ∈ x.1.weights Try.prog e, m ≤ reachBytes) → ∃ a : α, cs = encA a ∧ P a)
    {fuel : Nat} {v : Value} {y : DataW H × List MemPlace} (h : DataW.trod enc Try.prog W 0 sp held fuel t [v] = some y) (hs : ∀ n ∈ y.1.weights Try.prog t, n ≤ reachBytes) :
    ∃ xs : List α, RK encA k W W.heap.size v xs ∧ xs.length * bytes ≤ 140737488351232 ∧ ∀ x ∈ xs, P x := by
  rcases open_slice ht h with ⟨hcs, _⟩ | ⟨a, len, cap, m, n, D, Pl, hcs, _, hl, hm, hmm, hx, hi⟩
  · simp at hcs
    subst hcs
    exact ⟨[], RK.nil _ _, by simp, by simp⟩
  · simp at hcs
    subst hcs
    have hd : y.1 = _ := congrArg Prod.fst hx
    rw [hd] at hs
    have hreach := hs _ (weights_len ht)
    rw [hb] at hreach
    simp only [List.length_map, List.length_range, reachBytes] at hreach
    have hlm : len ≤ m := by rw [hmm]; split <;> omega
    have hmul : len * bytes ≤ (len + (m - len)) * bytes := Nat.mul_le_mul_right _ (by omega)
    have hmul2 : len * k ≤ len * bytes := Nat.mul_le_mul_left _ hkb
    have each : ∀ i, i < len → ∃ x : α, (∀ (j : Nat) u, (encA x)[j]? = some u → W.cell? ((a.add (i * k)).add j) = some u) ∧ P x := by
      intro i hil
      obtain ⟨cs, h1, h2⟩ := hi i (by omega)
      rw [hc] at h1
      obtain ⟨_, hcl, hat⟩ := World.cells?_some h1
      obtain ⟨x, rfl, hp⟩ := hel n cs _ hcl h2 (fun q hq => hs q (weights_elem ht (List.mem_map.2 ⟨i, List.mem_range.2 hil, rfl⟩) hq))
      refine ⟨x, fun j u hu => ?_, hp⟩
      have hj : j < k := by have := (List.getElem?_eq_some_iff.1 hu).1; rw [hk] at this; exact this
      rw [hat j hj]; exact hu
    obtain ⟨F, hF⟩ := choose_lt each
    have hlen : ((List.range len).map F).length = len := by simp
    refine ⟨(List.range len).map F, ⟨by rw [hlen]; omega, some a, cap, by rw [hlen], by omega, by simpa [maxLen] using hm, ?_⟩, by rw [hlen]; omega, fun x hx => ?_⟩
    · obtain ⟨b, off, spot⟩ := a
      rcases Nat.eq_zero_or_pos len with h0 | h0
      · exact .inl (List.eq_nil_of_length_eq_zero (by omega))
      · have hz0 : 0 < (encA (F 0)).length := by rw [hk]; exact hk0
        have h00 := (hF 0 (by omega)).1 0 _ (List.getElem?_eq_getElem hz0)
        have hspot : spot = none := by simpa [Addr.add] using World.cell?_spot h00
        subst hspot
        have hblt : b < W.heap.size := by
          have := World.block_lt_of_cell? W _ h00
          simpa [Addr.add] using this
        refine .inr ⟨b, off, rfl, hblt, fun i x hi j u hu => ?_⟩
        have hil : i < len := by have := (List.getElem?_eq_some_iff.1 hi).1; omega
        rw [List.getElem?_map, List.getElem?_range hil] at hi
        simp at hi
        subst hi
        have := (hF i hil).1 j u hu
        rw [add_none, add_none] at this
        exact this
    · obtain ⟨i, hi, rfl⟩ := List.mem_map.1 hx
      exact (hF i (List.mem_range.1 hi)).2

theorem int_cell {t : TypeId} (ht : Try.prog.underlying t = some (.int .i64)) {n : Nat} {c : Value} (hc : (DataW.trod enc Try.prog W 0 sp held n t [c]).isSome = true) : ∃ z : Int, c = .int .i64 z ∧ I64 z := by
  obtain ⟨z, hz⟩ := Option.isSome_iff_exists.1 hc
  obtain ⟨q, h3, hx, hw⟩ := DataW.trod_int ht hz
  refine ⟨q, by simpa using h3, ?_⟩
  simp [Lit.wf, IntKind.min, IntKind.max, IntKind.signed, IntKind.bits] at hw
  unfold I64; omega

theorem bool_cell {t : TypeId} (ht : Try.prog.underlying t = some .bool) {n : Nat} {c : Value} (hc : (DataW.trod enc Try.prog W 0 sp held n t [c]).isSome = true) : ∃ z : Bool, c = .bool z := by
  obtain ⟨z, hz⟩ := Option.isSome_iff_exists.1 hc
  obtain ⟨q, h3, hx⟩ := DataW.trod_bool ht hz
  exact ⟨q, by simpa using h3⟩

theorem int_cell2 {n : Nat} {c : Value} (hc : (DataW.trod enc Try.prog W 0 sp held n 2 [c]).isSome = true) : ∃ z : Int, c = .int .i64 z ∧ I64 z := int_cell Try.underlying2 hc

set_option maxRecDepth 100000 in
theorem edge_elem {n : Nat} {cs : List Value} {x : DataW H × List MemPlace} (hl : cs.length = 4) (h : DataW.trod enc Try.prog W 0 sp held n 33 cs = some x) : ∃ id u v wt : Int, cs = [.int .i64 id, .int .i64 u, .int .i64 v, .int .i64 wt] ∧ I64 id ∧ I64 u ∧ I64 v ∧ I64 wt := by
  obtain ⟨xs, n', _, _, _, hxl, hf⟩ := DataW.trod_struct Try.underlying33 h
  match cs, hl with
  | [c1, c2, c3, c4], _ =>
    have hx5 : xs.length = 4 := hxl
    have g : ∀ (j : Nat), j < xs.length → (xs[j]?).isSome = true := fun j hj => by rw [List.getElem?_eq_getElem hj]; rfl
    have f1 : DataW.trod enc Try.prog W 0 sp held n' 3 (([c1, c2, c3, c4].drop 0).take (Try.prog.cellsOf 3)) = xs[0]? := hf 0 _ rfl
    have f2 : DataW.trod enc Try.prog W 0 sp held n' 3 (([c1, c2, c3, c4].drop 1).take (Try.prog.cellsOf 3)) = xs[1]? := hf 1 _ rfl
    have f3 : DataW.trod enc Try.prog W 0 sp held n' 3 (([c1, c2, c3, c4].drop 2).take (Try.prog.cellsOf 3)) = xs[2]? := hf 2 _ rfl
    have f4 : DataW.trod enc Try.prog W 0 sp held n' 2 (([c1, c2, c3, c4].drop 3).take (Try.prog.cellsOf 2)) = xs[3]? := hf 3 _ rfl
    rw [show Try.prog.cellsOf 3 = 1 from by kernel_rfl] at f1 f2 f3
    rw [show Try.prog.cellsOf 2 = 1 from by kernel_rfl] at f4
    obtain ⟨z1, rfl, hz1⟩ := int_cell Try.underlying3 (c := c1) (n := n') (by have := g 0 (by omega); rw [← f1] at this; exact this)
    obtain ⟨z2, rfl, hz2⟩ := int_cell Try.underlying3 (c := c2) (n := n') (by have := g 1 (by omega); rw [← f2] at this; exact this)
    obtain ⟨z3, rfl, hz3⟩ := int_cell Try.underlying3 (c := c3) (n := n') (by have := g 2 (by omega); rw [← f3] at this; exact this)
    obtain ⟨z4, rfl, hz4⟩ := int_cell2 (c := c4) (n := n') (by have := g 3 (by omega); rw [← f4] at this; exact this)
    exact ⟨z1, z2, z3, z4, rfl, hz1, hz2, hz3, hz4⟩

set_option maxRecDepth 100000 in
theorem opL_elem {n : Nat} {cs : List Value} {x : DataW H × List MemPlace} (hl : cs.length = 5) (h : DataW.trod enc Try.prog W 0 sp held n 35 cs = some x) : ∃ o : OpL, cs = encOp o ∧ o.At := by
  obtain ⟨xs, n', _, _, _, hxl, hf⟩ := DataW.trod_struct Try.underlying35 h
  match cs, hl with
  | [c0, c1, c2, c3, c4], _ =>
    have hx5 : xs.length = 2 := hxl
    have g : ∀ (j : Nat), j < xs.length → (xs[j]?).isSome = true := fun j hj => by rw [List.getElem?_eq_getElem hj]; rfl
    have f0 : DataW.trod enc Try.prog W 0 sp held n' 3 (([c0, c1, c2, c3, c4].drop 0).take (Try.prog.cellsOf 3)) = xs[0]? := hf 0 _ rfl
    have f1 : DataW.trod enc Try.prog W 0 sp held n' 33 (([c0, c1, c2, c3, c4].drop 1).take (Try.prog.cellsOf 33)) = xs[1]? := hf 1 _ rfl
    rw [show Try.prog.cellsOf 3 = 1 from by kernel_rfl] at f0
    rw [show Try.prog.cellsOf 33 = 4 from by kernel_rfl] at f1
    obtain ⟨z0, rfl, hz0⟩ := int_cell Try.underlying3 (c := c0) (n := n') (by have := g 0 (by omega); rw [← f0] at this; exact this)
    have h1 := g 1 (by omega)
    rw [← f1] at h1
    obtain ⟨y, hy⟩ := Option.isSome_iff_exists.1 h1
    obtain ⟨id, u, v, wt, he, k1, k2, k3, k4⟩ := edge_elem (cs := [c1, c2, c3, c4]) rfl hy
    injection he with e1 he
    injection he with e2 he
    injection he with e3 he
    injection he with e4 he
    subst e1 e2 e3 e4
    exact ⟨⟨z0, id, u, v, wt⟩, rfl, ⟨k1, k2, k3, k4⟩⟩

theorem lops_in {v : Value} {d : DataW H} {p : List MemPlace} (h : DataW.Trod enc Try.prog W 0 sp held 22 v d p) (hs : ∀ n ∈ d.weights Try.prog 22, n ≤ reachBytes) (hone : v.cells.toList = [v]) :
    ∃ os, ScrL W v os := by
  obtain ⟨fuel, hf⟩ := h
  rw [hone] at hf
  haveI : Inhabited OpL := ⟨⟨0, 0, 0, 0, 0⟩⟩
  obtain ⟨os, h1, h2, h3⟩ := structs_in (e := 35) encOp 5 40 encOp_len (by omega) (by omega) OpL.At Try.underlying22 (by kernel_rfl) (by kernel_rfl) (fun n cs x hl h _ => opL_elem hl h) hf hs
  exact ⟨os, h1, h3⟩

set_option maxRecDepth 100000 in
/-- An edge that came in. -/
theorem edge_arg {r : Reach} {b0 : Nat} {v : Value} {d0 : DataW H} {p0 : List MemPlace} (hok : Value.okWide Try.prog W r b0 33 v) (h0 : DataW.Trod enc Try.prog W 0 sp held 33 v d0 p0) :
    ∃ id u x wt : Int, v = .agg #[.int .i64 id, .int .i64 u, .int .i64 x, .int .i64 wt] ∧ I64 id ∧ I64 u ∧ I64 x ∧ I64 wt := by
  obtain ⟨v0, v1, v2, v3, y0, y1, y2, y3, k, rfl, _, _, h1, h2, h3, h4⟩ := Go.Joins.open_agg4 Try.underlying33 (by kernel_rfl) (by kernel_rfl) hok h0
  obtain ⟨z1, rfl, hz1⟩ := int_cell Try.underlying3 (c := v0) (n := k) (Option.isSome_iff_exists.2 ⟨_, h1⟩)
  obtain ⟨z2, rfl, hz2⟩ := int_cell Try.underlying3 (c := v1) (n := k) (Option.isSome_iff_exists.2 ⟨_, h2⟩)
  obtain ⟨z3, rfl, hz3⟩ := int_cell Try.underlying3 (c := v2) (n := k) (Option.isSome_iff_exists.2 ⟨_, h3⟩)
  obtain ⟨z4, rfl, hz4⟩ := int_cell2 (c := v3) (n := k) (Option.isSome_iff_exists.2 ⟨_, h4⟩)
  exact ⟨z1, z2, z3, z4, rfl, hz1, hz2, hz3, hz4⟩

theorem sized_arg {ts : List TypeId} {ds : List (DataW H)} (hsz : (DataW.weightsEach Try.prog ts ds).all (· ≤ reachBytes) = true) {j : Nat} {t : TypeId} {d : DataW H} (ht : ts[j]? = some t) (hd : ds[j]? = some d) : ∀ n ∈ d.weights Try.prog t, n ≤ reachBytes := fun n hn => by
  have := List.all_eq_true.1 hsz n (DataW.weights_mem_each ht hd n hn)
  simpa using this

end

end Go.Proofs.Ytlhkajlkapoabaa
