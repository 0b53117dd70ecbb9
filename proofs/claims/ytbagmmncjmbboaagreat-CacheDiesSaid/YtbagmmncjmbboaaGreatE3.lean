/-
  An argument that is a list of calls on a disk: it reads as such, within the form's reach.
-/
import Derived.Test.YtbagmmncjmbboaaGreatE2
import Derived.ProofKit
import Derived.OpenShut
import Derived.ShutString
import Derived.ChangeOld
import Derived.SizedLaws
import Derived.Lib.SmallJoins
import Derived.Deep.Slices
namespace Go.Proofs.YtbagmmncjmbboaaGreat
open Go.ChangeShapes Go.WideShapes Go.ChangeAt Go.RowKit Go.Deep
set_option linter.unusedVariables false

theorem own : ownKnob Tryz.prog.godebug = none := by kernel_rfl

theorem laidOut : laidOutB Tryz.prog = true := by kernel_rfl

section

variable {H : Type} {enc : TypeId × Value → H} {W : World} {sp : Nat → Bool} {held : Bool}

theorem add_none {b off j : Nat} : (⟨b, off, none⟩ : Addr).add j = ⟨b, off + j, none⟩ := by unfold Addr.add; split <;> simp_all

/-- What an element weighs its slice weighs. -/
theorem weights_all {P : Program} {e : TypeId} : ∀ (l : List (DataW H)) (d : DataW H) (n : Nat), d ∈ l → n ∈ d.weights P e → n ∈ DataW.weightsAll P e l
  | [], _, _, h, _ => by cases h
  | x :: r, d, n, h, hn => by
    simp only [DataW.weightsAll, List.mem_append]
    rcases List.mem_cons.1 h with h | h
    · subst h; exact .inl hn
    · exact .inr (weights_all r d n h hn)

theorem weights_elem {P : Program} {t e : TypeId} {elems spare : List (DataW H)} (ht : P.underlying t = some (.slice e)) {d : DataW H} {n : Nat} (hd : d ∈ elems) (hn : n ∈ d.weights P e) : n ∈ (DataW.slice elems spare).weights P t := by
  simp only [DataW.weights, ht]
  exact List.mem_cons_of_mem _ (List.mem_append_left _ (weights_all elems d n hd hn))

theorem weights_len {P : Program} {t e : TypeId} {elems spare : List (DataW H)} (ht : P.underlying t = some (.slice e)) : (elems.length + spare.length) * P.bytesOf e ∈ (DataW.slice elems spare).weights P t := by
  simp [DataW.weights, ht]

/-- A slice of numbers of one kind, as it came in. -/
theorem nums_in {t e : TypeId} {q : IntKind} {bytes : Nat} (ht : Tryz.prog.underlying t = some (.slice e)) (he : Tryz.prog.underlying e = some (.int q)) (hc : Tryz.prog.cellsOf e = 1) (hb : Tryz.prog.bytesOf e = bytes) (hb0 : 0 < bytes)
    {fuel : Nat} {v : Value} {y : DataW H × List MemPlace} (h : DataW.trod enc Tryz.prog W 0 sp held fuel t [v] = some y) (hs : ∀ n ∈ y.1.weights Tryz.prog t, n ≤ reachBytes) :
    ∃ (A : Option Addr) (len cap : Nat) (zs : List Int), v = .slice A len cap ∧ zs.length = len ∧ len ≤ cap ∧ cap ≤ 9223372036854775807 ∧ len * bytes ≤ 140737488351232 ∧ (∀ z ∈ zs, (Lit.int q z).wf = true) ∧
      (zs = [] ∨ ∃ b off, A = some ⟨b, off, none⟩ ∧ b < W.heap.size ∧ ∀ (i : Nat) z, zs[i]? = some z → W.cell? ⟨b, off + i, none⟩ = some (.int q z)) := by
  rcases open_ints ht he hc h with ⟨hcs, _⟩ | ⟨a, len, cap, zs, hcs, _, hl, hm, hz, hx, hcell, hwz⟩
  · simp at hcs
    subst hcs
    exact ⟨none, 0, 0, [], rfl, rfl, Nat.le_refl _, by omega, by omega, by simp, .inl rfl⟩
  · simp at hcs
    subst hcs
    have hd : y.1 = _ := congrArg Prod.fst hx
    have hreach := hs ((zs.take len |>.length) + (zs.drop len |>.length) |> (· * Tryz.prog.bytesOf e)) (by
      rw [hd]
      have := weights_len (H := H) (P := Tryz.prog) (t := t) (e := e) (elems := lits q (zs.take len)) (spare := lits q (zs.drop len)) ht
      simpa [lits] using this)
    rw [hb] at hreach
    simp only [List.length_take, List.length_drop, reachBytes] at hreach
    have hlz : len ≤ zs.length := by rw [hz]; split <;> omega
    have hlen : (zs.take len).length = len := by rw [List.length_take]; omega
    have hmul : len * bytes ≤ (min len zs.length + (zs.length - len)) * bytes := Nat.mul_le_mul_right _ (by omega)
    refine ⟨some a, len, cap, zs.take len, rfl, hlen, by omega, by simpa [maxLen] using hm, by omega, fun z hz => hwz z (List.mem_of_mem_take hz), ?_⟩
    obtain ⟨b, off, spot⟩ := a
    rcases Nat.eq_zero_or_pos len with h0 | h0
    · exact .inl (List.eq_nil_of_length_eq_zero (by omega))
    · have hspot : spot = none := by simpa [Addr.add] using World.cell?_spot (hcell 0 (by omega))
      subst hspot
      have hblt : b < W.heap.size := by
        have := World.block_lt_of_cell? W _ (hcell 0 (by omega))
        simpa [Addr.add] using this
      refine .inr ⟨b, off, rfl, hblt, fun i z hi => ?_⟩
      have hil : i < len := by have := (List.getElem?_eq_some_iff.1 hi).1; omega
      rw [List.getElem?_take, if_pos hil] at hi
      have hc := hcell i (by omega)
      rw [add_none, List.getD, hi] at hc
      simpa using hc

theorem bytes_in {fuel : Nat} {v : Value} {y : DataW H × List MemPlace} (h : DataW.trod enc Tryz.prog W 0 sp held fuel 22 [v] = some y) (hs : ∀ n ∈ y.1.weights Tryz.prog 22, n ≤ reachBytes) :
    ∃ l, RB W W.heap.size v l ∧ l.length ≤ 140737488351232 := by
  obtain ⟨A, len, cap, zs, rfl, hz, h1, h2, h3, hw, hc⟩ := nums_in (bytes := 1) Tryz.underlying22 Tryz.underlying5 (by kernel_rfl) (by kernel_rfl) (by omega) h hs
  have hb : ∀ n ∈ zs, 0 ≤ n ∧ n ≤ 255 := by
    intro n hn
    have := hw n hn
    simp [Lit.wf, IntKind.min, IntKind.max, IntKind.signed, IntKind.bits] at this
    omega
  refine ⟨zs.map Int.toNat, ⟨fun x hx => ?_, by rw [List.length_map]; omega, A, cap, by rw [List.length_map, hz], by rw [List.length_map]; omega, h2, ?_⟩, by rw [List.length_map]; omega⟩
  · obtain ⟨n, hn, rfl⟩ := List.mem_map.1 hx
    have := hb n hn
    omega
  · rcases hc with rfl | ⟨b, off, rfl, hbl, hc⟩
    · exact .inl rfl
    · refine .inr ⟨b, off, rfl, hbl, fun j x hx => ?_⟩
      rw [List.getElem?_map] at hx
      cases hz : zs[j]? with
      | none => rw [hz] at hx; cases hx
      | some z =>
        rw [hz] at hx
        injection hx with hx
        have := hb z (List.mem_of_getElem? hz)
        rw [hc j z hz, ← hx]
        congr 2
        omega

theorem ints_in {fuel : Nat} {v : Value} {y : DataW H × List MemPlace} (h : DataW.trod enc Tryz.prog W 0 sp held fuel 33 [v] = some y) (hs : ∀ n ∈ y.1.weights Tryz.prog 33, n ≤ reachBytes) :
    ∃ V, RI W W.heap.size v V ∧ ∀ x ∈ V, I64 x := by
  obtain ⟨A, len, cap, zs, rfl, hz, h1, h2, h3, hw, hc⟩ := nums_in (bytes := 8) Tryz.underlying33 Tryz.underlying3 (by kernel_rfl) (by kernel_rfl) (by omega) h hs
  refine ⟨zs, ⟨by omega, A, cap, by rw [hz], by omega, h2, ?_⟩, fun x hx => ?_⟩
  · rcases hc with rfl | ⟨b, off, rfl, hbl, hc⟩
    · exact .inl rfl
    · refine .inr ⟨b, off, rfl, hbl, fun i x hx j u hu => ?_⟩
      match j, hu with
      | 0, hu => simp [encI] at hu; subst hu; simpa using hc i x hx
      | j + 1, hu => simp [encI] at hu
  · have := hw x hx
    simp [Lit.wf, IntKind.min, IntKind.max, IntKind.signed, IntKind.bits] at this
    unfold I64; omega

/-- A slice of structs, as it came in: each element by its cells. -/
theorem structs_in {α : Type} [Inhabited α] {t e : TypeId} (encA : α → List Value) (k bytes : Nat) (hk : ∀ x, (encA x).length = k) (hk0 : 0 < k) (hkb : k ≤ bytes) (P : α → Prop) (ht : Tryz.prog.underlying t = some (.slice e)) (hc : Tryz.prog.cellsOf e = k) (hb : Tryz.prog.bytesOf e = bytes)
    (hel : ∀ (n : Nat) (cs : List Value) (x : DataW H × List MemPlace), cs.length = k → DataW.trod enc Tryz.prog W 0 sp held n e cs = some x → (∀ m ∈ x.1.weights Tryz.prog e, m ≤ reachBytes) → ∃ a : α, cs = encA a ∧ P a)
    {fuel : Nat} {v : Value} {y : DataW H × List MemPlace} (h : DataW.trod enc Tryz.prog W 0 sp held fuel t [v] = some y) (hs : ∀ n ∈ y.1.weights Tryz.prog t, n ≤ reachBytes) :
    ∃ xs : List α, RK encA k W W.heap.size v xs ∧ xs.length * bytes ≤ 140737488351232 ∧ ∀ x ∈ xs, P x := by
  rcases open_slice ht h with ⟨hcs, _⟩ | ⟨a, len, cap, m, n, D, Pl, hcs, _, hl, hm, hmm, hx, hi⟩
  · simp at hcs
    subst hcs
    exact ⟨[], RK.nil _ _, by simp, by simp⟩
  · simp at hcs
    subst hcs
    have hd : y.1 = _ := congrArg Prod.fst hx
    rw [hd] at hs
    have hreach := hs _ (weights_len ht)
    rw [hb] at hreach
    simp only [List.length_map, List.length_range, reachBytes] at hreach
    have hlm : len ≤ m := by rw [hmm]; split <;> omega
    have hmul : len * bytes ≤ (len + (m - len)) * bytes := Nat.mul_le_mul_right _ (by omega)
    have hmul2 : len * k ≤ len * bytes := Nat.mul_le_mul_left _ hkb
    have each : ∀ i, i < len → ∃ x : α, (∀ (j : Nat) u, (encA x)[j]? = some u → W.cell? ((a.add (i * k)).add j) = some u) ∧ P x := by
      intro i hil
      obtain ⟨cs, h1, h2⟩ := hi i (by omega)
      rw [hc] at h1
      obtain ⟨_, hcl, hat⟩ := World.cells?_some h1
      obtain ⟨x, rfl, hp⟩ := hel n cs _ hcl h2 (fun q hq => hs q (weights_elem ht (List.mem_map.2 ⟨i, List.mem_range.2 hil, rfl⟩) hq))
      refine ⟨x, fun j u hu => ?_, hp⟩
      have hj : j < k := by have := (List.getElem?_eq_some_iff.1 hu).1; rw [hk] at this; exact this
      rw [hat j hj]; exact hu
    obtain ⟨F, hF⟩ := choose_lt each
    have hlen : ((List.range len).map F).length = len := by simp
    refine ⟨(List.range len).map F, ⟨by rw [hlen]; omega, some a, cap, by rw [hlen], by omega, by simpa [maxLen] using hm, ?_⟩, by rw [hlen]; omega, fun x hx => ?_⟩
    · obtain ⟨b, off, spot⟩ := a
      rcases Nat.eq_zero_or_pos len with h0 | h0
      · exact .inl (List.eq_nil_of_length_eq_zero (by omega))
      · have hz0 : 0 < (encA (F 0)).length := by rw [hk]; exact hk0
        have h00 := (hF 0 (by omega)).1 0 _ (List.getElem?_eq_getElem hz0)
        have hspot : spot = none := by simpa [Addr.add] using World.cell?_spot h00
        subst hspot
        have hblt : b < W.heap.size := by
          have := World.block_lt_of_cell? W _ h00
          simpa [Addr.add] using this
        refine .inr ⟨b, off, rfl, hblt, fun i x hi j u hu => ?_⟩
        have hil : i < len := by have := (List.getElem?_eq_some_iff.1 hi).1; omega
        rw [List.getElem?_map, List.getElem?_range hil] at hi
        simp at hi
        subst hi
        have := (hF i hil).1 j u hu
        rw [add_none, add_none] at this
        exact this
    · obtain ⟨i, hi, rfl⟩ := List.mem_map.1 hx
      exact (hF i (List.mem_range.1 hi)).2

theorem int_cell {t : TypeId} (ht : Tryz.prog.underlying t = some (.int .i64)) {n : Nat} {c : Value} (hc : (DataW.trod enc Tryz.prog W 0 sp held n t [c]).isSome = true) : ∃ z : Int, c = .int .i64 z ∧ I64 z := by
  obtain ⟨z, hz⟩ := Option.isSome_iff_exists.1 hc
  obtain ⟨q, h3, hx, hw⟩ := DataW.trod_int ht hz
  refine ⟨q, by simpa using h3, ?_⟩
  simp [Lit.wf, IntKind.min, IntKind.max, IntKind.signed, IntKind.bits] at hw
  unfold I64; omega

set_option maxRecDepth 100000 in
theorem fate_elem {n : Nat} {cs : List Value} {x : DataW H × List MemPlace} (hl : cs.length = 2) (h : DataW.trod enc Tryz.prog W 0 sp held n 73 cs = some x) : ∃ f : Int × Int, cs = encF f ∧ I64 f.1 := by
  obtain ⟨xs, n', _, _, _, hxl, hf⟩ := DataW.trod_struct Tryz.underlying73 h
  match cs, hl with
  | [c0, c1], _ =>
    have hx2 : xs.length = 2 := hxl
    have g : ∀ (j : Nat), j < xs.length → (xs[j]?).isSome = true := fun j hj => by rw [List.getElem?_eq_getElem hj]; rfl
    have f0 : DataW.trod enc Tryz.prog W 0 sp held n' 3 (([c0, c1].drop 0).take (Tryz.prog.cellsOf 3)) = xs[0]? := hf 0 _ rfl
    have f1 : DataW.trod enc Tryz.prog W 0 sp held n' 3 (([c0, c1].drop 1).take (Tryz.prog.cellsOf 3)) = xs[1]? := hf 1 _ rfl
    rw [show Tryz.prog.cellsOf 3 = 1 from by kernel_rfl] at f0 f1
    obtain ⟨z0, rfl, hz⟩ := int_cell Tryz.underlying3 (c := c0) (n := n') (by have := g 0 (by omega); rw [← f0] at this; exact this)
    obtain ⟨z1, rfl, _⟩ := int_cell Tryz.underlying3 (c := c1) (n := n') (by have := g 1 (by omega); rw [← f1] at this; exact this)
    exact ⟨(z0, z1), rfl, hz⟩

theorem fates_in {fuel : Nat} {v : Value} {y : DataW H × List MemPlace} (h : DataW.trod enc Tryz.prog W 0 sp held fuel 38 [v] = some y) (hs : ∀ n ∈ y.1.weights Tryz.prog 38, n ≤ reachBytes) :
    ∃ fs, RF W W.heap.size v fs ∧ ∀ f ∈ fs, I64 f.1 := by
  obtain ⟨fs, h1, _, h2⟩ := structs_in (e := 73) encF 2 16 encF_len (by omega) (by omega) (fun f => I64 f.1) Tryz.underlying38 (by kernel_rfl) (by kernel_rfl) (fun n cs x hl h _ => fate_elem hl h) h hs
  exact ⟨fs, h1, h2⟩

/-- A call with its three slices. -/
structure OpV where
  op : OpD
  dv : Value
  kv : Value
  fv : Value

instance : Inhabited OpV := ⟨⟨⟨0, 0, [], [], []⟩, .slice none 0 0, .slice none 0 0, .slice none 0 0⟩⟩

def encOp (x : OpV) : List Value := [.int .i64 x.op.kind, .int .i64 x.op.i, x.dv, x.kv, x.fv]

theorem encOp_len (x : OpV) : (encOp x).length = 5 := rfl

/-- What is known of calls that came in. -/
structure Script (W : World) (v : Value) (os : List OpV) : Prop where
  rk : RK encOp 5 W W.heap.size v os
  len : os.length ≤ 1000000000000000
  at_ : ∀ x ∈ os, OpAt W x.op x.dv x.kv x.fv ∧ I64 x.op.kind ∧ I64 x.op.i ∧ x.op.data.length ≤ 140737488351232

end

end Go.Proofs.YtbagmmncjmbboaaGreat
