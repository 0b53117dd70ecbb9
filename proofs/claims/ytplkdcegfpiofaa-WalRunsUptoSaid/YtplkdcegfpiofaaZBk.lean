/-
  What the bound of the '..UptoSaid' statements gives for nested arguments: every weight is within the form's reach. No walk.
-/
import Derived.JoinedCond
import Derived.Test.YtplkdcegfpiofaaYIn71
import Derived.Test.YtplkdcegfpiofaaZV33
namespace Go.Proofs.Ytplkdcegfpiofaa
open Go.ChangeShapes Go.WideShapes Go.ChangeAt Go.RowKit
set_option linter.unusedVariables false

theorem bulk_one {H : Type} (d : DataW H) : 1 ≤ Rows.uptoBulk d := by
  cases d with
  | lit l => cases l <;> simp [Rows.uptoBulk]
  | nil => simp [Rows.uptoBulk]
  | ptr d => simp [Rows.uptoBulk]
  | slice elems spare => simp [Rows.uptoBulk]
  | agg parts => simp [Rows.uptoBulk]
  | iface t d => simp [Rows.uptoBulk]
  | map entries => simp [Rows.uptoBulk]
  | held h => simp [Rows.uptoBulk]
theorem bulk_length {H : Type} : ∀ l : List (DataW H), l.length ≤ Rows.uptoBulkAll l
  | [] => by simp [Rows.uptoBulkAll]
  | x :: r => by
    have h1 := bulk_one x
    have h2 := bulk_length r
    simp only [Rows.uptoBulkAll, List.length_cons]
    omega
theorem entry_one {H : Type} (x : Lit × DataW H) : 1 ≤ Rows.uptoBulkEntry x := by
  obtain ⟨l, d⟩ := x
  cases l <;> simp [Rows.uptoBulkEntry]
theorem entries_length {H : Type} : ∀ l : List (Lit × DataW H), l.length ≤ Rows.uptoBulkEntries l
  | [] => by simp [Rows.uptoBulkEntries]
  | x :: r => by
    have h1 := entry_one x
    have h2 := entries_length r
    simp only [Rows.uptoBulkEntries, List.length_cons]
    omega
/-- The types below N lead to such alone, and none is larger than M bytes. -/
structure Closed (P : Program) (N M : Nat) : Prop where
  bytes : ∀ t, t < N → P.bytesOf t ≤ M
  slice : ∀ t e, t < N → P.underlying t = some (.slice e) → e < N
  ptr : ∀ t e, t < N → P.underlying t = some (.pointer e) → e < N
  array : ∀ t n e, t < N → P.underlying t = some (.array n e) → e < N
  map : ∀ t k e, t < N → P.underlying t = some (.map k e) → k < N ∧ e < N
  struct : ∀ t fs, t < N → P.underlying t = some (.struct fs) → ∀ f ∈ fs.toList.map (·.type), f < N

mutual
theorem wb {H : Type} {P : Program} {M N : Nat} (hM : Closed P N M) (h1 : 1 ≤ M) (t : TypeId) (ht : t < N) : ∀ d : DataW H, ∀ n ∈ d.weights P t, n ≤ 2 * M * Rows.uptoBulk d
  | .lit (.string bytes), n, h => by
    simp only [DataW.weights, List.mem_singleton] at h
    subst h
    simp only [Rows.uptoBulk]
    have := Nat.mul_le_mul_right (bytes.length + 1) (show 1 ≤ 2 * M by omega)
    omega
  | .lit (.bool _), n, h => by simp [DataW.weights] at h
  | .lit (.int _ _), n, h => by simp [DataW.weights] at h
  | .lit (.float _ _), n, h => by simp [DataW.weights] at h
  | .lit .nil, n, h => by simp [DataW.weights] at h
  | .nil, n, h => by simp [DataW.weights] at h
  | .ptr d, n, h => by
    simp only [DataW.weights] at h
    split at h
    · rename_i e he
      have := wb hM h1 _ (hM.ptr t e ht he) d n h
      simp only [Rows.uptoBulk]
      have h2 : 2 * M * Rows.uptoBulk d ≤ 2 * M * (Rows.uptoBulk d + 1) := Nat.mul_le_mul_left _ (by omega)
      omega
    · simp at h
  | .slice elems spare, n, h => by
    simp only [DataW.weights] at h
    split at h
    · rename_i e he
      have hte := hM.slice t e ht he
      simp only [Rows.uptoBulk]
      rcases List.mem_cons.1 h with h | h
      · subst h
        have h2 := bulk_length elems
        have h3 := bulk_length spare
        have h4 : (elems.length + spare.length) * P.bytesOf e ≤ (Rows.uptoBulkAll elems + Rows.uptoBulkAll spare + 1) * (2 * M) := Nat.mul_le_mul (by omega) (by have := hM.bytes e hte; omega)
        rw [Nat.mul_comm] at h4
        rw [Nat.mul_comm (elems.length + spare.length)]
        rw [Nat.mul_comm (Rows.uptoBulkAll elems + Rows.uptoBulkAll spare + 1)] at h4
        exact h4
      · rcases List.mem_append.1 h with h | h
        · have := wbAll hM h1 e hte elems n h
          have h2 : 2 * M * Rows.uptoBulkAll elems ≤ 2 * M * (Rows.uptoBulkAll elems + Rows.uptoBulkAll spare + 1) := Nat.mul_le_mul_left _ (by omega)
          omega
        · have := wbAll hM h1 e hte spare n h
          have h2 : 2 * M * Rows.uptoBulkAll spare ≤ 2 * M * (Rows.uptoBulkAll elems + Rows.uptoBulkAll spare + 1) := Nat.mul_le_mul_left _ (by omega)
          omega
    · simp at h
  | .agg parts, n, h => by
    simp only [DataW.weights] at h
    simp only [Rows.uptoBulk]
    have h2 : 2 * M * Rows.uptoBulkAll parts ≤ 2 * M * (Rows.uptoBulkAll parts + 1) := Nat.mul_le_mul_left _ (by omega)
    split at h
    · rename_i fs he; have := wbEach hM h1 _ (hM.struct t fs ht he) parts n h; omega
    · rename_i m e he; have := wbAll hM h1 _ (hM.array t m e ht he) parts n h; omega
    · simp at h
  | .iface _ _, n, h => by simp [DataW.weights] at h
  | .map entries, n, h => by
    simp only [DataW.weights] at h
    split at h
    · rename_i k e he
      have hke := hM.map t k e ht he
      simp only [Rows.uptoBulk]
      rcases List.mem_cons.1 h with h | h
      · subst h
        have h2 := entries_length entries
        have h3 : entries.length * (P.bytesOf k + P.bytesOf e) ≤ (Rows.uptoBulkEntries entries + 1) * (2 * M) := Nat.mul_le_mul (by omega) (by have := hM.bytes e hke.2; have := hM.bytes k hke.1; omega)
        rw [Nat.mul_comm (Rows.uptoBulkEntries entries + 1)] at h3
        exact h3
      · have := wbEntries hM h1 e hke.2 entries n h
        have h2 : 2 * M * Rows.uptoBulkEntries entries ≤ 2 * M * (Rows.uptoBulkEntries entries + 1) := Nat.mul_le_mul_left _ (by omega)
        omega
    · simp at h
  | .held _, n, h => by simp [DataW.weights] at h
theorem wbAll {H : Type} {P : Program} {M N : Nat} (hM : Closed P N M) (h1 : 1 ≤ M) (e : TypeId) (ht : e < N) : ∀ l : List (DataW H), ∀ n ∈ DataW.weightsAll P e l, n ≤ 2 * M * Rows.uptoBulkAll l
  | [], n, h => by simp [DataW.weightsAll] at h
  | d :: r, n, h => by
    simp only [DataW.weightsAll] at h
    simp only [Rows.uptoBulkAll, Nat.mul_add]
    rcases List.mem_append.1 h with h | h
    · have := wb hM h1 e ht d n h; omega
    · have := wbAll hM h1 e ht r n h; omega
theorem wbEach {H : Type} {P : Program} {M N : Nat} (hM : Closed P N M) (h1 : 1 ≤ M) : ∀ (ts : List TypeId) (hts : ∀ t ∈ ts, t < N) (l : List (DataW H)), ∀ n ∈ DataW.weightsEach P ts l, n ≤ 2 * M * Rows.uptoBulkAll l
  | [], _, l, n, h => by simp [DataW.weightsEach] at h
  | t :: ts, _, [], n, h => by simp [DataW.weightsEach] at h
  | t :: ts, hts, d :: r, n, h => by
    simp only [DataW.weightsEach] at h
    simp only [Rows.uptoBulkAll, Nat.mul_add]
    rcases List.mem_append.1 h with h | h
    · have := wb hM h1 t (hts t (by simp)) d n h; omega
    · have := wbEach hM h1 ts (fun u hu => hts u (by simp [hu])) r n h; omega
theorem wbEntries {H : Type} {P : Program} {M N : Nat} (hM : Closed P N M) (h1 : 1 ≤ M) (e : TypeId) (ht : e < N) : ∀ l : List (Lit × DataW H), ∀ n ∈ DataW.weightsEntries P e l, n ≤ 2 * M * Rows.uptoBulkEntries l
  | [], n, h => by simp [DataW.weightsEntries] at h
  | x :: r, n, h => by
    simp only [DataW.weightsEntries] at h
    simp only [Rows.uptoBulkEntries, Nat.mul_add]
    rcases List.mem_append.1 h with h | h
    · have := wbEntry hM h1 e ht x n h; omega
    · have := wbEntries hM h1 e ht r n h; omega
theorem wbEntry {H : Type} {P : Program} {M N : Nat} (hM : Closed P N M) (h1 : 1 ≤ M) (e : TypeId) (ht : e < N) : ∀ x : Lit × DataW H, ∀ n ∈ DataW.weightsEntry P e x, n ≤ 2 * M * Rows.uptoBulkEntry x
  | (.string bytes, d), n, h => by
    simp only [DataW.weightsEntry] at h
    simp only [Rows.uptoBulkEntry]
    have h3 : 2 * M * Rows.uptoBulk d ≤ 2 * M * (bytes.length + Rows.uptoBulk d + 1) := Nat.mul_le_mul_left _ (by omega)
    rcases List.mem_cons.1 h with h | h
    · subst h
      have h4 := Nat.mul_le_mul_right (bytes.length + Rows.uptoBulk d + 1) (show 1 ≤ 2 * M by omega)
      omega
    · have := wb hM h1 e ht d n h; omega
  | (.bool _, d), n, h => by
    simp only [DataW.weightsEntry] at h
    simp only [Rows.uptoBulkEntry]
    have := wb hM h1 e ht d n h
    have h3 : 2 * M * Rows.uptoBulk d ≤ 2 * M * (Rows.uptoBulk d + 1) := Nat.mul_le_mul_left _ (by omega)
    omega
  | (.int _ _, d), n, h => by
    simp only [DataW.weightsEntry] at h
    simp only [Rows.uptoBulkEntry]
    have := wb hM h1 e ht d n h
    have h3 : 2 * M * Rows.uptoBulk d ≤ 2 * M * (Rows.uptoBulk d + 1) := Nat.mul_le_mul_left _ (by omega)
    omega
  | (.float _ _, d), n, h => by
    simp only [DataW.weightsEntry] at h
    simp only [Rows.uptoBulkEntry]
    have := wb hM h1 e ht d n h
    have h3 : 2 * M * Rows.uptoBulk d ≤ 2 * M * (Rows.uptoBulk d + 1) := Nat.mul_le_mul_left _ (by omega)
    omega
  | (.nil, d), n, h => by
    simp only [DataW.weightsEntry] at h
    simp only [Rows.uptoBulkEntry]
    have := wb hM h1 e ht d n h
    have h3 : 2 * M * Rows.uptoBulk d ≤ 2 * M * (Rows.uptoBulk d + 1) := Nat.mul_le_mul_left _ (by omega)
    omega
end
def closedB (P : Program) (N M : Nat) : Bool := (List.range N).all fun t => decide (P.bytesOf t ≤ M) && match P.underlying t with
  | some (.slice e) => decide (e < N)
  | some (.pointer e) => decide (e < N)
  | some (.array _ e) => decide (e < N)
  | some (.map k e) => decide (k < N) && decide (e < N)
  | some (.struct fs) => (fs.toList.map (·.type)).all fun f => decide (f < N)
  | _ => true
theorem closed_of {P : Program} {N M : Nat} (h : closedB P N M = true) : Closed P N M := by
  have hall : ∀ t, t < N → (decide (P.bytesOf t ≤ M) && match P.underlying t with
    | some (.slice e) => decide (e < N)
    | some (.pointer e) => decide (e < N)
    | some (.array _ e) => decide (e < N)
    | some (.map k e) => decide (k < N) && decide (e < N)
    | some (.struct fs) => (fs.toList.map (·.type)).all fun f => decide (f < N)
    | _ => true) = true := fun t ht => List.all_eq_true.1 h t (List.mem_range.2 ht)
  refine ⟨fun t ht => ?_, fun t e ht he => ?_, fun t e ht he => ?_, fun t n e ht he => ?_, fun t k e ht he => ?_, fun t fs ht he f hf => ?_⟩
  · have := hall t ht
    rw [Bool.and_eq_true] at this
    simpa using this.1
  · have := hall t ht
    rw [he, Bool.and_eq_true] at this
    simpa using this.2
  · have := hall t ht
    rw [he, Bool.and_eq_true] at this
    simpa using this.2
  · have := hall t ht
    rw [he, Bool.and_eq_true] at this
    simpa using this.2
  · have := hall t ht
    rw [he, Bool.and_eq_true] at this
    simpa using this.2
  · have := hall t ht
    rw [he, Bool.and_eq_true] at this
    have h2 := List.all_eq_true.1 this.2 f hf
    simpa using h2
set_option maxRecDepth 100000 in
theorem closed_prog : Closed Try.prog 224 100000 := closed_of (by kernel_rfl)
theorem sized_upto {H : Type} {d : DataW H} (t : TypeId) (ht : t < 224) (h : Rows.uptoBulk d ≤ 1048576) : ∀ n ∈ d.weights Try.prog t, n ≤ reachBytes := fun n hn => by
  have h1 := wb closed_prog (by omega) t ht d n hn
  have h2 : 2 * 100000 * Rows.uptoBulk d ≤ 2 * 100000 * 1048576 := Nat.mul_le_mul_left _ h
  simp only [reachBytes]
  omega
end Go.Proofs.Ytplkdcegfpiofaa

/-
  A script of skeinlaw09's calls, as it comes in within the bound of the '..UptoSaid' statements.
-/
namespace Go.Proofs.Ytplkdcegfpiofaa
open Go.ChangeShapes Go.WideShapes Go.ChangeAt Go.RowKit Go.Deep
set_option linter.unusedVariables false

theorem bulk_mem {H : Type} : ∀ (l : List (DataW H)) (d : DataW H), d ∈ l → Rows.uptoBulk d ≤ Rows.uptoBulkAll l
  | [], _, h => by cases h
  | x :: r, d, h => by
    simp only [Rows.uptoBulkAll]
    rcases List.mem_cons.1 h with h | h
    · subst h; omega
    · have := bulk_mem r d h; omega
section
variable {H : Type} {enc : TypeId × Value → H} {W : World} {sp : Nat → Bool} {held : Bool}
/-- A slice of structs, as it came in: each element by its cells; the bound in place of the reach. -/
theorem structs_upto {α : Type} [Inhabited α] {t e : TypeId} (encA : α → List Value) (k : Nat) (hk : ∀ x, (encA x).length = k) (hk0 : 0 < k) (hkb : k ≤ 1000) (P : α → Prop) (ht : Try.prog.underlying t = some (.slice e)) (hc : Try.prog.cellsOf e = k)
    (hel : ∀ (n : Nat) (cs : List Value) (x : DataW H × List MemPlace), cs.length = k → DataW.trod enc Try.prog W 0 sp held n e cs = some x → Rows.uptoBulk x.1 ≤ 1048576 → ∃ a : α, cs = encA a ∧ P a)
    {fuel : Nat} {v : Value} {y : DataW H × List MemPlace} (h : DataW.trod enc Try.prog W 0 sp held fuel t [v] = some y) (hs : Rows.uptoBulk y.1 ≤ 1048576) :
    ∃ xs : List α, RK encA k W W.heap.size v xs ∧ xs.length ≤ 1048576 ∧ ∀ x ∈ xs, P x := by
  rcases open_slice ht h with ⟨hcs, _⟩ | ⟨a, len, cap, m, n, D, Pl, hcs, _, hl, hm, hmm, hx, hi⟩
  · simp at hcs
    subst hcs
    exact ⟨[], RK.nil _ _, by simp, by simp⟩
  · simp at hcs
    subst hcs
    have hd : y.1 = _ := congrArg Prod.fst hx
    rw [hd] at hs
    simp only [Rows.uptoBulk] at hs
    have hlen0 : len ≤ 1048576 := by
      have h1 := bulk_length ((List.range len).map D)
      rw [List.length_map, List.length_range] at h1
      omega
    have hlm : len ≤ m := by rw [hmm]; split <;> omega
    have hmul2 : len * k ≤ 1048576 * 1000 := Nat.mul_le_mul hlen0 hkb
    have each : ∀ i, i < len → ∃ x : α, (∀ (j : Nat) u, (encA x)[j]? = some u → W.cell? ((a.add (i * k)).add j) = some u) ∧ P x := by
      intro i hil
      obtain ⟨cs, h1, h2⟩ := hi i (by omega)
      rw [hc] at h1
      obtain ⟨_, hcl, hat⟩ := World.cells?_some h1
      have hmem := bulk_mem ((List.range len).map D) (D i) (List.mem_map.2 ⟨i, List.mem_range.2 hil, rfl⟩)
      obtain ⟨x, rfl, hp⟩ := hel n cs _ hcl h2 (by dsimp only; omega)
      refine ⟨x, fun j u hu => ?_, hp⟩
      have hj : j < k := by have := (List.getElem?_eq_some_iff.1 hu).1; rw [hk] at this; exact this
      rw [hat j hj]; exact hu
    obtain ⟨F, hF⟩ := choose_lt each
    have hlen : ((List.range len).map F).length = len := by simp
    refine ⟨(List.range len).map F, ⟨by rw [hlen]; omega, some a, cap, by rw [hlen], by omega, by simpa [maxLen] using hm, ?_⟩, by rw [hlen]; omega, fun x hx => ?_⟩
    · obtain ⟨b, off, spot⟩ := a
      rcases Nat.eq_zero_or_pos len with h0 | h0
      · exact .inl (List.eq_nil_of_length_eq_zero (by omega))
      · have hz0 : 0 < (encA (F 0)).length := by rw [hk]; exact hk0
        have h00 := (hF 0 (by omega)).1 0 _ (List.getElem?_eq_getElem hz0)
        have hspot : spot = none := by simpa [Addr.add] using World.cell?_spot h00
        subst hspot
        have hblt : b < W.heap.size := by
          have := World.block_lt_of_cell? W _ h00
          simpa [Addr.add] using this
        refine .inr ⟨b, off, rfl, hblt, fun i x hi j u hu => ?_⟩
        have hil : i < len := by have := (List.getElem?_eq_some_iff.1 hi).1; omega
        rw [List.getElem?_map, List.getElem?_range hil] at hi
        simp at hi
        subst hi
        have := (hF i hil).1 j u hu
        rw [add_none, add_none] at this
        exact this
    · obtain ⟨i, hi, rfl⟩ := List.mem_map.1 hx
      exact (hF i (List.mem_range.1 hi)).2
set_option maxRecDepth 100000 in
theorem op9_elem {n : Nat} {cs : List Value} {x : DataW H × List MemPlace} (hl : cs.length = 6) (h : DataW.trod enc Try.prog W 0 sp held n 77 cs = some x) (hs : Rows.uptoBulk x.1 ≤ 1048576) :
    ∃ a : OpC, cs = encO a ∧ OpCAt W a := by
  obtain ⟨xs, n', _, rfl, _, hxl, hf⟩ := DataW.trod_struct Try.underlying77 h
  match cs, hl with
  | [c0, c1, c2, c3, c4, c5], _ =>
    have hx6 : xs.length = 6 := hxl
    have g : ∀ (j : Nat), j < xs.length → (xs[j]?).isSome = true := fun j hj => by rw [List.getElem?_eq_getElem hj]; rfl
    have f0 : DataW.trod enc Try.prog W 0 sp held n' 3 (([c0, c1, c2, c3, c4, c5].drop 0).take (Try.prog.cellsOf 3)) = xs[0]? := hf 0 _ rfl
    have f1 : DataW.trod enc Try.prog W 0 sp held n' 3 (([c0, c1, c2, c3, c4, c5].drop 1).take (Try.prog.cellsOf 3)) = xs[1]? := hf 1 _ rfl
    have f2 : DataW.trod enc Try.prog W 0 sp held n' 2 (([c0, c1, c2, c3, c4, c5].drop 2).take (Try.prog.cellsOf 2)) = xs[2]? := hf 2 _ rfl
    have f3 : DataW.trod enc Try.prog W 0 sp held n' 22 (([c0, c1, c2, c3, c4, c5].drop 3).take (Try.prog.cellsOf 22)) = xs[3]? := hf 3 _ rfl
    have f4 : DataW.trod enc Try.prog W 0 sp held n' 35 (([c0, c1, c2, c3, c4, c5].drop 4).take (Try.prog.cellsOf 35)) = xs[4]? := hf 4 _ rfl
    have f5 : DataW.trod enc Try.prog W 0 sp held n' 31 (([c0, c1, c2, c3, c4, c5].drop 5).take (Try.prog.cellsOf 31)) = xs[5]? := hf 5 _ rfl
    rw [show Try.prog.cellsOf 3 = 1 from by kernel_rfl] at f0 f1
    rw [show Try.prog.cellsOf 2 = 1 from by kernel_rfl] at f2
    rw [show Try.prog.cellsOf 22 = 1 from by kernel_rfl] at f3
    rw [show Try.prog.cellsOf 35 = 1 from by kernel_rfl] at f4
    rw [show Try.prog.cellsOf 31 = 1 from by kernel_rfl] at f5
    obtain ⟨z0, rfl, hz0⟩ := int_cell Try.underlying3 (c := c0) (n := n') (by have := g 0 (by omega); rw [← f0] at this; exact this)
    obtain ⟨z1, rfl, hz1⟩ := int_cell Try.underlying3 (c := c1) (n := n') (by have := g 1 (by omega); rw [← f1] at this; exact this)
    obtain ⟨z2, rfl, hz2⟩ := int_cell Try.underlying2 (c := c2) (n := n') (by have := g 2 (by omega); rw [← f2] at this; exact this)
    match xs, hx6 with
    | [y0, y1, y2, y3, y4, y5], _ =>
      simp only [Rows.uptoBulk, Rows.uptoBulkAll, List.map_cons, List.map_nil] at hs
      obtain ⟨l, hl, hl2⟩ := bytes_in (v := c3) f3 (sized_upto _ (by decide) (by omega))
      obtain ⟨V, hV, hV2⟩ := ints_in (v := c4) f4 (sized_upto _ (by decide) (by omega))
      obtain ⟨fs, hF, hF2, _⟩ := structs_upto (e := 110) encF 2 encF_len (by omega) (by omega) (fun f => I64 f.1) Try.underlying31 (by kernel_rfl) (fun n cs x hl h _ => fate_elem hl h) f5 (by omega)
      obtain ⟨dA, dc, rfl, _⟩ := hl.open_
      obtain ⟨kA, kc, rfl, _⟩ := hV.open_
      obtain ⟨fA, fc, rfl, _⟩ := hF.open_
      exact ⟨⟨z0, z1, z2, dA, _, dc, kA, _, kc, fA, _, fc, l, V, fs⟩, rfl, ⟨hl, hV, hF, hz1, hV2, by dsimp only; omega, hl2⟩⟩
theorem ops9_upto {v : Value} {d : DataW H} {p : List MemPlace} (h : DataW.Trod enc Try.prog W 0 sp held 75 v d p) (hs : Rows.uptoBulk d ≤ 1048576) (hone : v.cells.toList = [v]) : ∃ os, OpsAt W v os := by
  obtain ⟨fuel, hf⟩ := h
  rw [hone] at hf
  obtain ⟨os, h1, h2, h3⟩ := structs_upto (e := 77) encO 6 encO_len (by omega) (by omega) (fun a => OpCAt W a) Try.underlying75 (by kernel_rfl) (fun n cs x hl h hw => op9_elem hl h hw) hf hs
  exact ⟨os, h1, by omega, h3⟩
end
end Go.Proofs.Ytplkdcegfpiofaa
