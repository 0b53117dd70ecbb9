/-
  Scripts, rows of elements and yes or no as the laws' arguments, within the bound of the '..UptoSaid' statements.
-/
import Derived.Test.YtgahkloldpjnkaaMV17
import Derived.ProofKit
import Derived.OpenShut
import Derived.ShutString
import Derived.ChangeOld
import Derived.Lib.SmallJoins
import Derived.Deep.Slices
import Derived.JoinedCond
namespace Go.Proofs.Ytgahkloldpjnkaa
open Go.ChangeShapes Go.WideShapes Go.ChangeAt Go.RowKit Go.Deep
set_option linter.unusedVariables false

theorem own : ownKnob Try.prog.godebug = none := by kernel_rfl

theorem laidOut : laidOutB Try.prog = true := by kernel_rfl

theorem i64_wf {i : Int} (h : (Lit.int .i64 i).wf = true) : I64 i := by
  simp [Lit.wf, IntKind.min, IntKind.max, IntKind.signed, IntKind.bits] at h
  unfold I64; omega

theorem bulk_one {H : Type} (d : DataW H) : 1 ≤ Rows.uptoBulk d := by
  cases d with
  | lit l => cases l <;> simp [Rows.uptoBulk]
  | nil => simp [Rows.uptoBulk]
  | ptr d => simp [Rows.uptoBulk]
  | slice elems spare => simp [Rows.uptoBulk]
  | agg parts => simp [Rows.uptoBulk]
  | iface t d => simp [Rows.uptoBulk]
  | map entries => simp [Rows.uptoBulk]
  | held h => simp [Rows.uptoBulk]

theorem bulk_length {H : Type} : ∀ l : List (DataW H), l.length ≤ Rows.uptoBulkAll l
  | [] => by simp [Rows.uptoBulkAll]
  | x :: r => by
    have h1 := bulk_one x
    have h2 := bulk_length r
    simp only [Rows.uptoBulkAll, List.length_cons]
    omega

theorem bulk_mem {H : Type} : ∀ (l : List (DataW H)) (d : DataW H), d ∈ l → Rows.uptoBulk d ≤ Rows.uptoBulkAll l
  | [], _, h => by cases h
  | x :: r, d, h => by
    simp only [Rows.uptoBulkAll]
    rcases List.mem_cons.1 h with h | h
    · subst h; omega
    · have := bulk_mem r d h; omega

theorem bulk_sum {H α : Type} (m : α → Nat) (D : Nat → DataW H) (F : Nat → α) : ∀ l : List Nat, (∀ i ∈ l, m (F i) ≤ Rows.uptoBulk (D i)) → ((l.map F).map m).sum ≤ Rows.uptoBulkAll (l.map D)
  | [], _ => by simp [Rows.uptoBulkAll]
  | x :: r, h => by
    have h1 := h x (by simp)
    have h2 := bulk_sum m D F r fun i hi => h i (by simp [hi])
    simp only [List.map_cons, List.sum_cons, Rows.uptoBulkAll] at h2 ⊢
    omega

section

variable {H : Type} {enc : TypeId × Value → H} {W : World} {sp : Nat → Bool} {held : Bool}

theorem add_none {b off j : Nat} : (⟨b, off, none⟩ : Addr).add j = ⟨b, off + j, none⟩ := by unfold Addr.add; split <;> simp_all

theorem int_cell {t : TypeId} (ht : Try.prog.underlying t = some (.int .i64)) {n : Nat} {c : Value} (hc : (DataW.trod enc Try.prog W 0 sp held n t [c]).isSome = true) : ∃ z : Int, c = .int .i64 z ∧ I64 z := by
  obtain ⟨z, hz⟩ := Option.isSome_iff_exists.1 hc
  obtain ⟨q, h3, hx, hw⟩ := DataW.trod_int ht hz
  refine ⟨q, by simpa using h3, ?_⟩
  simp [Lit.wf, IntKind.min, IntKind.max, IntKind.signed, IntKind.bits] at hw
  unfold I64; omega

theorem bool_cell {t : TypeId} (ht : Try.prog.underlying t = some .bool) {n : Nat} {c : Value} (hc : (DataW.trod enc Try.prog W 0 sp held n t [c]).isSome = true) : ∃ z : Bool, c = .bool z := by
  obtain ⟨z, hz⟩ := Option.isSome_iff_exists.1 hc
  cases n with
  | zero => simp [DataW.trod] at hz
  | succ n =>
    rw [DataW.trod_step] at hz
    unfold DataW.trodStep at hz
    simp only [ht] at hz
    cases c with
    | bool b => exact ⟨b, rfl⟩
    | _ => simp at hz

/-- A slice of structs, as it came in: each element by its cells, and how much they are together; the bound in place of the reach. -/
theorem structs_sum {α : Type} [Inhabited α] {t e : TypeId} (encA : α → List Value) (k : Nat) (hk : ∀ x, (encA x).length = k) (hk0 : 0 < k) (hkb : k ≤ 1000) (P : α → Prop) (m : α → Nat) (ht : Try.prog.underlying t = some (.slice e)) (hc : Try.prog.cellsOf e = k)
    (hel : ∀ (n : Nat) (cs : List Value) (x : DataW H × List MemPlace), cs.length = k → DataW.trod enc Try.prog W 0 sp held n e cs = some x → Rows.uptoBulk x.1 ≤ 1048576 → ∃ a : α, cs = encA a ∧ P a ∧ m a ≤ Rows.uptoBulk x.1)
    {fuel : Nat} {v : Value} {y : DataW H × List MemPlace} (h : DataW.trod enc Try.prog W 0 sp held fuel t [v] = some y) (hs : Rows.uptoBulk y.1 ≤ 1048576) :
    ∃ xs : List α, RK encA k W W.heap.size v xs ∧ (∀ x ∈ xs, P x) ∧ (xs.map m).sum + 1 ≤ Rows.uptoBulk y.1 := by
  rcases open_slice ht h with ⟨hcs, _⟩ | ⟨a, len, cap, M, n, D, Pl, hcs, _, hl, hm, hmm, hx, hi⟩
  · simp at hcs
    subst hcs
    exact ⟨[], RK.nil _ _, by simp, by simpa using bulk_one y.1⟩
  · simp at hcs
    subst hcs
    have hd : y.1 = _ := congrArg Prod.fst hx
    rw [hd] at hs ⊢
    simp only [Rows.uptoBulk] at hs ⊢
    have hlen0 : len ≤ 1048576 := by
      have h1 := bulk_length ((List.range len).map D)
      rw [List.length_map, List.length_range] at h1
      omega
    have hlm : len ≤ M := by rw [hmm]; split <;> omega
    have hmul2 : len * k ≤ 1048576 * 1000 := Nat.mul_le_mul hlen0 hkb
    have each : ∀ i, i < len → ∃ x : α, (∀ (j : Nat) u, (encA x)[j]? = some u → W.cell? ((a.add (i * k)).add j) = some u) ∧ P x ∧ m x ≤ Rows.uptoBulk (D i) := by
      intro i hil
      obtain ⟨cs, h1, h2⟩ := hi i (by omega)
      rw [hc] at h1
      obtain ⟨_, hcl, hat⟩ := World.cells?_some h1
      have hmem := bulk_mem ((List.range len).map D) (D i) (List.mem_map.2 ⟨i, List.mem_range.2 hil, rfl⟩)
      obtain ⟨x, rfl, hp, hmx⟩ := hel n cs _ hcl h2 (by dsimp only; omega)
      refine ⟨x, fun j u hu => ?_, hp, hmx⟩
      have hj : j < k := by have := (List.getElem?_eq_some_iff.1 hu).1; rw [hk] at this; exact this
      rw [hat j hj]; exact hu
    obtain ⟨F, hF⟩ := choose_lt each
    have hlen : ((List.range len).map F).length = len := by simp
    have hsum := bulk_sum m D F (List.range len) fun i hi => (hF i (List.mem_range.1 hi)).2.2
    refine ⟨(List.range len).map F, ⟨by rw [hlen]; omega, some a, cap, by rw [hlen], by omega, by simpa [maxLen] using hm, ?_⟩, fun x hx => ?_, by omega⟩
    · obtain ⟨b, off, spot⟩ := a
      rcases Nat.eq_zero_or_pos len with h0 | h0
      · exact .inl (List.eq_nil_of_length_eq_zero (by omega))
      · have hz0 : 0 < (encA (F 0)).length := by rw [hk]; exact hk0
        have h00 := (hF 0 (by omega)).1 0 _ (List.getElem?_eq_getElem hz0)
        have hspot : spot = none := by simpa [Addr.add] using World.cell?_spot h00
        subst hspot
        have hblt : b < W.heap.size := by
          have := World.block_lt_of_cell? W _ h00
          simpa [Addr.add] using this
        refine .inr ⟨b, off, rfl, hblt, fun i x hi j u hu => ?_⟩
        have hil : i < len := by have := (List.getElem?_eq_some_iff.1 hi).1; omega
        rw [List.getElem?_map, List.getElem?_range hil] at hi
        simp at hi
        subst hi
        have := (hF i hil).1 j u hu
        rw [add_none, add_none] at this
        exact this
    · obtain ⟨i, hi, rfl⟩ := List.mem_map.1 hx
      exact (hF i (List.mem_range.1 hi)).2.1

instance : Inhabited Rf := ⟨⟨false, 0⟩⟩

set_option maxRecDepth 100000 in
theorem rf_elem {n : Nat} {cs : List Value} {x : DataW H × List MemPlace} (hl : cs.length = 2) (h : DataW.trod enc Try.prog W 0 sp held n 62 cs = some x) : ∃ r : Rf, cs = encR r ∧ I64 r.snd ∧ 3 ≤ Rows.uptoBulk x.1 := by
  obtain ⟨xs, n', _, rfl, _, hxl, hf⟩ := DataW.trod_struct Try.underlying62 h
  match cs, hl with
  | [c0, c1], _ =>
    have hx2 : xs.length = 2 := hxl
    have g : ∀ (j : Nat), j < xs.length → (xs[j]?).isSome = true := fun j hj => by rw [List.getElem?_eq_getElem hj]; rfl
    have f0 : DataW.trod enc Try.prog W 0 sp held n' 4 (([c0, c1].drop 0).take (Try.prog.cellsOf 4)) = xs[0]? := hf 0 _ rfl
    have f1 : DataW.trod enc Try.prog W 0 sp held n' 3 (([c0, c1].drop 1).take (Try.prog.cellsOf 3)) = xs[1]? := hf 1 _ rfl
    rw [show Try.prog.cellsOf 4 = 1 from by kernel_rfl] at f0
    rw [show Try.prog.cellsOf 3 = 1 from by kernel_rfl] at f1
    obtain ⟨z0, rfl⟩ := bool_cell Try.underlying4 (c := c0) (n := n') (by have := g 0 (by omega); rw [← f0] at this; exact this)
    obtain ⟨z1, rfl, hz1⟩ := int_cell Try.underlying3 (c := c1) (n := n') (by have := g 1 (by omega); rw [← f1] at this; exact this)
    match xs, hx2 with
    | [y0, y1], _ =>
      refine ⟨⟨z0, z1⟩, rfl, hz1, ?_⟩
      simp only [Rows.uptoBulk, Rows.uptoBulkAll, List.map_cons, List.map_nil]
      have := bulk_one y0.1
      have := bulk_one y1.1
      omega

theorem const_sum {α : Type} (n : Nat) : ∀ l : List α, (l.map fun _ => n).sum = n * l.length
  | [] => by simp
  | x :: r => by rw [List.map_cons, List.sum_cons, const_sum n r, List.length_cons, Nat.mul_add]; omega

/-- A row of elements, as it came in. -/
theorem refs_upto {fuel : Nat} {v : Value} {y : DataW H × List MemPlace} (h : DataW.trod enc Try.prog W 0 sp held fuel 30 [v] = some y) (hs : Rows.uptoBulk y.1 ≤ 1048576) : ∃ rs : List Rf, RR W W.heap.size v rs ∧ (∀ r ∈ rs, I64 r.snd) ∧ 3 * rs.length + 1 ≤ Rows.uptoBulk y.1 := by
  obtain ⟨rs, h1, h2, h3⟩ := structs_sum (e := 62) encR 2 encR_len (by omega) (by omega) (fun r => I64 r.snd) (fun _ => 3) Try.underlying30 (by kernel_rfl) (fun n cs x hl h _ => rf_elem hl h) h hs
  rw [const_sum] at h3
  exact ⟨rs, h1, h2, h3⟩

set_option maxRecDepth 100000 in
theorem opM_elem {n : Nat} {cs : List Value} {x : DataW H × List MemPlace} (hl : cs.length = 3) (h : DataW.trod enc Try.prog W 0 sp held n 32 cs = some x) (hs : Rows.uptoBulk x.1 ≤ 1048576) :
    ∃ a : OpM, cs = encOM a ∧ OpMAt W a ∧ 4 + 3 * a.refs.length ≤ Rows.uptoBulk x.1 := by
  obtain ⟨xs, n', _, rfl, _, hxl, hf⟩ := DataW.trod_struct Try.underlying32 h
  match cs, hl with
  | [c0, c1, c2], _ =>
    have hx3 : xs.length = 3 := hxl
    have g : ∀ (j : Nat), j < xs.length → (xs[j]?).isSome = true := fun j hj => by rw [List.getElem?_eq_getElem hj]; rfl
    have f0 : DataW.trod enc Try.prog W 0 sp held n' 3 (([c0, c1, c2].drop 0).take (Try.prog.cellsOf 3)) = xs[0]? := hf 0 _ rfl
    have f1 : DataW.trod enc Try.prog W 0 sp held n' 3 (([c0, c1, c2].drop 1).take (Try.prog.cellsOf 3)) = xs[1]? := hf 1 _ rfl
    have f2 : DataW.trod enc Try.prog W 0 sp held n' 30 (([c0, c1, c2].drop 2).take (Try.prog.cellsOf 30)) = xs[2]? := hf 2 _ rfl
    rw [show Try.prog.cellsOf 3 = 1 from by kernel_rfl] at f0 f1
    rw [show Try.prog.cellsOf 30 = 1 from by kernel_rfl] at f2
    obtain ⟨z0, rfl, _⟩ := int_cell Try.underlying3 (c := c0) (n := n') (by have := g 0 (by omega); rw [← f0] at this; exact this)
    obtain ⟨z1, rfl, hz1⟩ := int_cell Try.underlying3 (c := c1) (n := n') (by have := g 1 (by omega); rw [← f1] at this; exact this)
    match xs, hx3 with
    | [y0, y1, y2], _ =>
      simp only [Rows.uptoBulk, Rows.uptoBulkAll, List.map_cons, List.map_nil] at hs ⊢
      obtain ⟨rs, h1, h2, h3⟩ := refs_upto (v := c2) f2 (by omega)
      obtain ⟨A, c, rfl, _⟩ := h1.open_
      have := bulk_one y0.1
      have := bulk_one y1.1
      exact ⟨⟨z0, z1, A, _, c, rs⟩, rfl, ⟨h1, hz1, h2⟩, by dsimp only; omega⟩

theorem sum_split : ∀ os : List OpM, (os.map fun x => 4 + 3 * x.refs.length).sum = 4 * os.length + 3 * (os.map fun x => x.refs.length).sum
  | [] => by simp
  | o :: r => by
    have := sum_split r
    simp only [List.map_cons, List.sum_cons, List.length_cons]
    omega

theorem scr_upto {v : Value} {d : DataW H} {p : List MemPlace} (h : DataW.Trod enc Try.prog W 0 sp held 22 v d p) (hs : Rows.uptoBulk d ≤ 1048576) (hone : v.cells.toList = [v]) : ∃ os, ScrAt W v os := by
  obtain ⟨fuel, hf⟩ := h
  rw [hone] at hf
  obtain ⟨os, h1, h2, h3⟩ := structs_sum (e := 32) encOM 3 encOM_len (by omega) (by omega) (fun a => OpMAt W a) (fun a => 4 + 3 * a.refs.length) Try.underlying22 (by kernel_rfl) (fun n cs x hl h hw => opM_elem hl h hw) hf hs
  rw [sum_split] at h3
  dsimp only at h3
  exact ⟨os, h1, by omega, by omega, h2⟩

theorem refs_arg {v : Value} {d : DataW H} {p : List MemPlace} (h : DataW.Trod enc Try.prog W 0 sp held 30 v d p) (hs : Rows.uptoBulk d ≤ 1048576) (hone : v.cells.toList = [v]) : ∃ rs, RR W W.heap.size v rs ∧ (∀ r ∈ rs, I64 r.snd) ∧ rs.length ≤ 400000 := by
  obtain ⟨fuel, hf⟩ := h
  rw [hone] at hf
  obtain ⟨rs, h1, h2, h3⟩ := refs_upto hf hs
  dsimp only at h3
  exact ⟨rs, h1, h2, by omega⟩

end

end Go.Proofs.Ytgahkloldpjnkaa
