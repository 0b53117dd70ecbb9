/-
  Words for memory, more: an append of one element of k cells; a row of rows; what the library's exchanges leave. No walk.
-/
import Derived.Test.YtghacfhpafbdmaaGreatG12
import Derived.Sort.OwnSortedInts
import Derived.RegionTactic
namespace Go.Proofs.YtghacfhpafbdmaaGreat
open Go.RowKit Go.Sort
set_option linter.unusedVariables false

/-- What the program's tables say of a slice type t of elements E. -/
structure ElemT (t E k bytes : Nat) : Prop where
  under : Tryz.prog.underlying t = some (.slice E)
  info : ∃ (i : TypeInfo) (z : Value), Tryz.prog.info? E = some i ∧ i.zero = some z ∧ i.size = k ∧ i.bytes = bytes ∧ z.cells.size = k
  kpos : 0 < k
  small : bytes ≤ 1000
  ksmall : k ≤ 1000
theorem elemT_of {t E k bytes : Nat} {z : Value} (h1 : Tryz.prog.underlying t = some (.slice E)) (h2 : (Tryz.prog.info? E).map (fun i => (i.zero, i.size, i.bytes)) = some (some z, k, bytes)) (h3 : z.cells.size = k) (h4 : 0 < k) (h5 : bytes ≤ 1000) (h6 : k ≤ 1000) : ElemT t E k bytes := by
  obtain ⟨i, hi, hz0, hz1, hz2⟩ := info_parts h2
  exact ⟨h1, ⟨i, z, hi, hz0, hz1, hz2, h3⟩, h4, h5, h6⟩
theorem etInts : ElemT 22 3 1 8 := elemT_of (z := .int .i64 0) Tryz.underlying22 (by kernel_rfl) (by kernel_rfl) (by decide) (by decide) (by decide)
theorem etEdges : ElemT 23 47 4 32 := elemT_of (z := .agg #[.int .i64 0, .int .i64 0, .int .i64 0, .int .i64 0]) Tryz.underlying23 (by kernel_rfl) (by kernel_rfl) (by decide) (by decide) (by decide)
theorem etSteps : ElemT 153 160 5 40 := elemT_of (z := .agg #[.int .i64 0, .int .i64 0, .int .i64 0, .int .i64 0, .int .i64 0]) Tryz.underlying153 (by kernel_rfl) (by kernel_rfl) (by decide) (by decide) (by decide)

section
variable {α : Type} {enc : α → List Value} {k bytes t E : Nat} {w : World} {base : Nat} {v : Value} {xs : List α} {y : α}
theorem run_app1 (et : ElemT t E k bytes) (hk : ∀ x, (enc x).length = k) (h1 : ∀ x, ∀ u ∈ enc x, u.oneCell' = true) (ty : TypeId) (hown : OK enc k E w base v xs) (h : Nat)
    (hc : ∀ (j : Nat) u, (enc y)[j]? = some u → w.cell? ⟨h, j, none⟩ = some u) (hlen : xs.length + 1 ≤ 1000000) (hbase : base ≤ w.heap.size) :
    ∃ v' w', (Builtin.append_ #[t, t] ty #[v, .slice (some ⟨h, 0, none⟩) 1 1]).run Tryz.prog w = .ok v' w' ∧ OK enc k E w' base v' (xs ++ [y]) ∧ w.grownBy w' v.ownBlock ∧ (v'.ownBlock = v.ownBlock ∨ v'.ownBlock = some w.heap.size) := by
  obtain ⟨i, z, hi, hz0, hz1, hz2, hz3⟩ := et.info
  obtain ⟨o1, o2⟩ := hown
  have hb1000 : (xs.length + 1) * bytes ≤ 1000000 * 1000 := Nat.mul_le_mul hlen et.small
  obtain ⟨v', w', hrun, h2, h3, _, h5⟩ := run_append_own_at (P := Tryz.prog) w base t ty E i z k bytes et.under hi hz0 hz1 hz2 hz3 et.kpos v _ _ o2 ⟨h, 0, none⟩ 1 1 (enc y) (by simp [hk]) (by
      intro j u hu
      have : (⟨h, 0, none⟩ : Addr).add j = ⟨h, j, none⟩ := by unfold Addr.add; split <;> simp_all
      rw [this]; exact hc j u hu) (h1 y) (by simp only [maxLen]; omega) (by omega) hbase
  refine ⟨v', w', hrun, ⟨?_, by rw [List.length_append, List.flatMap_append]; simpa using h2⟩, h3, h5⟩
  rw [List.length_append, List.length_singleton]
  have := Nat.mul_le_mul hlen et.ksmall
  omega

/-- 'out = append(out, y)', y laid in block h. -/
theorem wpList_app1 {ops : Array Oper} {rest : List Oper} {o : Oper} {a : Act} {Q : Exit → Act → World → Prop} (et : ElemT t E k bytes) (hk : ∀ x, (enc x).length = k) (h1 : ∀ x, ∀ u ∈ enc x, u.oneCell' = true) (hgd : o.guard = none) (s x : Operand)
    (ho : o.op = .call { callee := .builtin .append, args := #[s, x], argTypes := #[t, t] })
    (hs : a.eval s = v) (hown : OK enc k E w base v xs) (h : Nat) (hx : a.eval x = .slice (some ⟨h, 0, none⟩) 1 1)
    (hc : ∀ (j : Nat) u, (enc y)[j]? = some u → w.cell? ⟨h, j, none⟩ = some u) (hlen : xs.length + 1 ≤ 1000000) (hbase : base ≤ w.heap.size)
    (hK : ∀ v' w', OK enc k E w' base v' (xs ++ [y]) → w.grownBy w' v.ownBlock → (v'.ownBlock = v.ownBlock ∨ v'.ownBlock = some w.heap.size) → wpList Tryz.prog ops Q rest (a.put o.dst v') w') : wpList Tryz.prog ops Q (o :: rest) a w := by
  obtain ⟨v', w', hrun, h2, h3, h4⟩ := run_app1 et hk h1 o.type hown h hc hlen hbase
  refine wpList_plain hgd fun _ hK' => ?_
  unfold Oper.wp execOp
  simp only [ho, resolve, invoke, builtin, Sem.run_bind, Sem.run_pure, Result.andThen_ok, List.map_toArray, List.map_cons, List.map_nil, hs, hx, hrun]
  exact hK' _ _ (hK v' w' h2 h3 h4)
end

/-- A row of slice values, each of which owns its list. -/
structure Grp {α : Type} (enc : α → List Value) (k E : Nat) (w : World) (B g tE : Nat) (vs : List Value) (ls : List (List α)) : Prop where
  blk : Blk w g tE vs.toArray
  len : vs.length = ls.length
  own : ∀ (i : Nat) v l, vs[i]? = some v → ls[i]? = some l → OK enc k E w B v l
  apart : ∀ (i j : Nat) u v, vs[i]? = some u → vs[j]? = some v → i ≠ j → u.ownBlock = none ∨ u.ownBlock ≠ v.ownBlock
  far : ∀ (i : Nat) v, vs[i]? = some v → v.ownBlock ≠ some g
section
variable {α : Type} {enc : α → List Value} {k E : Nat} {w w' : World} {B g tE : Nat} {vs : List Value} {ls : List (List α)}
theorem Grp.grown {row : Option Nat} (h : Grp enc k E w B g tE vs ls) (hg : w.grownBy w' row) (h1 : some g ≠ row) (h2 : ∀ (i : Nat) v, vs[i]? = some v → v.ownBlock = none ∨ v.ownBlock ≠ row) : Grp enc k E w' B g tE vs ls :=
  ⟨h.blk.grown hg h1, h.len, fun i v l hv hl => (h.own i v l hv hl).kept hg (h2 i v hv), h.apart, h.far⟩
theorem Grp.below (h : Grp enc k E w B g tE vs ls) (hb : Below w.heap.size w w') : Grp enc k E w' B g tE vs ls :=
  h.grown (row := none) (grownBy_below hb) (by simp) (fun i v _ => by cases v.ownBlock <;> simp)
theorem Grp.lt (h : Grp enc k E w B g tE vs ls) : g < w.heap.size := h.blk.lt
theorem Grp.own_lt (h : Grp enc k E w B g tE vs ls) {i : Nat} {v : Value} (hv : vs[i]? = some v) : ∀ q, v.ownBlock = some q → B ≤ q ∧ q < w.heap.size := by
  have hi := (List.getElem?_eq_some_iff.1 hv).1
  exact (h.own i v (ls[i]'(by rw [← h.len]; exact hi)) hv (List.getElem?_eq_getElem _)).lt
/-- One list has one element more, and its slice is stored back. -/
theorem Grp.push {v v' : Value} {l : List α} {y : α} {i : Nat} (h : Grp enc k E w B g tE vs ls) (hv : vs[i]? = some v) (hl : ls[i]? = some l) (hown : OK enc k E w' B v' (l ++ [y])) (hg : w.grownBy w' v.ownBlock) (hb : v'.ownBlock = v.ownBlock ∨ v'.ownBlock = some w.heap.size) :
    Grp enc k E (w'.setCell ⟨g, i, none⟩ v') B g tE (vs.set i v') (ls.set i (l ++ [y])) := by
  have hi := (List.getElem?_eq_some_iff.1 hv).1
  have hfar := h.far i v hv
  have hblk : Blk w' g tE vs.toArray := h.blk.grown hg (Ne.symm hfar)
  have hne' : v'.ownBlock ≠ some g := by
    rcases hb with hb | hb
    · rw [hb]; exact hfar
    · rw [hb]; intro e; injection e with e; have := h.lt; omega
  have hst : w'.grownBy (w'.setCell ⟨g, i, none⟩ v') (some g) := ⟨rfl, rfl, rfl, by simp, fun q _ hq => heap_setCell_other _ ⟨g, i, none⟩ q _ (fun e => hq (by simp [e]))⟩
  refine ⟨?_, by simp [h.len], fun j u m hu hm => ?_, fun j q u x hu hx hjq => ?_, fun j u hu => ?_⟩
  · have := hblk.set_ i v'
    rwa [List.setIfInBounds_toArray] at this
  · by_cases hij : i = j
    · subst hij
      rw [List.getElem?_set_self hi] at hu
      rw [List.getElem?_set_self (by rw [← h.len]; exact hi)] at hm
      injection hu with hu; injection hm with hm
      subst hu hm
      exact hown.kept hst (.inr hne')
    · rw [List.getElem?_set_ne hij] at hu hm
      have h1 := (h.own j u m hu hm).kept hg (h.apart j i u v hu hv (Ne.symm hij))
      exact h1.kept hst (.inr (h.far j u hu))
  · by_cases hij : i = j
    · subst hij
      rw [List.getElem?_set_self hi] at hu
      rw [List.getElem?_set_ne hjq] at hx
      injection hu with hu; subst hu
      rcases hb with hb | hb
      · rw [hb]; exact h.apart i q v x hv hx hjq
      · rw [hb]; right; intro e
        have := (h.own_lt hx _ e.symm).2
        omega
    · rw [List.getElem?_set_ne hij] at hu
      by_cases hiq : i = q
      · subst hiq
        rw [List.getElem?_set_self hi] at hx
        injection hx with hx; subst hx
        rcases hb with hb | hb
        · rw [hb]; exact h.apart j i u v hu hv hjq
        · rw [hb]
          cases hub : u.ownBlock with
          | none => exact .inl rfl
          | some b => right; intro e; injection e with e; have := (h.own_lt hu _ hub).2; omega
      · rw [List.getElem?_set_ne hiq] at hx
        exact h.apart j q u x hu hx hjq
  · by_cases hij : i = j
    · subst hij
      rw [List.getElem?_set_self hi] at hu
      injection hu with hu; subst hu; exact hne'
    · rw [List.getElem?_set_ne hij] at hu
      exact h.far j u hu
/-- A new row of nil slices. -/
theorem Grp.made (w : World) (B n : Nat) : Grp enc k E (w.alloc (.cells (madeCells #[.slice none 0 0] n) tE)) B w.heap.size tE (List.replicate n (.slice none 0 0)) (List.replicate n ([] : List α)) := by
  have hrep : ∀ (i : Nat) v, (List.replicate n (Value.slice none 0 0))[i]? = some v → v = .slice none 0 0 := by
    intro i v h
    rw [List.getElem?_replicate] at h
    split at h
    · injection h with h; exact h.symm
    · cases h
  refine ⟨?_, by simp, fun i v l hv hl => ?_, fun i j u v hu hv hij => ?_, fun i v hv => ?_⟩
  · have := Blk.new w tE (madeCells #[.slice none 0 0] n)
    have e : (List.replicate n (Value.slice none 0 0)).toArray = madeCells #[.slice none 0 0] n := by
      rw [← toList_madeCells_one]
    rw [e]; exact this
  · rw [hrep i v hv]
    rw [List.getElem?_replicate] at hl
    split at hl
    · injection hl with hl; subst hl; exact OK.nil _ _
    · cases hl
  · rw [hrep i u hu]; exact .inl rfl
  · rw [hrep i v hv]; simp [Value.ownBlock]
end

/-- Behind an exchange of the library's the block holds the new elements. -/
theorem Blk.putRow {α : Type} [Inhabited α] {en : α → Value} {w : World} {g t n : Nat} {cs : Array Value} {os : Array Obj} (h : Blk w g t cs) (d : Array α) (hd : d.size = cs.size) : Blk (grow (putRow en (Sort.ahead w n) g 0 d) os) g t (d.map en) := by
  have hg := h.lt
  unfold Blk at h ⊢
  rw [heap_grow_old _ _ (by simpa using hg)]
  have e : putCells en 0 d cs = d.map en := by
    apply Array.ext
    · simp [putCells, hd]
    · intro i h1 h2
      have h3 : i < d.size := by simpa using h2
      simp [putCells, h3]
  simp [Sort.putRow, mapBlock, Sort.ahead, Array.getElem?_modify, h, onCells, e]
theorem grownBy_putRow {α : Type} [Inhabited α] {en : α → Value} {w : World} {g n : Nat} {os : Array Obj} (d : Array α) : w.grownBy (grow (putRow en (Sort.ahead w n) g 0 d) os) (some g) := by
  refine ⟨rfl, rfl, rfl, by simp, fun k hk hne => ?_⟩
  rw [heap_grow_old _ _ (by simpa using hk)]
  have : g ≠ k := fun e => hne (by rw [e])
  simp [putRow, mapBlock, Sort.ahead, Array.getElem?_modify, this]
end Go.Proofs.YtghacfhpafbdmaaGreat
