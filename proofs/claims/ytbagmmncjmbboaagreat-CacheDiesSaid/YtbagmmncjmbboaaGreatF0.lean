/-
  Words for memory: an append of one element of k cells.
-/
import Derived.Test.YtbagmmncjmbboaaGreatE10
import Derived.RegionTactic
import Derived.Deep.RegionLaw
namespace Go.Proofs.YtbagmmncjmbboaaGreat
open Go.RowKit Go.Maps
set_option linter.unusedVariables false

/-- What the program's tables say of a slice type t of elements E. -/
structure ElemT (t E k bytes : Nat) : Prop where
  under : Tryz.prog.underlying t = some (.slice E)
  info : ∃ (i : TypeInfo) (z : Value), Tryz.prog.info? E = some i ∧ i.zero = some z ∧ i.size = k ∧ i.bytes = bytes ∧ z.cells.size = k
  kpos : 0 < k
  small : bytes ≤ 1000
  ksmall : k ≤ 1000

theorem elemT_of {t E k bytes : Nat} {z : Value} (h1 : Tryz.prog.underlying t = some (.slice E)) (h2 : (Tryz.prog.info? E).map (fun i => (i.zero, i.size, i.bytes)) = some (some z, k, bytes)) (h3 : z.cells.size = k) (h4 : 0 < k) (h5 : bytes ≤ 1000) (h6 : k ≤ 1000) : ElemT t E k bytes := by
  obtain ⟨i, hi, hz0, hz1, hz2⟩ := info_parts h2
  exact ⟨h1, ⟨i, z, hi, hz0, hz1, hz2, h3⟩, h4, h5, h6⟩

theorem etSpots : ElemT 37 93 3 56 := elemT_of (z := .agg #[.slice none 0 0, .slice none 0 0, .bool false]) Tryz.underlying37 (by kernel_rfl) (by kernel_rfl) (by decide) (by decide) (by decide)

section

variable {α : Type} {enc : α → List Value} {k bytes t E : Nat} {w : World} {base : Nat} {v : Value} {xs : List α} {y : α}

theorem run_app1 (et : ElemT t E k bytes) (hk : ∀ x, (enc x).length = k) (h1 : ∀ x, ∀ u ∈ enc x, u.oneCell' = true) (ty : TypeId) (hown : OK enc k E w base v xs) (h : Nat)
    (hc : ∀ (j : Nat) u, (enc y)[j]? = some u → w.cell? ⟨h, j, none⟩ = some u) (hlen : xs.length + 1 ≤ 1000000) (hbase : base ≤ w.heap.size) :
    ∃ v' w', (Builtin.append_ #[t, t] ty #[v, .slice (some ⟨h, 0, none⟩) 1 1]).run Tryz.prog w = .ok v' w' ∧ OK enc k E w' base v' (xs ++ [y]) ∧ w.grownBy w' v.ownBlock ∧ (v'.ownBlock = v.ownBlock ∨ v'.ownBlock = some w.heap.size) := by
  obtain ⟨i, z, hi, hz0, hz1, hz2, hz3⟩ := et.info
  obtain ⟨o1, o2⟩ := hown
  have hb1000 : (xs.length + 1) * bytes ≤ 1000000 * 1000 := Nat.mul_le_mul hlen et.small
  obtain ⟨v', w', hrun, h2, h3, _, h5⟩ := run_append_own_at (P := Tryz.prog) w base t ty E i z k bytes et.under hi hz0 hz1 hz2 hz3 et.kpos v _ _ o2 ⟨h, 0, none⟩ 1 1 (enc y) (by simp [hk]) (by
      intro j u hu
      have : (⟨h, 0, none⟩ : Addr).add j = ⟨h, j, none⟩ := by unfold Addr.add; split <;> simp_all
      rw [this]; exact hc j u hu) (h1 y) (by simp only [maxLen]; omega) (by omega) hbase
  refine ⟨v', w', hrun, ⟨?_, by rw [List.length_append, List.flatMap_append]; simpa using h2⟩, h3, h5⟩
  rw [List.length_append, List.length_singleton]
  have := Nat.mul_le_mul hlen et.ksmall
  omega

/-- 'out = append(out, y)', y laid in block h. -/
theorem wpList_appE {ops : Array Oper} {rest : List Oper} {o : Oper} {a : Act} {Q : Exit → Act → World → Prop} (et : ElemT t E k bytes) (hk : ∀ x, (enc x).length = k) (h1 : ∀ x, ∀ u ∈ enc x, u.oneCell' = true) (hgd : o.guard = none) (s x : Operand)
    (ho : o.op = .call { callee := .builtin .append, args := #[s, x], argTypes := #[t, t] })
    (hs : a.eval s = v) (hown : OK enc k E w base v xs) (h : Nat) (hx : a.eval x = .slice (some ⟨h, 0, none⟩) 1 1)
    (hc : ∀ (j : Nat) u, (enc y)[j]? = some u → w.cell? ⟨h, j, none⟩ = some u) (hlen : xs.length + 1 ≤ 1000000) (hbase : base ≤ w.heap.size)
    (hK : ∀ v' w', OK enc k E w' base v' (xs ++ [y]) → w.grownBy w' v.ownBlock → (v'.ownBlock = v.ownBlock ∨ v'.ownBlock = some w.heap.size) → wpList Tryz.prog ops Q rest (a.put o.dst v') w') : wpList Tryz.prog ops Q (o :: rest) a w := by
  obtain ⟨v', w', hrun, h2, h3, h4⟩ := run_app1 et hk h1 o.type hown h hc hlen hbase
  refine wpList_plain hgd fun _ hK' => ?_
  unfold Oper.wp execOp
  simp only [ho, resolve, invoke, builtin, Sem.run_bind, Sem.run_pure, Result.andThen_ok, List.map_toArray, List.map_cons, List.map_nil, hs, hx, hrun]
  exact hK' _ _ (hK v' w' h2 h3 h4)

end

section

variable {α : Type} {enc : α → List Value} {k bytes t E : Nat} {w : World} {base : Nat} {v : Value} {xs : List α} {y : α}

/-- 'append(out, y)' in a region whose order is drawn, y laid in block h. -/
theorem step_app1 {ops : Array Oper} {o : Oper} {a : Act} {K : Act → World → Prop} {Q : Exit → Act → World → Prop} {F : Prop} (et : ElemT t E k bytes) (hk : ∀ x, (enc x).length = k) (h1 : ∀ x, ∀ u ∈ enc x, u.oneCell' = true) (hgd : o.guard = none) (s x : Operand)
    (ho : o.op = .call { callee := .builtin .append, args := #[s, x], argTypes := #[t, t] })
    (hs : a.eval s = v) (hown : OK enc k E w base v xs) (h : Nat) (hx : a.eval x = .slice (some ⟨h, 0, none⟩) 1 1)
    (hc : ∀ (j : Nat) u, (enc y)[j]? = some u → w.cell? ⟨h, j, none⟩ = some u) (hlen : xs.length + 1 ≤ 1000000) (hbase : base ≤ w.heap.size)
    (hK : ∀ v' w', OK enc k E w' base v' (xs ++ [y]) → w.grownBy w' v.ownBlock → (v'.ownBlock = v.ownBlock ∨ v'.ownBlock = some w.heap.size) → K (a.put o.dst v') w') :
    if Region.wanted o (yielded ops a.tmps) = true then Oper.wp Tryz.prog o a w K Q else F := by
  have hw : Region.wanted o (yielded ops a.tmps) = true := by simp [Region.wanted, hgd]
  rw [if_pos hw]
  obtain ⟨v', w', hrun, h2, h3, h4⟩ := run_app1 et hk h1 o.type hown h hc hlen hbase
  unfold Oper.wp execOp
  simp only [ho, resolve, invoke, builtin, Sem.run_bind, Sem.run_pure, Result.andThen_ok, List.map_toArray, List.map_cons, List.map_nil, hs, hx, hrun]
  exact hK v' w' h2 h3 h4

end

theorem ro_app1 {α : Type} {enc : α → List Value} {k bytes t E : Nat} {w : World} {base : Nat} {v : Value} {xs : List α} {y : α} {a : Act} {ty : TypeId} {pos : String} {d : Option Tmp} {af : Array Edge} {gd : Option (Nat × Bool)} {s x : Tmp} (et : ElemT t E k bytes) (hk : ∀ x, (enc x).length = k) (h1 : ∀ x, ∀ u ∈ enc x, u.oneCell' = true)
    (hs : a.tmps.getD s undef = v) (hown : OK enc k E w base v xs) (h : Nat) (hx : a.tmps.getD x undef = .slice (some ⟨h, 0, none⟩) 1 1)
    (hc : ∀ (j : Nat) u, (enc y)[j]? = some u → w.cell? ⟨h, j, none⟩ = some u) (hlen : xs.length + 1 ≤ 1000000) (hbase : base ≤ w.heap.size) :
    ∃ v' w', (execOp a.eval { dst := d, op := .call { callee := .builtin .append, args := #[.tmp s, .tmp x], argTypes := #[t, t] }, type := ty, pos := pos, after := af, guard := gd }).run Tryz.prog w = .ok (.value v') w' ∧
      OK enc k E w' base v' (xs ++ [y]) ∧ w.grownBy w' v.ownBlock ∧ (v'.ownBlock = v.ownBlock ∨ v'.ownBlock = some w.heap.size) := by
  obtain ⟨v', w', hrun, h2, h3, h4⟩ := run_app1 et hk h1 ty hown h hc hlen hbase
  refine ⟨v', w', ?_, h2, h3, h4⟩
  unfold execOp
  have e1 : a.eval (.tmp s) = v := hs
  have e2 : a.eval (.tmp x) = .slice (some ⟨h, 0, none⟩) 1 1 := hx
  simp only [resolve, invoke, builtin, Sem.run_bind, Sem.run_pure, Result.andThen_ok, List.map_toArray, List.map_cons, List.map_nil, e1, e2, hrun]

end Go.Proofs.YtbagmmncjmbboaaGreat
