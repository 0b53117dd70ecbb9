/-
  Words for memory in the laws of layer 14: appends, rows of calls, rows of numbers compared.
-/
import Derived.Test.YtgahkloldpjnkaaMV15
import Derived.RegionTactic
import Derived.Deep.RegionLaw
namespace Go.Proofs.Ytgahkloldpjnkaa
open Go.RowKit Go.Maps
set_option linter.unusedVariables false

/-- What the program's tables say of a slice type t of elements E. -/
structure ElemT (t E k bytes : Nat) : Prop where
  under : Try.prog.underlying t = some (.slice E)
  info : ∃ (i : TypeInfo) (z : Value), Try.prog.info? E = some i ∧ i.zero = some z ∧ i.size = k ∧ i.bytes = bytes ∧ z.cells.size = k
  kpos : 0 < k
  small : bytes ≤ 1000
  ksmall : k ≤ 1000

theorem elemT_of {t E k bytes : Nat} {z : Value} (h1 : Try.prog.underlying t = some (.slice E)) (h2 : (Try.prog.info? E).map (fun i => (i.zero, i.size, i.bytes)) = some (some z, k, bytes)) (h3 : z.cells.size = k) (h4 : 0 < k) (h5 : bytes ≤ 1000) (h6 : k ≤ 1000) : ElemT t E k bytes := by
  obtain ⟨i, hi, hz0, hz1, hz2⟩ := info_parts h2
  exact ⟨h1, ⟨i, z, hi, hz0, hz1, hz2, h3⟩, h4, h5, h6⟩

section

variable {α : Type} {enc : α → List Value} {k bytes t E : Nat} {w : World} {base : Nat} {v u : Value} {xs ys : List α} {y : α}

theorem run_app1 (et : ElemT t E k bytes) (hk : ∀ x, (enc x).length = k) (h1 : ∀ x, ∀ u ∈ enc x, u.oneCell' = true) (ty : TypeId) (hown : OK enc k E w base v xs) (h : Nat)
    (hc : ∀ (j : Nat) u, (enc y)[j]? = some u → w.cell? ⟨h, j, none⟩ = some u) (hlen : xs.length + 1 ≤ 1000000) (hbase : base ≤ w.heap.size) :
    ∃ v' w', (Builtin.append_ #[t, t] ty #[v, .slice (some ⟨h, 0, none⟩) 1 1]).run Try.prog w = .ok v' w' ∧ OK enc k E w' base v' (xs ++ [y]) ∧ w.grownBy w' v.ownBlock ∧ (v'.ownBlock = v.ownBlock ∨ v'.ownBlock = some w.heap.size) := by
  obtain ⟨i, z, hi, hz0, hz1, hz2, hz3⟩ := et.info
  obtain ⟨o1, o2⟩ := hown
  have hb1000 : (xs.length + 1) * bytes ≤ 1000000 * 1000 := Nat.mul_le_mul hlen et.small
  obtain ⟨v', w', hrun, h2, h3, _, h5⟩ := run_append_own_at (P := Try.prog) w base t ty E i z k bytes et.under hi hz0 hz1 hz2 hz3 et.kpos v _ _ o2 ⟨h, 0, none⟩ 1 1 (enc y) (by simp [hk]) (by
      intro j u hu
      have : (⟨h, 0, none⟩ : Addr).add j = ⟨h, j, none⟩ := by unfold Addr.add; split <;> simp_all
      rw [this]; exact hc j u hu) (h1 y) (by simp only [maxLen]; omega) (by omega) hbase
  refine ⟨v', w', hrun, ⟨?_, by rw [List.length_append, List.flatMap_append]; simpa using h2⟩, h3, h5⟩
  rw [List.length_append, List.length_singleton]
  have := Nat.mul_le_mul hlen et.ksmall
  omega

/-- 'out = append(out, y)', y laid in block h. -/
theorem wpList_appE {ops : Array Oper} {rest : List Oper} {o : Oper} {a : Act} {Q : Exit → Act → World → Prop} (et : ElemT t E k bytes) (hk : ∀ x, (enc x).length = k) (h1 : ∀ x, ∀ u ∈ enc x, u.oneCell' = true) (hgd : o.guard = none) (s x : Operand)
    (ho : o.op = .call { callee := .builtin .append, args := #[s, x], argTypes := #[t, t] })
    (hs : a.eval s = v) (hown : OK enc k E w base v xs) (h : Nat) (hx : a.eval x = .slice (some ⟨h, 0, none⟩) 1 1)
    (hc : ∀ (j : Nat) u, (enc y)[j]? = some u → w.cell? ⟨h, j, none⟩ = some u) (hlen : xs.length + 1 ≤ 1000000) (hbase : base ≤ w.heap.size)
    (hK : ∀ v' w', OK enc k E w' base v' (xs ++ [y]) → w.grownBy w' v.ownBlock → (v'.ownBlock = v.ownBlock ∨ v'.ownBlock = some w.heap.size) → wpList Try.prog ops Q rest (a.put o.dst v') w') : wpList Try.prog ops Q (o :: rest) a w := by
  obtain ⟨v', w', hrun, h2, h3, h4⟩ := run_app1 et hk h1 o.type hown h hc hlen hbase
  refine wpList_plain hgd fun _ hK' => ?_
  unfold Oper.wp execOp
  simp only [ho, resolve, invoke, builtin, Sem.run_bind, Sem.run_pure, Result.andThen_ok, List.map_toArray, List.map_cons, List.map_nil, hs, hx, hrun]
  exact hK' _ _ (hK v' w' h2 h3 h4)

/-- 'append(out, y)' in a region whose order is drawn, y laid in block h. -/
theorem step_app1 {ops : Array Oper} {o : Oper} {a : Act} {K : Act → World → Prop} {Q : Exit → Act → World → Prop} {F : Prop} (et : ElemT t E k bytes) (hk : ∀ x, (enc x).length = k) (h1 : ∀ x, ∀ u ∈ enc x, u.oneCell' = true) (hgd : o.guard = none) (s x : Operand)
    (ho : o.op = .call { callee := .builtin .append, args := #[s, x], argTypes := #[t, t] })
    (hs : a.eval s = v) (hown : OK enc k E w base v xs) (h : Nat) (hx : a.eval x = .slice (some ⟨h, 0, none⟩) 1 1)
    (hc : ∀ (j : Nat) u, (enc y)[j]? = some u → w.cell? ⟨h, j, none⟩ = some u) (hlen : xs.length + 1 ≤ 1000000) (hbase : base ≤ w.heap.size)
    (hK : ∀ v' w', OK enc k E w' base v' (xs ++ [y]) → w.grownBy w' v.ownBlock → (v'.ownBlock = v.ownBlock ∨ v'.ownBlock = some w.heap.size) → K (a.put o.dst v') w') :
    if Region.wanted o (yielded ops a.tmps) = true then Oper.wp Try.prog o a w K Q else F := by
  have hw : Region.wanted o (yielded ops a.tmps) = true := by simp [Region.wanted, hgd]
  rw [if_pos hw]
  obtain ⟨v', w', hrun, h2, h3, h4⟩ := run_app1 et hk h1 o.type hown h hc hlen hbase
  unfold Oper.wp execOp
  simp only [ho, resolve, invoke, builtin, Sem.run_bind, Sem.run_pure, Result.andThen_ok, List.map_toArray, List.map_cons, List.map_nil, hs, hx, hrun]
  exact hK v' w' h2 h3 h4

theorem flat_one (h1 : ∀ x, ∀ u ∈ enc x, u.oneCell' = true) : ∀ ys : List α, ∀ u ∈ ys.flatMap enc, u.oneCell' = true := by
  intro ys u hu
  obtain ⟨y, _, hu⟩ := List.mem_flatMap.1 hu
  exact h1 y u hu

theorem flat_cells (hk : ∀ x, (enc x).length = k) {b : Nat} : ∀ (ys : List α) (o : Nat), (∀ i x, ys[i]? = some x → ∀ (j : Nat) u, (enc x)[j]? = some u → w.cell? ⟨b, o + i * k + j, none⟩ = some u) → ∀ (j : Nat) u, (ys.flatMap enc)[j]? = some u → w.cell? ⟨b, o + j, none⟩ = some u
  | [], _, _, j, u, hu => by simp at hu
  | y :: r, o, h, j, u, hu => by
    rw [List.flatMap_cons] at hu
    by_cases hj : j < k
    · rw [List.getElem?_append_left (by rw [hk]; exact hj)] at hu
      have := h 0 y rfl j u hu
      rw [Nat.zero_mul, Nat.add_zero] at this
      exact this
    · rw [List.getElem?_append_right (by rw [hk]; omega), hk] at hu
      have := flat_cells hk r (o + k) (fun i x hx j u hu => by
        have := h (i + 1) x (by simpa using hx) j u hu
        rw [Nat.add_mul, Nat.one_mul] at this
        rw [show o + k + i * k + j = o + (i * k + k) + j by omega]
        exact this) (j - k) u hu
      rw [show o + k + (j - k) = o + j by omega] at this
      exact this

theorem run_appN (et : ElemT t E k bytes) (hk : ∀ x, (enc x).length = k) (h1 : ∀ x, ∀ u ∈ enc x, u.oneCell' = true) (ty : TypeId) (hown : OK enc k E w base v xs) {B : Nat} (hr : RK enc k w B u ys) (hlen : xs.length + ys.length ≤ 10000000) (hbase : base ≤ w.heap.size) :
    ∃ v' w', (Builtin.append_ #[t, t] ty #[v, u]).run Try.prog w = .ok v' w' ∧ OK enc k E w' base v' (xs ++ ys) ∧ w.grownBy w' v.ownBlock ∧ (v'.ownBlock = v.ownBlock ∨ v'.ownBlock = some w.heap.size) := by
  obtain ⟨i, z, hi, hz0, hz1, hz2, hz3⟩ := et.info
  obtain ⟨o1, o2⟩ := hown
  obtain ⟨r1, A, c, rfl, r3, r4, r5⟩ := hr
  have hb : (xs.length + ys.length) * bytes ≤ 10000000 * 1000 := Nat.mul_le_mul hlen et.small
  have hkk : (xs.length + ys.length) * k ≤ 10000000 * 1000 := Nat.mul_le_mul hlen et.ksmall
  by_cases hnil : A = none ∧ ys = []
  · obtain ⟨rfl, rfl⟩ := hnil
    refine ⟨v, w, ?_, ⟨by simpa using o1, by simpa using o2⟩, World.grownBy.refl w _, .inl rfl⟩
    rcases o2.2 with ⟨rfl, hn⟩ | ⟨g, cap, cur, rfl, _, _, hnc, _⟩
    · simp [Builtin.append_, run_underlying et.under, sizeOf, typeInfo, hi, Builtin.lenOf, Builtin.firstCells]
    · simp [Builtin.append_, run_underlying et.under, sizeOf, typeInfo, hi, Builtin.lenOf, Builtin.firstCells, hnc, storeCells]
  · obtain ⟨ad, rfl, hca⟩ : ∃ ad, A = some ad ∧ ∀ j u, (ys.flatMap enc)[j]? = some u → w.cell? (ad.add j) = some u := by
      rcases r5 with rfl | ⟨b, off, rfl, hb, hc⟩
      · cases A with
        | none => exact (hnil ⟨rfl, rfl⟩).elim
        | some ad => exact ⟨ad, rfl, by simp⟩
      · refine ⟨_, rfl, fun j u hu => ?_⟩
        have : (⟨b, off, none⟩ : Addr).add j = ⟨b, off + j, none⟩ := by unfold Addr.add; split <;> simp_all
        rw [this]
        exact flat_cells hk ys off hc j u hu
    obtain ⟨v', w', hrun, h2, h3, _, h5⟩ := run_append_own_at (P := Try.prog) w base t ty E i z k bytes et.under hi hz0 hz1 hz2 hz3 et.kpos v _ _ o2 ad ys.length c (ys.flatMap enc) (flat_len hk ys) hca (flat_one h1 ys) (by simp only [maxLen]; omega) (by omega) hbase
    exact ⟨v', w', hrun, ⟨by rw [List.length_append]; omega, by rw [List.length_append, List.flatMap_append]; exact h2⟩, h3, h5⟩

/-- 'append(out, ys...)'. -/
theorem wpList_appN {ops : Array Oper} {rest : List Oper} {o : Oper} {a : Act} {Q : Exit → Act → World → Prop} (et : ElemT t E k bytes) (hk : ∀ x, (enc x).length = k) (h1 : ∀ x, ∀ u ∈ enc x, u.oneCell' = true) (hgd : o.guard = none) (s x : Operand)
    (ho : o.op = .call { callee := .builtin .append, args := #[s, x], argTypes := #[t, t] })
    (hs : a.eval s = v) (hown : OK enc k E w base v xs) {B : Nat} (hx : a.eval x = u) (hr : RK enc k w B u ys) (hlen : xs.length + ys.length ≤ 10000000) (hbase : base ≤ w.heap.size)
    (hK : ∀ v' w', OK enc k E w' base v' (xs ++ ys) → w.grownBy w' v.ownBlock → (v'.ownBlock = v.ownBlock ∨ v'.ownBlock = some w.heap.size) → wpList Try.prog ops Q rest (a.put o.dst v') w') : wpList Try.prog ops Q (o :: rest) a w := by
  obtain ⟨v', w', hrun, h2, h3, h4⟩ := run_appN et hk h1 o.type hown hr hlen hbase
  refine wpList_plain hgd fun _ hK' => ?_
  unfold Oper.wp execOp
  simp only [ho, resolve, invoke, builtin, Sem.run_bind, Sem.run_pure, Result.andThen_ok, List.map_toArray, List.map_cons, List.map_nil, hs, hx, hrun]
  exact hK' _ _ (hK v' w' h2 h3 h4)

theorem step_appN {ops : Array Oper} {o : Oper} {a : Act} {K : Act → World → Prop} {Q : Exit → Act → World → Prop} {F : Prop} (et : ElemT t E k bytes) (hk : ∀ x, (enc x).length = k) (h1 : ∀ x, ∀ u ∈ enc x, u.oneCell' = true) (hgd : o.guard = none) (s x : Operand)
    (ho : o.op = .call { callee := .builtin .append, args := #[s, x], argTypes := #[t, t] })
    (hs : a.eval s = v) (hown : OK enc k E w base v xs) {B : Nat} (hx : a.eval x = u) (hr : RK enc k w B u ys) (hlen : xs.length + ys.length ≤ 10000000) (hbase : base ≤ w.heap.size)
    (hK : ∀ v' w', OK enc k E w' base v' (xs ++ ys) → w.grownBy w' v.ownBlock → (v'.ownBlock = v.ownBlock ∨ v'.ownBlock = some w.heap.size) → K (a.put o.dst v') w') :
    if Region.wanted o (yielded ops a.tmps) = true then Oper.wp Try.prog o a w K Q else F := by
  have hw : Region.wanted o (yielded ops a.tmps) = true := by simp [Region.wanted, hgd]
  rw [if_pos hw]
  obtain ⟨v', w', hrun, h2, h3, h4⟩ := run_appN et hk h1 o.type hown hr hlen hbase
  unfold Oper.wp execOp
  simp only [ho, resolve, invoke, builtin, Sem.run_bind, Sem.run_pure, Result.andThen_ok, List.map_toArray, List.map_cons, List.map_nil, hs, hx, hrun]
  exact hK v' w' h2 h3 h4

end

theorem RK.one_ {α : Type} {enc : α → List Value} {k : Nat} (hk : ∀ x, (enc x).length = k) (W : World) (t : TypeId) (cs : Array Value) (y : α) (h : cs.toList = enc y) (hsmall : k ≤ 1000) : RK enc k (W.alloc (.cells cs t)) (W.heap.size + 1) (.slice (some ⟨W.heap.size, 0, none⟩) 1 1) [y] := by
  refine ⟨by simp; omega, some ⟨W.heap.size, 0, none⟩, 1, rfl, by simp, by omega, .inr ⟨W.heap.size, 0, rfl, by omega, fun i x hx j u hu => ?_⟩⟩
  match i, hx with
  | 0, hx =>
    simp at hx
    subst hx
    rw [Nat.zero_mul, Nat.zero_add, (Blk.new W t cs).cell j, ← Array.getElem?_toList, h]
    exact hu
  | i + 1, hx => simp at hx

theorem RK.cutTo {α : Type} {enc : α → List Value} {k : Nat} {w : World} {B n c : Nat} {A : Option Addr} {xs : List α} (h : RK enc k w B (.slice A n c) xs) (m : Nat) (hm : m ≤ n) : RK enc k w B (.slice A m c) (xs.take m) := by
  obtain ⟨h1, A', c', e, h3, h4, h5⟩ := h
  injection e with e1 e2 e3
  subst e1 e2 e3
  have hl : (xs.take m).length = m := by rw [List.length_take]; omega
  refine ⟨?_, A, c, by rw [hl], by rw [hl]; omega, h4, ?_⟩
  · rw [hl]
    exact Nat.le_trans (Nat.mul_le_mul_right _ hm) h1
  · rcases h5 with h5 | ⟨b, off, e, hb, hc⟩
    · left; rw [h5]; simp
    · refine .inr ⟨b, off, e, hb, fun i x hx j u hu => hc i x ?_ j u hu⟩
      rw [List.getElem?_take] at hx
      split at hx
      · exact hx
      · cases hx

theorem OK.some_ {α : Type} {enc : α → List Value} {k E : Nat} {w : World} {B g : Nat} {v : Value} {xs : List α} (h : OK enc k E w B v xs) (hg : v.ownBlock = some g) : ∃ cap, v = .slice (some ⟨g, 0, none⟩) xs.length cap ∧ xs.length ≤ cap ∧ cap ≤ 9223372036854775807 := by
  rcases h.2.2 with ⟨e, _⟩ | ⟨g', cap, cur, e, _, _, hn, hc, _⟩
  · rw [e] at hg; cases hg
  · rw [e] at hg
    simp only [Value.ownBlock] at hg
    injection hg with hg
    subst hg
    exact ⟨cap, e, hn, by simpa [maxLen] using hc⟩

/-- Rows of unlike types lie in unlike blocks. -/
theorem rows_ne {α β : Type} {enc : α → List Value} {enc' : β → List Value} {k k' E E' : Nat} {w : World} {B B' : Nat} {v v' : Value} {xs : List α} {ys : List β} (h : OK enc k E w B v xs) (h' : OK enc' k' E' w B' v' ys) (hne : E ≠ E') : v.ownBlock = none ∨ v.ownBlock ≠ v'.ownBlock := by
  rcases h.2.2 with ⟨e, _⟩ | ⟨g, cap, cur, e, _, hg, _⟩
  · rw [e]; exact .inl rfl
  · right
    intro h2
    rw [e] at h2
    rcases h'.2.2 with ⟨e', _⟩ | ⟨g', cap', cur', e', _, hg', _⟩
    · rw [e'] at h2; cases h2
    · rw [e'] at h2
      simp only [Value.ownBlock] at h2
      injection h2 with h2
      subst h2
      have hb : Blk w g E cur := hg
      exact hb.ne_ (t' := E') (cs' := cur') hg' hne rfl

set_option maxRecDepth 100000 in
set_option maxHeartbeats 2000000 in
theorem SameInts_yes (v v2 : Value) (V : List Int) (w : World) (B B2 : Nat) (hv : RI w B v V) (hv2 : RI w B2 v2 V) :
    Calls Try.prog 16 #[v, v2] w fun e w' => e = .returned (.bool true) ∧ ∃ q, w' = w.drewN q := by
  obtain ⟨A, c, rfl, hc1, hc2, hc3, HC⟩ := hv.open_
  obtain ⟨A2, c2, rfl, hd1, hd2, hd3, HD⟩ := hv2.open_
  clear hv hv2
  obtain ⟨n, hn⟩ : ∃ n, n = V.length := ⟨_, rfl⟩
  rw [← hn] at hc1 hc3 hd1 hd3 ⊢
  have HN := Lib.hid hn
  clear hn
  go_enter Try.func16, Try.ntmps16
  go_wp2
  go_loopw [5] (fun i wr => ∃ (k q : Nat), k ≤ n ∧ i = .int .i64 k ∧ wr = w.drewN q) (fun i wr => n - (intOf i).toNat)
  case atStart => exact ⟨0, 0, Nat.zero_le _, rfl, rfl⟩
  case round =>
    obtain ⟨k, q, hk, rfl, rfl⟩ := hrel
    by_cases hlt : k < n
    · obtain ⟨b, o, rfl, hb, hx⟩ := HC.out k (by have := HN.out; omega)
      obtain ⟨b2, o2, rfl, hb2, hx2⟩ := HD.out k (by have := HN.out; omega)
      obtain ⟨y, hy⟩ : ∃ y, y = V[k]'(by have := HN.out; omega) := ⟨_, rfl⟩
      rw [← hy] at hx hx2
      have hx := cellI hx
      have hx2 := cellI hx2
      have hx : (w.drewN q).cell? ⟨b, o + k, none⟩ = some (.int .i64 y) := hx
      have hx2 : (w.drewN q).cell? ⟨b2, o2 + k, none⟩ = some (.int .i64 y) := hx2
      clear hy
      obtain ⟨wr, hwr⟩ : ∃ wr, wr = w.drewN q := ⟨_, rfl⟩
      rw [← hwr] at hx hx2 ⊢
      have HWr := Lib.hid hwr
      clear hwr
      go_wp2_with fail
      go_quiet (fail)
      go_wp2_with fail
      go_roundw
      case rel => exact ⟨k + 1, _, by omega, by go_num, by rw [HWr.out, World.drewN_drewN]⟩
      case measure => simp [intOf]; omega
    · obtain rfl : k = n := by omega
      go_wp2
      go_ret
      exact ⟨rfl, q, rfl⟩

end Go.Proofs.Ytgahkloldpjnkaa
