/-
  Words for plain's walkFrom: its first state in memory; what each step keeps.
-/
import Derived.Test.YtghacfhpafbdmaaGreatG27
namespace Go.Proofs.YtghacfhpafbdmaaGreat
open Go.RowKit Go.Sort
set_option linter.unusedVariables false

theorem run_make153 (n : Nat) (hn : n ≤ 1000000) (w : World) : (Instr.makeSlice 153 (.int .i64 (n : Int)) (.int .i64 (n : Int))).run Tryz.prog w = .ok (.slice (some ⟨w.heap.size, 0, none⟩) n n) (w.alloc (.cells (madeCells #[.int .i64 0, .int .i64 0, .int .i64 0, .int .i64 0, .int .i64 0] (n * 5)) 160)) := by
  obtain ⟨i, hi, hz0, hz1, hz2⟩ := info_parts (P := Tryz.prog) (e := 160) (z := .agg #[.int .i64 0, .int .i64 0, .int .i64 0, .int .i64 0, .int .i64 0]) (size := 5) (bytes := 40) (by kernel_rfl)
  have := run_makeSlice (P := Tryz.prog) w 153 160 i _ Tryz.underlying153 hi hz0 .i64 .i64 n n (by omega) (Int.le_refl _) (by rw [hz1]; simp; omega) (by rw [hz2]; omega) (by omega)
  rw [this, hz1]
  simp [Value.cells]
theorem run_make114 (n : Nat) (hn : n ≤ 1000000) (w : World) : (Instr.makeSlice 114 (.int .i64 (n : Int)) (.int .i64 (n : Int))).run Tryz.prog w = .ok (.slice (some ⟨w.heap.size, 0, none⟩) n n) (w.alloc (.cells (madeCells #[.int .i64 0] n) 2)) := by
  obtain ⟨i, hi, hz0, hz1, hz2⟩ := info_parts (P := Tryz.prog) (e := 2) (z := .int .i64 0) (size := 1) (bytes := 8) (by kernel_rfl)
  have := run_makeSlice (P := Tryz.prog) w 114 2 i _ Tryz.underlying114 hi hz0 .i64 .i64 n n (by omega) (Int.le_refl _) (by rw [hz1]; simp; omega) (by rw [hz2]; omega) (by omega)
  rw [this, hz1]
  simp [Value.cells]
theorem run_make154 (n : Nat) (hn : n ≤ 1000000) (w : World) : (Instr.makeSlice 154 (.int .i64 (n : Int)) (.int .i64 (n : Int))).run Tryz.prog w = .ok (.slice (some ⟨w.heap.size, 0, none⟩) n n) (w.alloc (.cells (madeCells #[.bool false] n) 4)) := by
  obtain ⟨i, hi, hz0, hz1, hz2⟩ := info_parts (P := Tryz.prog) (e := 4) (z := .bool false) (size := 1) (bytes := 1) (by kernel_rfl)
  have := run_makeSlice (P := Tryz.prog) w 154 4 i _ Tryz.underlying154 hi hz0 .i64 .i64 n n (by omega) (Int.le_refl _) (by rw [hz1]; simp; omega) (by rw [hz2]; omega) (by omega)
  rw [this, hz1]
  simp [Value.cells]
theorem made_last (n : Nat) : madeCells #[.int .i64 0, .int .i64 0, .int .i64 0, .int .i64 0, .int .i64 0] (n * 5) = ((List.replicate n ((0, default) : Stp)).flatMap encP).toArray := by
  apply Array.ext
  · rw [size_madeCells, List.size_toArray, flat_len encP_len]; simp
  · intro i h1 h2
    rw [size_madeCells] at h1
    have hd : i / 5 < n := by omega
    have hm : i % 5 < 5 := Nat.mod_lt _ (by decide)
    have hx : (List.replicate n ((0, default) : Stp))[i / 5]? = some (0, default) := by simp [hd]
    have hall : ∀ j, j < 5 → (encP (0, default))[j]? = some (.int .i64 0) := by
      intro j hj
      match j, hj with
      | 0, _ => rfl
      | 1, _ => rfl
      | 2, _ => rfl
      | 3, _ => rfl
      | 4, _ => rfl
    have h3 := flat_get encP_len (List.replicate n ((0, default) : Stp)) (i / 5) _ hx (i % 5) _ (hall _ hm)
    rw [Nat.div_add_mod'] at h3
    have h4 : ((List.replicate n ((0, default) : Stp)).flatMap encP).toArray[i] = .int .i64 0 := by
      simp only [List.getElem_toArray]
      exact (List.getElem?_eq_some_iff.1 h3).2
    rw [h4]
    simp only [madeCells, Array.getElem_map, Array.getElem_range]
    have : ∀ j, j < 5 → (#[Value.int .i64 0, .int .i64 0, .int .i64 0, .int .i64 0, .int .i64 0] : Array Value)[j]! = .int .i64 0 := by
      intro j hj
      match j, hj with
      | 0, _ => rfl
      | 1, _ => rfl
      | 2, _ => rfl
      | 3, _ => rfl
      | 4, _ => rfl
    exact this (i % 5) hm

section
variable {a : Act} {ty : TypeId} {pos : String} {d : Option Tmp} {af : Array Edge} {g : Option (Nat × Bool)}
theorem ro_make {x : Tmp} {T n : Nat} {v : Value} {o : Obj} (w : World) (hx : a.tmps.getD x undef = .int .i64 (n : Int)) (hm : (Instr.makeSlice T (.int .i64 (n : Int)) (.int .i64 (n : Int))).run Tryz.prog w = .ok v (w.alloc o)) :
    (execOp a.eval { dst := d, op := .makeSlice T (.tmp x) (.tmp x), type := ty, pos := pos, after := af, guard := g }).run Tryz.prog w = .ok (.value v) (w.alloc o) := by
  simp only [execOp, Act.eval, hx, Sem.run_bind, hm, Result.andThen_ok, Sem.run_pure]
theorem ro_slice3 {x : Tmp} {v0 : Int} (w : World) (hx : a.tmps.getD x undef = .int .i64 v0) :
    (execOp a.eval { dst := d, op := .buildSlice 22 1 #[(0, .tmp x)], type := ty, pos := pos, after := af, guard := g }).run Tryz.prog w = .ok (.value (.slice (some ⟨w.heap.size, 0, none⟩) 1 1)) (w.alloc (.cells #[.int .i64 v0] 3)) := by
  simp only [execOp, Act.eval, hx, List.map_toArray, List.map]
  go_simp
theorem ro_build156 {x0 x1 x2 x3 : Tmp} {A0 A1 A2 A3 : Option Addr} {n0 n1 n2 n3 c0 c1 c2 c3 : Nat} (w : World) (h0 : a.tmps.getD x0 undef = .slice A0 n0 c0) (h1 : a.tmps.getD x1 undef = .slice A1 n1 c1) (h2 : a.tmps.getD x2 undef = .slice A2 n2 c2) (h3 : a.tmps.getD x3 undef = .slice A3 n3 c3) :
    (execOp a.eval { dst := d, op := .build 156 #[(0, .tmp x0), (1, .tmp x1), (2, .tmp x2), (3, .tmp x3)], type := ty, pos := pos, after := af, guard := g }).run Tryz.prog w = .ok (.value (.agg #[.slice A0 n0 c0, .slice A1 n1 c1, .slice A2 n2 c2, .slice A3 n3 c3])) w := by
  simp only [execOp, Act.eval, h0, h1, h2, h3, List.map_toArray, List.map]
  go_simp
theorem ro_box156 {x : Tmp} {A0 A1 A2 A3 : Option Addr} {n0 n1 n2 n3 c0 c1 c2 c3 : Nat} (w : World) (h0 : a.tmps.getD x undef = .agg #[.slice A0 n0 c0, .slice A1 n1 c1, .slice A2 n2 c2, .slice A3 n3 c3]) :
    (execOp a.eval { dst := d, op := .box 156 (.tmp x), type := ty, pos := pos, after := af, guard := g }).run Tryz.prog w = .ok (.value (.pointer (some ⟨w.heap.size, 0, none⟩))) (w.alloc (.cells #[.slice A0 n0 c0, .slice A1 n1 c1, .slice A2 n2 c2, .slice A3 n3 c3] 156)) := by
  simp only [execOp, Act.eval, h0]
  go_simp
end

theorem OK.apart {α β : Type} {enc : α → List Value} {enc' : β → List Value} {k k' E E' : Nat} {w : World} {B B' : Nat} {v v' : Value} {xs : List α} {ys : List β} (h : OK enc k E w B v xs) (h' : OK enc' k' E' w B' v' ys) (hne : E ≠ E') : v.ownBlock = none ∨ v.ownBlock ≠ v'.ownBlock := by
  rcases h.2.2 with ⟨rfl, _⟩ | ⟨g, cap, cur, rfl, _, hg, _⟩
  · exact .inl rfl
  · right
    intro e
    exact h'.ne_blk (g := g) (t := E) (cs := cur) hg (Ne.symm hne) e.symm

/-- The state while walkFrom goes on: the tree's, and the ways. -/
structure Stt (w wr : World) (n gw gl gf gk G B' : Nat) (vs : List Value) (ls : List (List Stp)) (ov : Value) (b : Bs) : Prop where
  below : Below w.heap.size w wr
  wk : WkAt wr w.heap.size gw gl gf gk n ov b
  grp : Grp encP 5 160 wr B' G 153 vs ls
  glt : gl < B'
  gle : w.heap.size ≤ B'
section
variable {w wr : World} {n gw gl gf gk G B' : Nat} {vs : List Value} {ls : List (List Stp)} {ov : Value} {b : Bs}
theorem Grp.own_at (h : Grp encP 5 160 wr B' G 153 vs ls) {i : Nat} {v : Value} (hv : vs[i]? = some v) : ∃ l, OK encP 5 160 wr B' v l :=
  ⟨_, h.own i v (ls[i]'(by rw [← h.len]; exact (List.getElem?_eq_some_iff.1 hv).1)) hv (List.getElem?_eq_getElem _)⟩
theorem Grp.far_blk (h : Grp encP 5 160 wr B' G 153 vs ls) {g t : Nat} {cs : Array Value} (hb : Blk wr g t cs) (ht : 160 ≠ t) : ∀ (i : Nat) v, vs[i]? = some v → v.ownBlock = none ∨ v.ownBlock ≠ some g := by
  intro i v hv
  obtain ⟨l, ho⟩ := h.own_at hv
  exact .inr (ho.ne_blk hb ht)
theorem Stt.later (h : Stt w wr n gw gl gf gk G B' vs ls ov b) {w' : World} (hb : Below wr.heap.size wr w') : Stt w w' n gw gl gf gk G B' vs ls ov b :=
  ⟨h.below.trans (hb.mono h.below.size), h.wk.below hb, h.grp.below hb, h.glt, h.gle⟩
theorem Stt.setKnown (h : Stt w wr n gw gl gf gk G B' vs ls ov b) (i : Nat) : Stt w (wr.setCell ⟨gk, i, none⟩ (.bool true)) n gw gl gf gk G B' vs ls ov ⟨b.order, b.last, b.far, b.known.set i true⟩ :=
  ⟨h.below.setCell h.wk.bk _, h.wk.setKnown i, h.grp.grown (grownBy_set gk i _) (by intro e; injection e with e; exact h.grp.blk.ne_ h.wk.known (by decide) e) (h.grp.far_blk h.wk.known (by decide)), h.glt, h.gle⟩
theorem Stt.setFar (h : Stt w wr n gw gl gf gk G B' vs ls ov b) (i : Nat) (x : Int) : Stt w (wr.setCell ⟨gf, i, none⟩ (.int .i64 x)) n gw gl gf gk G B' vs ls ov ⟨b.order, b.last, b.far.set i x, b.known⟩ :=
  ⟨h.below.setCell h.wk.bf _, h.wk.setFar i x, h.grp.grown (grownBy_set gf i _) (by intro e; injection e with e; exact h.grp.blk.ne_ h.wk.far (by decide) e) (h.grp.far_blk h.wk.far (by decide)), h.glt, h.gle⟩
theorem Grp.setL (h : Grp encP 5 160 wr B' G 153 vs ls) (hl : gl < B') (hG : G ≠ gl) (i : Nat) (u : Value) : Grp encP 5 160 (wr.setCell ⟨gl, i, none⟩ u) B' G 153 vs ls :=
  h.grown (grownBy_set gl i u) (by intro e; injection e with e; exact hG e) (fun j v hv => by
    cases hob : v.ownBlock with
    | none => exact .inl rfl
    | some q => right; intro e; injection e with e; have := (h.own_lt hv q hob).1; omega)
theorem Stt.setLast (h : Stt w wr n gw gl gf gk G B' vs ls ov b) (i : Nat) (s : Stp) (hi : i < n) :
    Stt w (((((wr.setCell ⟨gl, i * 5, none⟩ (.int .i64 (s.1 : Int))).setCell ⟨gl, i * 5 + 1, none⟩ (.int .i64 s.2.id)).setCell ⟨gl, i * 5 + 2, none⟩ (.int .i64 s.2.u)).setCell ⟨gl, i * 5 + 3, none⟩ (.int .i64 s.2.v)).setCell ⟨gl, i * 5 + 4, none⟩ (.int .i64 s.2.w)) n gw gl gf gk G B' vs ls ov ⟨b.order, b.last.set i s, b.far, b.known⟩ := by
  have hG : G ≠ gl := h.grp.blk.ne_ h.wk.last (by decide)
  exact ⟨((((h.below.setCell h.wk.bl _).setCell h.wk.bl _).setCell h.wk.bl _).setCell h.wk.bl _).setCell h.wk.bl _, h.wk.setLast i s hi, ((((h.grp.setL h.glt hG _ _).setL h.glt hG _ _).setL h.glt hG _ _).setL h.glt hG _ _).setL h.glt hG _ _, h.glt, h.gle⟩
theorem Stt.push {wa w5 : World} {ov' : Value} {x : Nat} (h : Stt w wr n gw gl gf gk G B' vs ls ov b) (hba : Below wr.heap.size wr wa) (ho : OK encI 1 3 w5 w.heap.size ov' (b.order.map natI ++ [natI x])) (hg : wa.grownBy w5 ov.ownBlock) :
    Stt w (w5.setCell ⟨gw, 0, none⟩ ov') n gw gl gf gk G B' vs ls ov' ⟨b.order ++ [x], b.last, b.far, b.known⟩ := by
  have ha := h.later hba
  have hno : ∀ q, ov.ownBlock = some q → w.heap.size ≤ q := fun q hq => (h.wk.order.lt q hq).1
  have h5 : Grp encP 5 160 w5 B' G 153 vs ls := ha.grp.grown hg (Ne.symm (ha.wk.order.ne_blk ha.grp.blk (by decide))) (fun i v hv => by
    obtain ⟨l, hl⟩ := ha.grp.own_at hv
    exact hl.apart ha.wk.order (by decide))
  have hhead := ha.wk.head.grown hg (Ne.symm ha.wk.ne_ow)
  exact ⟨(ha.below.grown hg ha.below.size hno).setCell h.wk.bw _, h.wk.push hba ho hg, h5.grown (grownBy_set gw 0 _) (by intro e; injection e with e; exact h5.blk.ne_ hhead (by decide) e) (h5.far_blk hhead (by decide)), h.glt, h.gle⟩
end

/-- Distances are bounded. -/
theorem Went.far_bd {f : Ed → Nat × Nat} {T : List Ed} {n s : Nat} {b : Bs} (h : Went f T n s b) (hw : ∀ e ∈ T, 0 ≤ e.w ∧ e.w ≤ 1099511627776) : ∀ (k x : Nat), b.order[k]? = some x → 0 ≤ frr b.far x ∧ frr b.far x ≤ 1099511627776 * k := by
  intro k
  induction k using Nat.strongRecOn with
  | ind k ih =>
    intro x hx
    rcases Nat.eq_zero_or_pos k with rfl | hk
    · have : x = s := by
        have := h.first
        rw [hx] at this
        exact Option.some.inj this
      rw [this, h.far0]; simp
    · obtain ⟨j, h1, h2, h3, _, h5⟩ := h.came k x hk hx
      have a := ih j h1 _ h2
      have c := hw _ h3
      omega
end Go.Proofs.YtghacfhpafbdmaaGreat
