/-
  Words for plain's waysOf: ways as rows of steps; a step's append in a region whose order is drawn.
-/
import Derived.Test.YtghacfhpafbdmaaGreatG24
import Derived.Deep.RegionLaw
namespace Go.Proofs.YtghacfhpafbdmaaGreat
open Go.RowKit Go.Sort
set_option linter.unusedVariables false

def encP (s : Stp) : List Value := [.int .i64 (s.1 : Int), .int .i64 s.2.id, .int .i64 s.2.u, .int .i64 s.2.v, .int .i64 s.2.w]
theorem encP_len (s : Stp) : (encP s).length = 5 := rfl
theorem encP_one (s : Stp) : ∀ u ∈ encP s, u.oneCell' = true := by intro u hu; simp [encP] at hu; rcases hu with rfl | rfl | rfl | rfl | rfl <;> rfl

section
variable {α : Type} {enc : α → List Value} {k bytes t E : Nat} {w : World} {base : Nat} {v : Value} {xs : List α} {y : α}
/-- 'append(out, y)' in a region whose order is drawn, y laid in block h. -/
theorem step_app1 {ops : Array Oper} {o : Oper} {a : Act} {K : Act → World → Prop} {Q : Exit → Act → World → Prop} {F : Prop} (et : ElemT t E k bytes) (hk : ∀ x, (enc x).length = k) (h1 : ∀ x, ∀ u ∈ enc x, u.oneCell' = true) (hgd : o.guard = none) (s x : Operand)
    (ho : o.op = .call { callee := .builtin .append, args := #[s, x], argTypes := #[t, t] })
    (hs : a.eval s = v) (hown : OK enc k E w base v xs) (h : Nat) (hx : a.eval x = .slice (some ⟨h, 0, none⟩) 1 1)
    (hc : ∀ (j : Nat) u, (enc y)[j]? = some u → w.cell? ⟨h, j, none⟩ = some u) (hlen : xs.length + 1 ≤ 1000000) (hbase : base ≤ w.heap.size)
    (hK : ∀ v' w', OK enc k E w' base v' (xs ++ [y]) → w.grownBy w' v.ownBlock → (v'.ownBlock = v.ownBlock ∨ v'.ownBlock = some w.heap.size) → K (a.put o.dst v') w') :
    if Region.wanted o (yielded ops a.tmps) = true then Oper.wp Tryz.prog o a w K Q else F := by
  have hw : Region.wanted o (yielded ops a.tmps) = true := by simp [Region.wanted, hgd]
  rw [if_pos hw]
  obtain ⟨v', w', hrun, h2, h3, h4⟩ := run_app1 et hk h1 o.type hown h hc hlen hbase
  unfold Oper.wp execOp
  simp only [ho, resolve, invoke, builtin, Sem.run_bind, Sem.run_pure, Result.andThen_ok, List.map_toArray, List.map_cons, List.map_nil, hs, hx, hrun]
  exact hK v' w' h2 h3 h4
end

theorem run_make157 (n : Nat) (hn : n ≤ 1000000) (w : World) : (Instr.makeSlice 157 (.int .i64 (n : Int)) (.int .i64 (n : Int))).run Tryz.prog w = .ok (.slice (some ⟨w.heap.size, 0, none⟩) n n) (w.alloc (.cells (madeCells #[.slice none 0 0] n) 153)) := by
  obtain ⟨i, hi, hz0, hz1, hz2⟩ := info_parts (P := Tryz.prog) (e := 153) (z := .slice none 0 0) (size := 1) (bytes := 24) (by kernel_rfl)
  have := run_makeSlice (P := Tryz.prog) w 157 153 i _ Tryz.underlying157 hi hz0 .i64 .i64 n n (by omega) (Int.le_refl _) (by rw [hz1]; simp; omega) (by rw [hz2]; omega) (by omega)
  rw [this, hz1]
  simp [Value.cells]

/-- What the steps of 'u, v := at(n, e.U), at(n, e.V)' leave in their slots. -/
def SAts (sv se : Value) (pe : Nat) (V : List Int) (u v : Int) (i : Nat) (x : Value) (w : World) : Prop := match i with
  | 0 => x = netV sv se
  | 1 => x = .pointer (some ⟨pe, 1, none⟩)
  | 2 => x = .int .i64 u
  | 3 => x = .int .i64 (pl V u : Nat)
  | 4 => x = netV sv se
  | 5 => x = .pointer (some ⟨pe, 2, none⟩)
  | 6 => x = .int .i64 v
  | 7 => x = .int .i64 (pl V v : Nat)
  | 8 => x = .int .i64 (pl V u : Nat)
  | _ => x = .int .i64 (pl V v : Nat)
def IAts (W : World) (L : Array Bool) (w : World) : Prop := Below W.heap.size W w

theorem ways_len (V : List Int) (T : List Ed) : (waysF (plE V) V.length T).length = V.length := by unfold waysF; rw [length_waysF]; simp
theorem ways_snoc (V : List Int) (F : List Ed) (k : Nat) (hk : k < F.length) : waysF (plE V) V.length (F.take (k + 1)) = wstep (plE V) (waysF (plE V) V.length (F.take k)) F[k] := by
  rw [List.take_succ_eq_append_getElem hk]
  unfold waysF
  rw [List.foldl_append]; rfl
theorem wys_get {W : List (List Stp)} {i : Nat} (h : i < W.length) : W[i]? = some (wys W i) := by
  unfold wys; rw [List.getElem?_eq_getElem h]; simp [List.getD, h]
/-- How many ways there are from a place. -/
theorem wys_len_aux (f : Ed → Nat × Nat) : ∀ (T : List Ed) (W : List (List Stp)) (c : Nat), (∀ e ∈ T, (f e).1 < W.length ∧ (f e).2 < W.length) → (∀ i, (wys W i).length ≤ c) → ∀ i, (wys (T.foldl (wstep f) W) i).length ≤ c + 2 * T.length
  | [], W, c, _, h, i => by simpa using h i
  | e :: r, W, c, hl, h, i => by
    rw [List.foldl_cons]
    have he := hl e (by simp)
    have := wys_len_aux f r (wstep f W e) (c + 2) (fun x hx => by simpa using hl x (by simp [hx])) (fun i => by
      unfold wstep
      rw [wys_wset (by simpa using he.2), wys_wset he.1, wys_wset he.1]
      have a1 := h i
      have a2 := h (f e).1
      have a3 := h (f e).2
      split
      · split
        · simp; omega
        · simp; omega
      · split
        · simp; omega
        · omega) i
    rw [List.length_cons]; omega

theorem OK.ne_blk {α : Type} {enc : α → List Value} {k E g t : Nat} {w : World} {B : Nat} {v : Value} {xs : List α} {cs : Array Value} (h : OK enc k E w B v xs) (hb : Blk w g t cs) (hne : E ≠ t) : v.ownBlock ≠ some g := by
  rcases h.2.2 with ⟨rfl, _⟩ | ⟨g', cap, cur, rfl, _, hh, _⟩
  · simp [Value.ownBlock]
  · intro he
    have : g' = g := by simpa [Value.ownBlock] using he
    subst this
    exact Blk.ne_ (t := E) hh hb hne rfl

/-- What is kept behind 'ways[i] = append(ways[i], y)'. -/
structure Pushed (w4 w6 : World) (B2 G : Nat) (vs : List Value) (ls : List (List Stp)) (i : Nat) (y : Stp) : Prop where
  grp : ∃ vs', Grp encP 5 160 w6 B2 G 153 vs' (wset ls i y)
  below : ∀ (B0 : Nat) (W0 : World), Below B0 W0 w4 → B0 ≤ B2 → B0 ≤ G → B0 ≤ w4.heap.size → Below B0 W0 w6
  grown : ∀ (W : World), W.grownBy w4 (some G) → W.heap.size ≤ B2 → W.grownBy w6 (some G)
  blk : ∀ (g t : Nat) cs, Blk w4 g t cs → 160 ≠ t → g ≠ G → Blk w6 g t cs
  size : w4.heap.size ≤ w6.heap.size
theorem pushed_of {w4 wa w5 : World} {B2 G : Nat} {vs : List Value} {ls : List (List Stp)} {i : Nat} {y : Stp} {vf v' : Value} (hG : Grp encP 5 160 w4 B2 G 153 vs ls) (hvf : vs[i]? = some vf) (hlf : ls[i]? = some (wys ls i))
    (hba : Below w4.heap.size w4 wa) (hB : B2 ≤ wa.heap.size)
    (ho5 : OK encP 5 160 w5 B2 v' (wys ls i ++ [y])) (hg5 : wa.grownBy w5 vf.ownBlock) (hb5 : v'.ownBlock = vf.ownBlock ∨ v'.ownBlock = some wa.heap.size) :
    Pushed w4 (w5.setCell ⟨G, i, none⟩ v') B2 G vs ls i y := by
  have hGa := hG.below hba
  have hst : w5.grownBy (w5.setCell ⟨G, i, none⟩ v') (some G) := ⟨rfl, rfl, rfl, by simp, fun q _ hq => heap_setCell_other _ ⟨G, i, none⟩ q _ (fun e => hq (by simp [e]))⟩
  have hz : w4.heap.size ≤ w5.heap.size := Nat.le_trans hba.size hg5.size
  have hlo := hG.own_lt hvf
  refine ⟨⟨_, hGa.push hvf hlf ho5 hg5 hb5⟩, fun B0 W0 h h1 h2 h3 => ?_, fun W h h1 => ?_, fun g t cs h h1 h2 => ?_, by simpa using hz⟩
  · exact ((h.trans (hba.mono h3)).grown hg5 (by omega) (fun q hq => by have := (hlo q hq).1; omega)).setCell h2 _
  · have h2 := grownBy_trans h (grownBy_below hba)
    refine ⟨hst.os.trans (hg5.os.trans h2.os), hst.tape.trans (hg5.tape.trans h2.tape), hst.output.trans (hg5.output.trans h2.output), Nat.le_trans h2.size (Nat.le_trans hg5.size hst.size), fun q hq hr => ?_⟩
    have hq2 : q < wa.heap.size := Nat.lt_of_lt_of_le hq h2.size
    have hq3 : q < w5.heap.size := Nat.lt_of_lt_of_le hq2 hg5.size
    rw [hst.block q hq3 hr, hg5.block q hq2 (fun e => by have := (hlo q e.symm).1; omega), h2.block q hq hr]
  · have hne : vf.ownBlock ≠ some g := (hG.own i vf _ hvf hlf).ne_blk h h1
    exact ((h.below hba h.lt).grown hg5 (Ne.symm hne)).far (by simpa using h2) _

/-- What the steps of 'ways[i] = append(ways[i], step{j, e})' leave in their slots. -/
def SPush (wa : World) (B2 G m i j p : Nat) (e : Ed) (vf : Value) (l : List Stp) (q : Nat) (x : Value) (w : World) : Prop := match q with
  | 0 => x = .slice (some ⟨G, 0, none⟩) m m
  | 1 => x = .int .i64 (i : Int)
  | 2 => x = .slice (some ⟨G, 0, none⟩) m m
  | 3 => x = .int .i64 (i : Int)
  | 4 => x = .pointer (some ⟨G, i, none⟩)
  | 5 => x = vf
  | 6 => x = .int .i64 (j : Int)
  | 7 => x = .agg #[.int .i64 e.id, .int .i64 e.u, .int .i64 e.v, .int .i64 e.w]
  | 8 => x = .agg #[.int .i64 (j : Int), .int .i64 e.id, .int .i64 e.u, .int .i64 e.v, .int .i64 e.w]
  | 9 => x = .slice (some ⟨p, 0, none⟩) 1 1
  | 10 => (∃ A n c, x = .slice A n c) ∧ OK encP 5 160 w B2 x (l ++ [(j, e)]) ∧ (x.ownBlock = vf.ownBlock ∨ x.ownBlock = some wa.heap.size)
  | 11 => x = .pointer (some ⟨G, i, none⟩)
  | _ => True
/-- What holds of the world while they run. -/
structure IPush (W wa : World) (B2 G : Nat) (vs : List Value) (ls : List (List Stp)) (i : Nat) (y : Stp) (vf : Value) (L : Array Bool) (w : World) : Prop where
  all : L.getD 12 false = true → ∀ q, q < 12 → L.getD q false = true
  fin : L.getD 12 false = true → Pushed W w B2 G vs ls i y
  app : L.getD 12 false = false → L.getD 10 false = true → wa.grownBy w vf.ownBlock
  new : L.getD 10 false = false → L.getD 12 false = false → L.getD 9 false = true → w = wa
  ord : L.getD 10 false = true → L.getD 9 false = true
  old : L.getD 10 false = false → L.getD 12 false = false → L.getD 9 false = false → w = W.drew
section
variable {W wa w : World} {B2 G : Nat} {vs : List Value} {ls : List (List Stp)} {i : Nat} {y : Stp} {vf : Value} {L : Array Bool}
theorem IPush.keep (h : IPush W wa B2 G vs ls i y vf L w) {q : Nat} (h9 : q ≠ 9) (h10 : q ≠ 10) (h12 : q ≠ 12) (hq : L.getD q false = false) (hlt : q < 12) : IPush W wa B2 G vs ls i y vf (L.setIfInBounds q true) w := by
  refine ⟨fun hL => ?_, fun hL => ?_, ?_, ?_, ?_, ?_⟩
  · rw [getD_set_ne false h12] at hL
    have := h.all hL q hlt
    rw [hq] at this; cases this
  · rw [getD_set_ne false h12] at hL; exact h.fin hL
  · rw [getD_set_ne false h12, getD_set_ne false h10]; exact h.app
  · rw [getD_set_ne false h12, getD_set_ne false h10, getD_set_ne false h9]; exact h.new
  · rw [getD_set_ne false h10, getD_set_ne false h9]; exact h.ord
  · rw [getD_set_ne false h12, getD_set_ne false h10, getD_set_ne false h9]; exact h.old
theorem IPush.not12 (h : IPush W wa B2 G vs ls i y vf L w) {q : Nat} (hq : L.getD q false = false) (hlt : q < 12) : L.getD 12 false = false := by
  cases hL : L.getD 12 false with
  | false => rfl
  | true => have := h.all hL q hlt; rw [hq] at this; cases this
/-- A block of another kind is as it was till the store. -/
theorem IPush.blk (h : IPush W wa B2 G vs ls i y vf L w) (hL : L.getD 12 false = false) {l : List Stp} {x : Value} (hown : OK encP 5 160 W B2 vf l) (hba : Below W.heap.size W wa) {g t : Nat} {cs : Array Value} (hb : Blk W g t cs) (ht : 160 ≠ t) : Blk w g t cs := by
  have hna := hb.below hba hb.lt
  cases h10 : L.getD 10 false with
  | true => exact hna.grown (h.app hL h10) (Ne.symm (hown.ne_blk hb ht))
  | false =>
    cases h9 : L.getD 9 false with
    | true => rw [h.new h10 hL h9]; exact hna
    | false => rw [h.old h10 hL h9]; exact hb.drew
end

theorem ro_app1 {α : Type} {enc : α → List Value} {k bytes t E : Nat} {w : World} {base : Nat} {v : Value} {xs : List α} {y : α} {a : Act} {ty : TypeId} {pos : String} {d : Option Tmp} {af : Array Edge} {gd : Option (Nat × Bool)} {s x : Tmp} (et : ElemT t E k bytes) (hk : ∀ x, (enc x).length = k) (h1 : ∀ x, ∀ u ∈ enc x, u.oneCell' = true)
    (hs : a.tmps.getD s undef = v) (hown : OK enc k E w base v xs) (h : Nat) (hx : a.tmps.getD x undef = .slice (some ⟨h, 0, none⟩) 1 1)
    (hc : ∀ (j : Nat) u, (enc y)[j]? = some u → w.cell? ⟨h, j, none⟩ = some u) (hlen : xs.length + 1 ≤ 1000000) (hbase : base ≤ w.heap.size) :
    ∃ v' w', (execOp a.eval { dst := d, op := .call { callee := .builtin .append, args := #[.tmp s, .tmp x], argTypes := #[t, t] }, type := ty, pos := pos, after := af, guard := gd }).run Tryz.prog w = .ok (.value v') w' ∧
      OK enc k E w' base v' (xs ++ [y]) ∧ w.grownBy w' v.ownBlock ∧ (v'.ownBlock = v.ownBlock ∨ v'.ownBlock = some w.heap.size) := by
  obtain ⟨v', w', hrun, h2, h3, h4⟩ := run_app1 et hk h1 ty hown h hc hlen hbase
  refine ⟨v', w', ?_, h2, h3, h4⟩
  unfold execOp
  have e1 : a.eval (.tmp s) = v := hs
  have e2 : a.eval (.tmp x) = .slice (some ⟨h, 0, none⟩) 1 1 := hx
  simp only [resolve, invoke, builtin, Sem.run_bind, Sem.run_pure, Result.andThen_ok, List.map_toArray, List.map_cons, List.map_nil, e1, e2, hrun]

section
variable {a : Act} {ty : TypeId} {pos : String} {d : Option Tmp} {af : Array Edge} {g : Option (Nat × Bool)}
theorem ro_idx157 {x y : Tmp} {G m i : Nat} (w : World) (hx : a.tmps.getD x undef = .slice (some ⟨G, 0, none⟩) m m) (hy : a.tmps.getD y undef = .int .i64 (i : Int)) (hi : i < m) :
    (execOp a.eval { dst := d, op := .indexAddr 157 (.tmp x) (.tmp y), type := ty, pos := pos, after := af, guard := g }).run Tryz.prog w = .ok (.value (.pointer (some ⟨G, i, none⟩))) w := by
  simp only [execOp, Act.eval, hx, hy]
  have : (i : Int) < m := by omega
  go_simp
theorem ro_load153 {x : Tmp} {p k : Nat} {v : Value} (w : World) (hx : a.tmps.getD x undef = .pointer (some ⟨p, k, none⟩)) (h0 : w.cell? ⟨p, k, none⟩ = some v) :
    (execOp a.eval { dst := d, op := .load 153 (.tmp x), type := ty, pos := pos, after := af, guard := g }).run Tryz.prog w = .ok (.value v) w := by
  simp only [execOp, Act.eval, hx]
  go_simp
theorem ro_loadE {x : Tmp} {p : Nat} {v0 v1 v2 v3 : Int} (w : World) (hx : a.tmps.getD x undef = .pointer (some ⟨p, 0, none⟩)) (h0 : w.cell? ⟨p, 0, none⟩ = some (.int .i64 v0)) (h1 : w.cell? ⟨p, 1, none⟩ = some (.int .i64 v1)) (h2 : w.cell? ⟨p, 2, none⟩ = some (.int .i64 v2)) (h3 : w.cell? ⟨p, 3, none⟩ = some (.int .i64 v3)) :
    (execOp a.eval { dst := d, op := .load 47 (.tmp x), type := ty, pos := pos, after := af, guard := g }).run Tryz.prog w = .ok (.value (.agg #[.int .i64 v0, .int .i64 v1, .int .i64 v2, .int .i64 v3])) w := by
  simp only [execOp, Act.eval, hx]
  go_simp
theorem ro_build160 {x y : Tmp} {j : Nat} {v0 v1 v2 v3 : Int} (w : World) (hx : a.tmps.getD x undef = .int .i64 (j : Int)) (hy : a.tmps.getD y undef = .agg #[.int .i64 v0, .int .i64 v1, .int .i64 v2, .int .i64 v3]) :
    (execOp a.eval { dst := d, op := .build 160 #[(0, .tmp x), (1, .tmp y)], type := ty, pos := pos, after := af, guard := g }).run Tryz.prog w = .ok (.value (.agg #[.int .i64 (j : Int), .int .i64 v0, .int .i64 v1, .int .i64 v2, .int .i64 v3])) w := by
  simp only [execOp, Act.eval, hx, hy, List.map_toArray, List.map]
  go_simp
theorem ro_slice160 {x : Tmp} {v0 v1 v2 v3 v4 : Int} (w : World) (hx : a.tmps.getD x undef = .agg #[.int .i64 v0, .int .i64 v1, .int .i64 v2, .int .i64 v3, .int .i64 v4]) :
    (execOp a.eval { dst := d, op := .buildSlice 153 1 #[(0, .tmp x)], type := ty, pos := pos, after := af, guard := g }).run Tryz.prog w = .ok (.value (.slice (some ⟨w.heap.size, 0, none⟩) 1 1)) (w.alloc (.cells #[.int .i64 v0, .int .i64 v1, .int .i64 v2, .int .i64 v3, .int .i64 v4] 160)) := by
  simp only [execOp, Act.eval, hx, List.map_toArray, List.map]
  go_simp
theorem ro_store153 {x y : Tmp} {p k m c : Nat} {A : Option Addr} {u : Value} (w : World) (hx : a.tmps.getD x undef = .pointer (some ⟨p, k, none⟩)) (hy : a.tmps.getD y undef = .slice A m c) (h0 : w.cell? ⟨p, k, none⟩ = some u) (h1 : w.frozen? ⟨p, k, none⟩ = false) :
    (execOp a.eval { dst := d, op := .store 153 (.tmp x) (.tmp y), type := ty, pos := pos, after := af, guard := g }).run Tryz.prog w = .ok .skip (w.setCell ⟨p, k, none⟩ (.slice A m c)) := by
  simp only [execOp, Act.eval, hx, hy]
  go_simp
end
end Go.Proofs.YtghacfhpafbdmaaGreat
