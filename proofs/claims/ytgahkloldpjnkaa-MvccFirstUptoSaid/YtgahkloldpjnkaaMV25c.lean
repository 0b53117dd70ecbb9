/-
  MvccFirst: the drawn region that grows a row of what was touched and puts it back, by its slots.
-/
import Derived.Test.YtgahkloldpjnkaaMV25b
import Derived.WalkLawsBesides
namespace Go.Proofs.Ytgahkloldpjnkaa
open Go.RowKit Go.Maps
set_option linter.unusedVariables false

section
variable {a : Act} {ty : TypeId} {pos : String} {d : Option Tmp} {af : Array Edge} {g : Option (Nat × Bool)}

theorem ro_move {x : Tmp} {v : Value} (w : World) (hx : a.tmps.getD x undef = v) :
    (execOp a.eval { dst := d, op := .move (.tmp x), type := ty, pos := pos, after := af, guard := g }).run Try.prog w = .ok (.value v) w := by
  simp only [execOp, Act.eval, hx]; rfl

theorem ro_opN {x : Tmp} {p : Nat} (w : World) (hx : a.tmps.getD x undef = .pointer (some ⟨p, 0, none⟩)) :
    (execOp a.eval { dst := d, op := .fieldAddr 32 (.tmp x) 1, type := ty, pos := pos, after := af, guard := g }).run Try.prog w = .ok (.value (.pointer (some ⟨p, 1, none⟩))) w := by
  simp only [execOp, Act.eval, hx]
  go_simp

theorem ro_opR {x : Tmp} {p : Nat} (w : World) (hx : a.tmps.getD x undef = .pointer (some ⟨p, 0, none⟩)) :
    (execOp a.eval { dst := d, op := .fieldAddr 32 (.tmp x) 2, type := ty, pos := pos, after := af, guard := g }).run Try.prog w = .ok (.value (.pointer (some ⟨p, 2, none⟩))) w := by
  simp only [execOp, Act.eval, hx]
  go_simp

theorem ro_load3 {x : Tmp} {p k : Nat} {v : Value} (w : World) (hx : a.tmps.getD x undef = .pointer (some ⟨p, k, none⟩)) (h0 : w.cell? ⟨p, k, none⟩ = some v) :
    (execOp a.eval { dst := d, op := .load 3 (.tmp x), type := ty, pos := pos, after := af, guard := g }).run Try.prog w = .ok (.value v) w := by
  simp only [execOp, Act.eval, hx]
  go_simp

theorem ro_loadR {x : Tmp} {p k : Nat} {v : Value} (w : World) (hx : a.tmps.getD x undef = .pointer (some ⟨p, k, none⟩)) (h0 : w.cell? ⟨p, k, none⟩ = some v) :
    (execOp a.eval { dst := d, op := .load 30 (.tmp x), type := ty, pos := pos, after := af, guard := g }).run Try.prog w = .ok (.value v) w := by
  simp only [execOp, Act.eval, hx]
  go_simp

theorem ro_sub1 {x : Tmp} {j : Nat} (w : World) (hj : j ≤ 300000) (hx : a.tmps.getD x undef = .int .i64 ((j : Int) + 1)) :
    (execOp a.eval { dst := d, op := .binOp .sub 3 (.tmp x) (.const (.int .i64 1)) 3, type := ty, pos := pos, after := af, guard := g }).run Try.prog w = .ok (.value (.int .i64 (j : Int))) w := by
  have hw : IntKind.i64.wrap (j : Int) = (j : Int) := by rw [IntKind.wrap_i64]; omega
  simp only [execOp, Act.eval, hx]
  go_simp

theorem ro_idxS {x y : Tmp} {b n c j : Nat} (w : World) (hj : j < n) (hj2 : (j : Int) < (n : Int)) (hx : a.tmps.getD x undef = .slice (some ⟨b, 0, none⟩) n c) (hy : a.tmps.getD y undef = .int .i64 (j : Int)) :
    (execOp a.eval { dst := d, op := .indexAddr 42 (.tmp x) (.tmp y), type := ty, pos := pos, after := af, guard := g }).run Try.prog w = .ok (.value (.pointer (some ⟨b, j, none⟩))) w := by
  simp only [execOp, Act.eval, hx, hy]
  go_simp

theorem ro_storeR {x y : Tmp} {p k n c : Nat} {v0 : Value} {A : Option Addr} (w : World) (hx : a.tmps.getD x undef = .pointer (some ⟨p, k, none⟩)) (hy : a.tmps.getD y undef = .slice A n c) (h0 : w.cell? ⟨p, k, none⟩ = some v0) (hf : w.frozen? ⟨p, k, none⟩ = false) :
    (execOp a.eval { dst := d, op := .store 30 (.tmp x) (.tmp y), type := ty, pos := pos, after := af, guard := g }).run Try.prog w = .ok .skip (w.setCell ⟨p, k, none⟩ (.slice A n c)) := by
  simp only [execOp, Act.eval, hx, hy]
  go_simp

theorem ro_appR {x y : Tmp} {w : World} {base B : Nat} {v u : Value} {xs ys : List Rf} (et : ElemT 30 62 2 16) (hx : a.tmps.getD x undef = v) (hy : a.tmps.getD y undef = u) (hown : OK encR 2 62 w base v xs) (hr : RK encR 2 w B u ys) (hlen : xs.length + ys.length ≤ 10000000) (hbase : base ≤ w.heap.size) :
    ∃ v' w', (execOp a.eval { dst := d, op := .call { callee := .builtin .append, args := #[.tmp x, .tmp y], argTypes := #[30, 30] }, type := ty, pos := pos, after := af, guard := g }).run Try.prog w = .ok (.value v') w' ∧ OK encR 2 62 w' base v' (xs ++ ys) ∧ w.grownBy w' v.ownBlock ∧ (v'.ownBlock = v.ownBlock ∨ v'.ownBlock = some w.heap.size) := by
  obtain ⟨v', w', hrun, h2, h3, h4⟩ := run_appN et encR_len encR_one ty hown hr hlen hbase
  refine ⟨v', w', ?_, h2, h3, h4⟩
  simp only [execOp, resolve, invoke, builtin, Sem.run_bind, Sem.run_pure, Result.andThen_ok, List.map_toArray, List.map_cons, List.map_nil, Act.eval, hx, hy, hrun]

end

/-- What holds of the world while the region runs: the append is operation 12, the store 14. -/
structure IW (W0 : World) (own : Option Nat) (Done : World → Prop) (L : Array Bool) (w : World) : Prop where
  a : L.getD 12 false = false → w = W0
  b : L.getD 14 false = false → W0.grownBy w own
  c : L.getD 14 false = true → Done w ∧ ∀ q, q < 14 → L.getD q false = true

section
variable {W0 w w' : World} {own : Option Nat} {Done : World → Prop} {L : Array Bool}

theorem IW.notst (h : IW W0 own Done L w) {i : Nat} (hi : i < 14) (h0 : L.getD i false = false) : L.getD 14 false = false := by
  cases hL : L.getD 14 false with
  | false => rfl
  | true => have := (h.c hL).2 i hi; rw [h0] at this; cases this

theorem IW.keep (h : IW W0 own Done L w) {i : Nat} (hi : i < 14) (hi2 : i ≠ 12) (h0 : L.getD i false = false) : IW W0 own Done (L.setIfInBounds i true) w := by
  have hn := h.notst hi h0
  have e14 : (L.setIfInBounds i true).getD 14 false = L.getD 14 false := getD_set_ne false (by omega)
  have e12 : (L.setIfInBounds i true).getD 12 false = L.getD 12 false := getD_set_ne false hi2
  refine ⟨fun e => h.a (by rw [← e12]; exact e), fun _ => h.b hn, fun e => ?_⟩
  rw [e14, hn] at e; cases e

theorem IW.app (h : IW W0 own Done L w) (hs : L.size = 15) (h0 : L.getD 12 false = false) (hg : W0.grownBy w' own) : IW W0 own Done (L.setIfInBounds 12 true) w' := by
  have hn := h.notst (i := 12) (by omega) h0
  have e14 : (L.setIfInBounds 12 true).getD 14 false = L.getD 14 false := getD_set_ne false (by omega)
  have e12 : (L.setIfInBounds 12 true).getD 12 false = true := by simp [hs]
  refine ⟨fun e => (by rw [e12] at e; cases e), fun _ => hg, fun e => ?_⟩
  rw [e14, hn] at e; cases e

theorem IW.st (hs : L.size = 15) (hall : ∀ q, q < 14 → L.getD q false = true) (hd : Done w') : IW W0 own Done (L.setIfInBounds 14 true) w' := by
  have e14 : (L.setIfInBounds 14 true).getD 14 false = true := by simp [hs]
  refine ⟨fun e => ?_, fun e => ?_, fun _ => ⟨hd, fun q hq => ?_⟩⟩
  · rw [getD_set_ne false (show 14 ≠ 12 by omega), hall 12 (by omega)] at e; cases e
  · rw [e14] at e; cases e
  · rw [getD_set_ne false (show 14 ≠ q by omega)]; exact hall q hq

end

/-- What each operation leaves in its slot. -/
def SR (B ob bt j : Nat) (tn tc : Nat) (qv rv : Value) (rs : List Rf) (qo : Option Nat) (hz : Nat) (q : Nat) (v : Value) (w : World) : Prop := match q with
  | 0 => v = .slice (some ⟨bt, 0, none⟩) tn tc
  | 1 => v = .pointer (some ⟨ob, 1, none⟩)
  | 2 => v = .int .i64 ((j : Int) + 1)
  | 3 => v = .int .i64 (j : Int)
  | 4 => v = .slice (some ⟨bt, 0, none⟩) tn tc
  | 5 => v = .pointer (some ⟨ob, 1, none⟩)
  | 6 => v = .int .i64 ((j : Int) + 1)
  | 7 => v = .int .i64 (j : Int)
  | 8 => v = .pointer (some ⟨bt, j, none⟩)
  | 9 => v = qv
  | 10 => v = .pointer (some ⟨ob, 2, none⟩)
  | 11 => v = rv
  | 12 => OK encR 2 62 w B v rs ∧ (v.ownBlock = qo ∨ v.ownBlock = some hz)
  | 13 => v = .pointer (some ⟨bt, j, none⟩)
  | _ => True

theorem sr_same {B ob bt j tn tc : Nat} {qv rv : Value} {rs : List Rf} {qo : Option Nat} {hz : Nat} (q : Nat) (v : Value) (w w' : World) (hq : q ≠ 12 ∨ (OK encR 2 62 w B v rs → OK encR 2 62 w' B v rs)) (h : SR B ob bt j tn tc qv rv rs qo hz q v w) : SR B ob bt j tn tc qv rv rs qo hz q v w' := by
  match q, h with
  | 0, h => exact h
  | 1, h => exact h
  | 2, h => exact h
  | 3, h => exact h
  | 4, h => exact h
  | 5, h => exact h
  | 6, h => exact h
  | 7, h => exact h
  | 8, h => exact h
  | 9, h => exact h
  | 10, h => exact h
  | 11, h => exact h
  | 12, h => exact ⟨(hq.resolve_left (by omega)) h.1, h.2⟩
  | 13, h => exact h
  | q + 14, h => trivial

end Go.Proofs.Ytgahkloldpjnkaa
