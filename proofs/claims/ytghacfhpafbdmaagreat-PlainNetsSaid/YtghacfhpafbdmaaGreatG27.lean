/-
  How the state of going through a tree lies in memory. No walk.
-/
import Derived.Test.YtghacfhpafbdmaaGreatG26
namespace Go.Proofs.YtghacfhpafbdmaaGreat
open Go.RowKit Go.Sort
set_option linter.unusedVariables false

theorem OK.row {α : Type} {enc : α → List Value} {k E : Nat} {w : World} {B : Nat} {v : Value} {xs : List α} (hk : ∀ x, (enc x).length = k) (h : OK enc k E w B v xs) (h0 : xs ≠ []) :
    ∃ g cap, v = .slice (some ⟨g, 0, none⟩) xs.length cap ∧ B ≤ g ∧ g < w.heap.size ∧ xs.length ≤ cap ∧ cap ≤ 9223372036854775807 ∧ ∀ (i : Nat) x, xs[i]? = some x → ∀ (j : Nat) u, (enc x)[j]? = some u → w.cell? ⟨g, i * k + j, none⟩ = some u := by
  have h3 := h.2
  rcases h.2.2 with ⟨_, hn⟩ | ⟨g, cap, cur, rfl, hb, hg, hn, hc, hs, ht⟩
  · exact absurd (List.eq_nil_of_length_eq_zero hn) h0
  · refine ⟨g, cap, rfl, hb, (Array.getElem?_eq_some_iff.1 hg).1, hn, by simpa [maxLen] using hc, fun i x hx j u hu => ?_⟩
    have h5 := flat_get hk xs i x hx j u hu
    have h6 := (List.getElem?_eq_some_iff.1 h5).1
    rw [flat_len hk] at h6
    rw [h3.cellAt _ h6, h5]

def natI (i : Nat) : Int := (i : Int)
def boolV (b : Bool) : Value := .bool b
def intV (i : Int) : Value := .int .i64 i
/-- The state b, behind the pointer to block gw. -/
structure WkAt (w : World) (B gw gl gf gk n : Nat) (ov : Value) (b : Bs) : Prop where
  head : Blk w gw 156 #[ov, .slice (some ⟨gl, 0, none⟩) n n, .slice (some ⟨gf, 0, none⟩) n n, .slice (some ⟨gk, 0, none⟩) n n]
  order : OK encI 1 3 w B ov (b.order.map natI)
  last : Blk w gl 160 (b.last.flatMap encP).toArray
  far : Blk w gf 2 (b.far.map intV).toArray
  known : Blk w gk 4 (b.known.map boolV).toArray
  llen : b.last.length = n
  flen : b.far.length = n
  klen : b.known.length = n
  bw : B ≤ gw
  bl : B ≤ gl
  bf : B ≤ gf
  bk : B ≤ gk
section
variable {w w' : World} {B gw gl gf gk n : Nat} {ov : Value} {b : Bs}
theorem WkAt.below (h : WkAt w B gw gl gf gk n ov b) (hb : Below w.heap.size w w') : WkAt w' B gw gl gf gk n ov b :=
  ⟨h.head.below hb h.head.lt, h.order.below hb, h.last.below hb h.last.lt, h.far.below hb h.far.lt, h.known.below hb h.known.lt, h.llen, h.flen, h.klen, h.bw, h.bl, h.bf, h.bk⟩
theorem WkAt.ne_wl (h : WkAt w B gw gl gf gk n ov b) : gw ≠ gl := h.head.ne_ h.last (by decide)
theorem WkAt.ne_wf (h : WkAt w B gw gl gf gk n ov b) : gw ≠ gf := h.head.ne_ h.far (by decide)
theorem WkAt.ne_wk (h : WkAt w B gw gl gf gk n ov b) : gw ≠ gk := h.head.ne_ h.known (by decide)
theorem WkAt.ne_lf (h : WkAt w B gw gl gf gk n ov b) : gl ≠ gf := h.last.ne_ h.far (by decide)
theorem WkAt.ne_lk (h : WkAt w B gw gl gf gk n ov b) : gl ≠ gk := h.last.ne_ h.known (by decide)
theorem WkAt.ne_fk (h : WkAt w B gw gl gf gk n ov b) : gf ≠ gk := h.far.ne_ h.known (by decide)
theorem WkAt.ne_ow (h : WkAt w B gw gl gf gk n ov b) : ov.ownBlock ≠ some gw := h.order.ne_blk h.head (by decide)
theorem WkAt.ne_ol (h : WkAt w B gw gl gf gk n ov b) : ov.ownBlock ≠ some gl := h.order.ne_blk h.last (by decide)
theorem WkAt.ne_of (h : WkAt w B gw gl gf gk n ov b) : ov.ownBlock ≠ some gf := h.order.ne_blk h.far (by decide)
theorem WkAt.ne_ok (h : WkAt w B gw gl gf gk n ov b) : ov.ownBlock ≠ some gk := h.order.ne_blk h.known (by decide)
end
/-- A store elsewhere. -/
theorem grownBy_set {w : World} (g i : Nat) (u : Value) : w.grownBy (w.setCell ⟨g, i, none⟩ u) (some g) := ⟨rfl, rfl, rfl, by simp, fun q _ hq => heap_setCell_other _ ⟨g, i, none⟩ q _ (fun e => hq (by simp [e]))⟩

section
variable {w : World} {B gw gl gf gk n : Nat} {ov : Value} {b : Bs}
theorem WkAt.setKnown (h : WkAt w B gw gl gf gk n ov b) (i : Nat) : WkAt (w.setCell ⟨gk, i, none⟩ (.bool true)) B gw gl gf gk n ov ⟨b.order, b.last, b.far, b.known.set i true⟩ := by
  refine ⟨h.head.far h.ne_wk _, h.order.kept (grownBy_set gk i _) (.inr h.ne_ok), h.last.far h.ne_lk _, h.far.far h.ne_fk _, ?_, h.llen, h.flen, by simpa using h.klen, h.bw, h.bl, h.bf, h.bk⟩
  have := h.known.set_ i (.bool true)
  rw [List.setIfInBounds_toArray] at this
  rw [List.map_set]; exact this
theorem WkAt.setFar (h : WkAt w B gw gl gf gk n ov b) (i : Nat) (x : Int) : WkAt (w.setCell ⟨gf, i, none⟩ (.int .i64 x)) B gw gl gf gk n ov ⟨b.order, b.last, b.far.set i x, b.known⟩ := by
  refine ⟨h.head.far h.ne_wf _, h.order.kept (grownBy_set gf i _) (.inr h.ne_of), h.last.far h.ne_lf _, ?_, h.known.far (Ne.symm h.ne_fk) _, h.llen, by simpa using h.flen, h.klen, h.bw, h.bl, h.bf, h.bk⟩
  have := h.far.set_ i (.int .i64 x)
  rw [List.setIfInBounds_toArray] at this
  rw [List.map_set]; exact this

theorem flat_set : ∀ (xs : List Stp) (i : Nat) (s : Stp), i < xs.length →
    (xs.set i s).flatMap encP = (((((xs.flatMap encP).set (i * 5) (.int .i64 (s.1 : Int))).set (i * 5 + 1) (.int .i64 s.2.id)).set (i * 5 + 2) (.int .i64 s.2.u)).set (i * 5 + 3) (.int .i64 s.2.v)).set (i * 5 + 4) (.int .i64 s.2.w)
  | [], i, s, h => by simp at h
  | x :: r, 0, s, _ => by
    rw [List.set_cons_zero, List.flatMap_cons, List.flatMap_cons]
    rfl
  | x :: r, i + 1, s, h => by
    have ih := flat_set r i s (by simpa using h)
    rw [List.set_cons_succ, List.flatMap_cons, List.flatMap_cons, ih]
    have h5 : (encP x).length = 5 := rfl
    have key : ∀ (l : List Value) (j : Nat) (u : Value), (encP x ++ l).set (j + 5) u = encP x ++ l.set j u := by
      intro l j u
      rw [List.set_append, if_neg (by rw [h5]; omega), h5]
      congr 2
    rw [show (i + 1) * 5 = i * 5 + 5 by omega, show i * 5 + 5 + 1 = i * 5 + 1 + 5 by omega, show i * 5 + 5 + 2 = i * 5 + 2 + 5 by omega, show i * 5 + 5 + 3 = i * 5 + 3 + 5 by omega, show i * 5 + 5 + 4 = i * 5 + 4 + 5 by omega]
    rw [key, key, key, key, key]
theorem WkAt.setLast (h : WkAt w B gw gl gf gk n ov b) (i : Nat) (s : Stp) (hi : i < n) :
    WkAt (((((w.setCell ⟨gl, i * 5, none⟩ (.int .i64 (s.1 : Int))).setCell ⟨gl, i * 5 + 1, none⟩ (.int .i64 s.2.id)).setCell ⟨gl, i * 5 + 2, none⟩ (.int .i64 s.2.u)).setCell ⟨gl, i * 5 + 3, none⟩ (.int .i64 s.2.v)).setCell ⟨gl, i * 5 + 4, none⟩ (.int .i64 s.2.w)) B gw gl gf gk n ov ⟨b.order, b.last.set i s, b.far, b.known⟩ := by
  refine ⟨((((h.head.far h.ne_wl _).far h.ne_wl _).far h.ne_wl _).far h.ne_wl _).far h.ne_wl _, ?_, ?_, ((((h.far.far (Ne.symm h.ne_lf) _).far (Ne.symm h.ne_lf) _).far (Ne.symm h.ne_lf) _).far (Ne.symm h.ne_lf) _).far (Ne.symm h.ne_lf) _, ((((h.known.far (Ne.symm h.ne_lk) _).far (Ne.symm h.ne_lk) _).far (Ne.symm h.ne_lk) _).far (Ne.symm h.ne_lk) _).far (Ne.symm h.ne_lk) _, by simpa using h.llen, h.flen, h.klen, h.bw, h.bl, h.bf, h.bk⟩
  · exact ((((h.order.kept (grownBy_set gl _ _) (.inr h.ne_ol)).kept (grownBy_set gl _ _) (.inr h.ne_ol)).kept (grownBy_set gl _ _) (.inr h.ne_ol)).kept (grownBy_set gl _ _) (.inr h.ne_ol)).kept (grownBy_set gl _ _) (.inr h.ne_ol)
  · have := ((((h.last.set_ (i * 5) (.int .i64 (s.1 : Int))).set_ (i * 5 + 1) (.int .i64 s.2.id)).set_ (i * 5 + 2) (.int .i64 s.2.u)).set_ (i * 5 + 3) (.int .i64 s.2.v)).set_ (i * 5 + 4) (.int .i64 s.2.w)
    rw [List.setIfInBounds_toArray, List.setIfInBounds_toArray, List.setIfInBounds_toArray, List.setIfInBounds_toArray, List.setIfInBounds_toArray] at this
    rw [flat_set _ _ _ (by rw [h.llen]; exact hi)]
    exact this
/-- The order has one place more, and its slice is stored back. -/
theorem WkAt.push {wa w5 : World} {ov' : Value} {x : Nat} (h : WkAt w B gw gl gf gk n ov b) (hba : Below w.heap.size w wa) (ho : OK encI 1 3 w5 B ov' (b.order.map natI ++ [natI x])) (hg : wa.grownBy w5 ov.ownBlock) :
    WkAt (w5.setCell ⟨gw, 0, none⟩ ov') B gw gl gf gk n ov' ⟨b.order ++ [x], b.last, b.far, b.known⟩ := by
  have ha := h.below hba
  have hh := ha.head.grown hg (Ne.symm ha.ne_ow)
  refine ⟨?_, ?_, (ha.last.grown hg (Ne.symm ha.ne_ol)).far (Ne.symm ha.ne_wl) _, (ha.far.grown hg (Ne.symm ha.ne_of)).far (Ne.symm ha.ne_wf) _, (ha.known.grown hg (Ne.symm ha.ne_ok)).far (Ne.symm ha.ne_wk) _, h.llen, h.flen, h.klen, h.bw, h.bl, h.bf, h.bk⟩
  · have := hh.set_ 0 ov'
    exact this
  · rw [List.map_append]
    exact ho.kept (grownBy_set gw 0 _) (.inr (ho.ne_blk hh (by decide)))
end
end Go.Proofs.YtghacfhpafbdmaaGreat
