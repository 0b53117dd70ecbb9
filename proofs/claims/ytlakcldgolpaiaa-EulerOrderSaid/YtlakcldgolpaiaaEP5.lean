/-
  A rope's nodes in memory: a row of eleven cells a node (euler's element). No walk.
-/
import Derived.Test.YtlakcldgolpaiaaRP4
import Derived.Test.YtlakcldgolpaiaaD1
namespace Go.Proofs.Ytlakcldgolpaiaa
open Go.RowKit
set_option linter.unusedVariables false

/-- One element of a row of one's own is written over, one cell of it. -/
theorem flat_setK {α : Type} {enc : α → List Value} {k : Nat} (hk : ∀ x, (enc x).length = k) : ∀ {xs : List α} {i j : Nat} {x x' : α} {u : Value}, xs[i]? = some x → j < k → enc x' = (enc x).set j u → (xs.flatMap enc).set (i * k + j) u = (xs.set i x').flatMap enc
  | [], i, j, x, x', u, hi, _, _ => by simp at hi
  | a :: r, 0, j, x, x', u, hi, hj, he => by
    simp at hi; subst hi
    rw [List.flatMap_cons, List.set_cons_zero, List.flatMap_cons, Nat.zero_mul, Nat.zero_add, List.set_append_left _ _ (by rw [hk]; exact hj), he]
  | a :: r, i + 1, j, x, x', u, hi, hj, he => by
    have hi' : r[i]? = some x := by simpa using hi
    rw [List.flatMap_cons, List.set_cons_succ, List.flatMap_cons, List.set_append_right _ _ (by rw [hk, Nat.add_mul]; omega), hk, show (i + 1) * k + j - k = i * k + j by rw [Nat.add_mul]; omega, flat_setK hk hi' hj he]

theorem OK.setK {α : Type} {enc : α → List Value} {k E : Nat} {w : World} {B b n c i j : Nat} {xs : List α} {x x' : α} {u : Value} (hk : ∀ x, (enc x).length = k) (h : OK enc k E w B (.slice (some ⟨b, 0, none⟩) n c) xs) (hi : xs[i]? = some x) (hj : j < k) (he : enc x' = (enc x).set j u) :
    OK enc k E (w.setCell ⟨b, i * k + j, none⟩ u) B (.slice (some ⟨b, 0, none⟩) n c) (xs.set i x') := by
  obtain ⟨h1, h2, h3⟩ := h
  rcases h3 with ⟨e, hn⟩ | ⟨g, cap, cur, e, hgB, hg, hnc, hcm, hsz, htk⟩
  · cases e
  · injection e with e1 e2 e3
    injection e1 with e1
    injection e1 with e1 e4
    subst e1 e2 e3
    have hblk : Blk w b E cur := hg
    have hlt := (List.getElem?_eq_some_iff.1 hi).1
    refine ⟨by rw [List.length_set]; exact h1, by rw [flat_len hk, List.length_set], .inr ⟨b, c, cur.setIfInBounds (i * k + j) u, by rw [List.length_set], hgB, hblk.set_ _ _, by rw [List.length_set]; exact hnc, hcm, by simpa using hsz, ?_⟩⟩
    rw [List.length_set, Array.toList_setIfInBounds, List.take_set, htk]
    exact flat_setK hk hi hj he

theorem OK.cellK {α : Type} {enc : α → List Value} {k E : Nat} {w : World} {B b n c i j : Nat} {xs : List α} {x : α} {u : Value} (hk : ∀ x, (enc x).length = k) (h : OK enc k E w B (.slice (some ⟨b, 0, none⟩) n c) xs) (hi : xs[i]? = some x) (hu : (enc x)[j]? = some u) : w.cell? ⟨b, i * k + j, none⟩ = some u := by
  obtain ⟨_, A, c', e, _, _, h5⟩ := h.rk hk (Nat.le_refl _)
  injection e with e1 e2 e3
  rcases h5 with h5 | ⟨b', off, e4, _, hc⟩
  · rw [h5] at hi; simp at hi
  · have hz : off = 0 := by
      rcases h.2.2 with ⟨e, _⟩ | ⟨g, cap, cur, e, _⟩
      · cases e
      · rw [e4] at e1; injection e1 with e1; injection e1
        omega
    rw [e4] at e1
    injection e1 with e1
    injection e1 with e1
    subst e1
    have := hc i x hi j u hu
    rw [hz, Nat.zero_add] at this
    exact this

theorem OK.frozenK {α : Type} {enc : α → List Value} {k E : Nat} {w : World} {B b o n c : Nat} {xs : List α} (h : OK enc k E w B (.slice (some ⟨b, o, none⟩) n c) xs) (i : Nat) : w.frozen? ⟨b, i, none⟩ = false := by
  rcases h.2.2 with ⟨e, _⟩ | ⟨g, cap, cur, e, _, hg, _⟩
  · cases e
  · injection e with e1
    injection e1 with e1
    injection e1 with e1 e2
    subst e1
    exact Blk.frozen (t := E) (cs := cur) hg i

theorem OK.blkNe {α : Type} {enc : α → List Value} {k E : Nat} {w : World} {B b o n c g t : Nat} {cs : Array Value} {xs : List α} (h : OK enc k E w B (.slice (some ⟨b, o, none⟩) n c) xs) (hb : Blk w g t cs) (hne : t ≠ E) : g ≠ b := by
  rcases h.2.2 with ⟨e, _⟩ | ⟨g', cap, cur, e, _, hg, _⟩
  · cases e
  · injection e with e1
    injection e1 with e1
    injection e1 with e1 e2
    subst e1
    exact hb.ne_ (t' := E) (cs' := cur) hg hne

/-! ### Sums -/

structure SV where
  n : Int
  m : Int
  e : Int

theorem wrap_assoc (a b c : Int) : IntKind.i64.wrap (IntKind.i64.wrap (a + b) + c) = IntKind.i64.wrap (a + IntKind.i64.wrap (b + c)) := by
  simp only [IntKind.wrap_i64]
  omega

def SV.plus (x y : SV) : SV := ⟨IntKind.i64.wrap (x.n + y.n), IntKind.i64.wrap (x.m + y.m), IntKind.i64.wrap (x.e + y.e)⟩

instance : Bear SV := ⟨SV.plus, fun x y z => by unfold SV.plus; simp only [wrap_assoc], ⟨0, 0, 0⟩⟩

def encNd (x : Nd SV) : List Value := [.int .i64 x.own.n, .int .i64 x.own.m, .int .i64 x.own.e, .int .i64 x.sum.n, .int .i64 x.sum.m, .int .i64 x.sum.e, .int .i64 (x.size : Int), .int .u64 (x.rank : Int), .int .i64 (x.up : Int), .int .i64 (x.left : Int), .int .i64 (x.right : Int)]

theorem encNd_len (x : Nd SV) : (encNd x).length = 11 := rfl

theorem encNd_one (x : Nd SV) : ∀ u ∈ encNd x, u.oneCell' = true := by
  intro u hu
  simp only [encNd, List.mem_cons, List.not_mem_nil, or_false] at hu
  rcases hu with rfl | rfl | rfl | rfl | rfl | rfl | rfl | rfl | rfl | rfl | rfl <;> rfl

def rowN {V : Type} (N : Nodes V) (n : Nat) : List (Nd V) := (List.range n).map N

theorem rowN_len {V : Type} (N : Nodes V) (n : Nat) : (rowN N n).length = n := by simp [rowN]

theorem rowN_get {V : Type} (N : Nodes V) {n i : Nat} (hi : i < n) : (rowN N n)[i]? = some (N i) := by simp [rowN, hi]

theorem rowN_set {V : Type} (N : Nodes V) {n i : Nat} (x : Nd V) (hi : i < n) : (rowN N n).set i x = rowN (upd N i x) n := by
  apply List.ext_getElem?
  intro j
  by_cases hj : j < n
  · rw [rowN_get (upd N i x) hj]
    by_cases e : i = j
    · subst e
      rw [List.getElem?_set_self (by rw [rowN_len]; exact hj), upd_self]
    · rw [List.getElem?_set_ne e, rowN_get N hj, upd_ne N x (Ne.symm e)]
  · rw [List.getElem?_eq_none (by rw [List.length_set, rowN_len]; omega), List.getElem?_eq_none (by rw [rowN_len]; omega)]

theorem rowN_push {V : Type} (N : Nodes V) (n : Nat) (x : Nd V) : rowN N n ++ [x] = rowN (upd N n x) (n + 1) := by
  unfold rowN
  rw [List.range_succ, List.map_append, List.map_singleton, upd_self]
  congr 1
  refine List.map_congr_left fun i hi => ?_
  have := List.mem_range.1 hi
  rw [upd_ne N x (by omega)]

end Go.Proofs.Ytlakcldgolpaiaa
