/-
  What the laws on numbers share.
-/
import Derived.Test.YtaboknjokdgjeaaN9
import Derived.Deep.RegionHeld3
namespace Go.Proofs.Ytaboknjokdgjeaa
open Go.RowKit
set_option linter.unusedVariables false

/-- A slice's beginning. -/
theorem RB.begin_ {w : World} {B : Nat} {A : Option Addr} {n c : Nat} {l r : List Nat} (h : RB w B (.slice A n c) (l ++ r)) : RB w B (.slice A l.length c) l := by
  obtain ⟨h1, h2, A', c', hv, h3, h4, h5⟩ := h
  injection hv with e1 e2 e3
  subst e1
  subst e3
  rw [List.length_append] at h2 h3
  refine ⟨fun x hx => h1 x (by simp [hx]), by omega, A, c, rfl, by omega, h4, ?_⟩
  rcases h5 with h5 | ⟨b, off, rfl, hb, hc⟩
  · exact .inl (List.append_eq_nil_iff.1 h5).1
  · refine .inr ⟨b, off, rfl, hb, fun j x hj => hc j x ?_⟩
    have hjl := (List.getElem?_eq_some_iff.1 hj).1
    rw [List.getElem?_append_left hjl]
    exact hj

/-- Two rows that were made one behind the other lie apart. -/
theorem OB.asunder {w1 w2 : World} {B1 B2 : Nat} {u v : Value} {l l' : List Nat} (hu : OB w1 B1 u l) (hv : OB w2 B2 v l') (hB : w1.heap.size ≤ B2) : v.ownBlock = none ∨ v.ownBlock ≠ u.ownBlock := by
  cases hvb : v.ownBlock with
  | none => exact .inl rfl
  | some b =>
    right
    intro h
    have h1 := (hv.lt b hvb).1
    have h2 := (hu.lt b h.symm).2
    omega

theorem RBn' {W w' : World} {u : Value} {l : List Nat} (h : RB W W.heap.size u l) (hb : Below W.heap.size W w') : RB w' w'.heap.size u l := (h.below hb).more hb.size

theorem below_undrew' {B : Nat} {w w' : World} (h : Below B w.drew w') : Below B w w' := ⟨h.os, h.tape, h.output, h.size, h.block⟩

theorem wf64 {v : Int} (h : (Lit.int .i64 v).wf = true) : -9223372036854775808 ≤ v ∧ v ≤ 9223372036854775807 := by
  simp [Lit.wf, IntKind.min, IntKind.max, IntKind.signed, IntKind.bits] at h
  omega
theorem wfu64 {v : Int} (h : (Lit.int .u64 v).wf = true) : 0 ≤ v ∧ v ≤ 18446744073709551615 := by
  simp [Lit.wf, IntKind.min, IntKind.max, IntKind.signed, IntKind.bits] at h
  omega
theorem foldN_lt (v : Int) (h1 : -9223372036854775808 ≤ v) (h2 : v ≤ 9223372036854775807) : foldN v < 18446744073709551616 := by
  unfold foldN
  split <;> omega
end Go.Proofs.Ytaboknjokdgjeaa
