/-
  The walk of skeinlaw02.CrcSeals.
-/
import Derived.Test.YtbmjiheclagfiaaR1
import Derived.Test.YtbmjiheclagfiaaC4
namespace Go.Proofs.Ytbmjiheclagfiaa
open Go.RowKit
set_option linter.unusedVariables false

/-- A slice's beginning. -/
theorem RB.pre {w : World} {B : Nat} {A : Option Addr} {n c : Nat} {l r : List Nat} (h : RB w B (.slice A n c) (l ++ r)) : RB w B (.slice A l.length c) l := by
  obtain ⟨h1, h2, A', c', hv, h3, h4, h5⟩ := h
  injection hv with e1 e2 e3
  subst e1
  subst e3
  rw [List.length_append] at h2 h3
  refine ⟨fun x hx => h1 x (by simp [hx]), by omega, A, c, rfl, by omega, h4, ?_⟩
  rcases h5 with h5 | ⟨b, off, rfl, hb, hc⟩
  · exact .inl (List.append_eq_nil_iff.1 h5).1
  · refine .inr ⟨b, off, rfl, hb, fun j x hj => hc j x ?_⟩
    have hjl := (List.getElem?_eq_some_iff.1 hj).1
    rw [List.getElem?_append_left hjl]
    exact hj

/-- Two rows that were made one behind the other lie apart. -/
theorem OB.apart {w1 w2 : World} {B1 B2 : Nat} {u v : Value} {l l' : List Nat} (hu : OB w1 B1 u l) (hv : OB w2 B2 v l') (hB : w1.heap.size ≤ B2) : v.ownBlock = none ∨ v.ownBlock ≠ u.ownBlock := by
  cases hvb : v.ownBlock with
  | none => exact .inl rfl
  | some b =>
    right
    intro h
    have h1 := (hv.lt b hvb).1
    have h2 := (hu.lt b h.symm).2
    omega

theorem RBn {W w' : World} {u : Value} {l : List Nat} (h : RB W W.heap.size u l) (hb : Below W.heap.size W w') : RB w' w'.heap.size u l := (h.below hb).more hb.size

theorem below_undrew {B : Nat} {w w' : World} (h : Below B w.drew w') : Below B w w' := ⟨h.os, h.tape, h.output, h.size, h.block⟩

theorem sealLen (l : List Nat) : (sumBytes (crcSum l) ++ l).length = l.length + 4 := by simp [sumBytes]

theorem open_any (v : Value) (l : List Nat) (w : World) (hv : RB w w.heap.size v l) :
    Calls Try.prog 30 #[v] w fun e w' => ∃ v', e = .returned (.tuple #[v', .bool (openOk l)]) ∧ OB w' w.heap.size v' (openL l) ∧ Below w.heap.size w w' := by
  by_cases h4 : 4 ≤ l.length
  · exact open_long v l w hv h4
  · have hok : openOk l = false := by unfold openOk; exact decide_eq_false (fun h => h4 h.1)
    rw [openL_eq, hok]
    exact (open_short v l w hv (by omega)).mono fun e w' ⟨he, hw⟩ => ⟨.slice none 0 0, he, OB.nil _ _, hw ▸ Below.refl _ _⟩

theorem openL_le (l : List Nat) : (openL l).length ≤ l.length := by
  rw [openL_eq]
  split
  · rw [List.length_drop]; omega
  · simp
end Go.Proofs.Ytbmjiheclagfiaa
