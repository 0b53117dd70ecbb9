/-
  The walk of skeinlaw02.CrcSums.
-/
import Derived.Test.YtbmjiheclagfiaaL1
namespace Go.Proofs.Ytbmjiheclagfiaa
open Go.RowKit
set_option linter.unusedVariables false

/-- A piece of a row of the call's own. -/
theorem OB.cut {w : World} {B g n cap : Nat} {l r : List Nat} (h : OB w B (.slice (some ⟨g, 0, none⟩) n cap) (l ++ r)) (k c' : Nat) (hk : k ≤ l.length) (hc : l.length - k ≤ c') (hc' : c' ≤ 9223372036854775807) :
    RB w w.heap.size (.slice (some ⟨g, k, none⟩) (l.length - k) c') (l.drop k) := by
  have h0 := (h.rb (Nat.le_refl _)).pre
  obtain ⟨h1, h2, A, c, hv, h3, h4, h5⟩ := h0
  injection hv with e1 e2 e3
  subst e1
  refine ⟨fun x hx => h1 x (List.mem_of_mem_drop hx), by rw [List.length_drop]; omega, some ⟨g, k, none⟩, c', by rw [List.length_drop], by rw [List.length_drop]; exact hc, hc', ?_⟩
  rcases h5 with h5 | ⟨b, off, hb0, hb, hcell⟩
  · left; rw [h5]; simp
  · injection hb0 with hb0
    injection hb0 with e4 e5
    subst e4
    subst e5
    refine .inr ⟨_, _, rfl, hb, fun j x hj => ?_⟩
    rw [List.getElem?_drop] at hj
    have := hcell (k + j) x hj
    simpa using this

theorem RP.three {W : World} {u u' u'' : Value} {t t' t'' : List Nat} {g B : Nat} (hg : g = W.heap.size) (hu : RB W B u t) (hu' : RB W B u' t') (hu'' : RB W B u'' t'') (hB : B ≤ W.heap.size) : RP (W.alloc (.cells #[u, u', u''] 22)) B g 0 [t, t', t''] := by
  intro i hi
  subst hg
  match i, hi with
  | 0, _ => exact ⟨u, by simp, hu.alloc hB _⟩
  | 1, _ => exact ⟨u', by simp, hu'.alloc hB _⟩
  | 2, _ => exact ⟨u'', by simp, hu''.alloc hB _⟩
theorem RB.nil (w : World) (B : Nat) : RB w B (.slice none 0 0) [] := ⟨by simp, by simp, none, 0, rfl, by simp, by simp, .inl rfl⟩
end Go.Proofs.Ytbmjiheclagfiaa
