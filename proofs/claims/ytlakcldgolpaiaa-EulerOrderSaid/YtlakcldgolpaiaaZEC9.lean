/-
  Rows of numbers sorted and compacted: the library's contracts at rows of one's own; a sorted row without repeats is the rising row. No walk.
-/
import Derived.Test.YtlakcldgolpaiaaShelf
import Derived.Sort.OwnSortedInts
import Derived.Test.YtlakcldgolpaiaaZEC5
namespace Go.Proofs.Ytlakcldgolpaiaa
open Go.RowKit Go.Maps Go.Sort
set_option linter.unusedVariables false

theorem flat_encI (xs : List Int) : xs.flatMap encI = xs.map (Value.int .i64) := by
  induction xs with
  | nil => rfl
  | cons x r ih => rw [List.flatMap_cons, ih]; rfl

def sortL (xs : List Int) : List Int := xs.mergeSort fun x y => decide (x ≤ y)

theorem sortInts_any (v : Value) (xs : List Int) (w : World) (B : Nat) (h : OK encI 1 3 w B v xs) (hlen : xs.length ≤ 1000000) :
    Calls Try.prog 61 #[v] w fun e w' => e = .returned (.tuple #[]) ∧ OK encI 1 3 w' B v (sortL xs) ∧ w.grownBy w' v.ownBlock := by
  obtain ⟨h1, h2⟩ := h
  have hl : (xs.mergeSort fun x y => decide (x ≤ y)).length = xs.length := List.length_mergeSort _
  unfold sortL
  rcases Nat.eq_zero_or_pos xs.length with h0 | h0
  · have hE : xs = [] := List.eq_nil_of_length_eq_zero h0
    subst hE
    have hsl : ∃ A c, v = .slice A 0 c := by
      rcases h2.2 with ⟨h1, h2⟩ | ⟨g, cap, cur, h1, _⟩
      · exact ⟨none, 0, h1⟩
      · exact ⟨_, _, h1⟩
    obtain ⟨A, c, rfl⟩ := hsl
    refine (Go.Proofs.Try.slices_Sort_int_none A c w).mono ?_
    rintro e w' ⟨rfl, rfl⟩
    rw [List.mergeSort_nil]
    exact ⟨rfl, ⟨h1, h2⟩, World.grownBy.refl _ _⟩
  · rcases h2.2 with ⟨_, h3⟩ | ⟨g, cap, cur, rfl, hb, hg, hn, hc, hs, ht⟩
    · omega
    · rw [flat_encI, Nat.mul_one] at ht
      refine (Go.Proofs.Try.slices_Sort_int g 0 cap xs w (holds_of_blockI hg ht) ((Array.getElem?_eq_some_iff.1 hg).1) (by omega)).mono ?_
      rintro e w' ⟨rfl, n, os, rfl⟩
      have := ownsRow_sortedI (n := n) (os := os) (ts := xs.mergeSort fun x y => decide (x ≤ y)) (ss := xs) hl hb hg hn hc hs
      refine ⟨rfl, ⟨by rw [hl]; exact h1, ?_⟩, grownBy_sortedI _⟩
      rw [hl, flat_encI]
      exact this

theorem compact_len (xs : List Int) : (Lib.compact xs).length ≤ xs.length := by
  unfold Lib.compact Lib.compactUpTo
  rw [List.length_map]
  have := List.length_filter_le (Lib.keeps xs.toArray) (List.range xs.length)
  simpa using this

theorem compactInts_any (v : Value) (xs : List Int) (w : World) (B : Nat) (h : OK encI 1 3 w B v xs) (hlen : xs.length ≤ 1000000) :
    Calls Try.prog 62 #[v] w fun e w' => ∃ v', e = .returned v' ∧ OK encI 1 3 w' B v' (Lib.compact xs) ∧ w.grownBy w' v.ownBlock ∧ v'.ownBlock = v.ownBlock := by
  obtain ⟨h1, h2⟩ := h
  rcases Nat.eq_zero_or_pos xs.length with h0 | h0
  · have hE : xs = [] := List.eq_nil_of_length_eq_zero h0
    subst hE
    have hsl : ∃ A c, v = .slice A 0 c := by
      rcases h2.2 with ⟨h1, h2⟩ | ⟨g, cap, cur, h1, _⟩
      · exact ⟨none, 0, h1⟩
      · exact ⟨_, _, h1⟩
    obtain ⟨A, c, rfl⟩ := hsl
    refine (Go.Proofs.Try.slices_Compact_int_empty A c w).mono ?_
    rintro e w' ⟨rfl, rfl⟩
    exact ⟨_, rfl, ⟨h1, h2⟩, World.grownBy.refl _ _, rfl⟩
  · rcases h2.2 with ⟨_, h3⟩ | ⟨g, cap, cur, rfl, hb, hg, hn, hc, hs, ht⟩
    · omega
    · rw [flat_encI, Nat.mul_one] at ht
      have hcl := compact_len xs
      refine (Go.Proofs.Try.slices_Compact_int g 0 cap xs w (holds_of_blockI hg ht) (by omega) hn).mono ?_
      rintro e w' ⟨rfl, q, rfl⟩
      obtain ⟨ys, hys⟩ : ∃ ys, ys = Lib.compact xs ++ List.replicate (xs.length - (Lib.compact xs).length) 0 := ⟨_, rfl⟩
      have hyl : ys.length = xs.length := by rw [hys]; simp; omega
      rw [← hys]
      have key := ownsRow_sortedI (n := q) (os := #[]) (ts := ys) (ss := xs) hyl hb hg hn hc hs
      have hgr := grownBy_sortedI (w := w) (g := g) (n := q) (os := #[]) ys.toArray
      rw [grow_empty] at key hgr
      refine ⟨_, rfl, ⟨by omega, by rw [flat_len encI_len], .inr ?_⟩, hgr, rfl⟩
      rcases key.2 with ⟨e, _⟩ | ⟨g', cap', cur', e, k1, k2, k3, k4, k5, k6⟩
      · cases e
      · injection e with e1 e2 e3
        injection e1 with e1
        injection e1 with e1
        subst e1 e3
        refine ⟨g, cap, cur', rfl, k1, k2, by omega, k4, k5, ?_⟩
        have h3 : cur'.toList.take ((Lib.compact xs).length * 1) = (cur'.toList.take (xs.length * 1)).take (Lib.compact xs).length := by rw [List.take_take]; congr 1; omega
        rw [h3, k6, hys, List.map_append, List.take_append_of_le_length (by simp), List.take_of_length_le (by simp), flat_encI]

theorem compact_spec (d : Array Int) (hs : ∀ i j, i < j → j < d.size → d[i]! ≤ d[j]!) : ∀ m, m ≤ d.size → (Lib.compactUpTo d m).Pairwise (· < ·) ∧ (∀ i, i ∈ Lib.compactUpTo d m ↔ ∃ j, j < m ∧ d[j]! = i) ∧ (0 < m → ∀ x ∈ Lib.compactUpTo d m, x ≤ d[m - 1]!) := by
  intro m
  induction m with
  | zero => intro _; exact ⟨by simp [Lib.compactUpTo], fun i => by simp [Lib.compactUpTo], fun h => by omega⟩
  | succ m ih =>
    intro hm
    obtain ⟨h1, h2, h3⟩ := ih (by omega)
    rw [Lib.compactUpTo_succ]
    have hle : ∀ x ∈ Lib.compactUpTo d m, x ≤ d[m]! := fun x hx => by
      obtain ⟨j, hj, rfl⟩ := (h2 x).1 hx
      exact hs j m hj (by omega)
    by_cases hk : Lib.keeps d m = true
    · rw [if_pos hk]
      have hlt : ∀ x ∈ Lib.compactUpTo d m, x < d[m]! := fun x hx => by
        rcases Nat.eq_zero_or_pos m with h0 | h0
        · subst h0; simp [Lib.compactUpTo] at hx
        · have h4 := h3 h0 x hx
          have h5 := hs (m - 1) m (by omega) (by omega)
          have h6 : d[m]! ≠ d[m - 1]! := by
            unfold Lib.keeps at hk
            have := of_decide_eq_true hk
            exact this.resolve_left (by omega)
          omega
      refine ⟨List.pairwise_append.2 ⟨h1, by simp, fun x hx y hy => by rw [List.mem_singleton.1 hy]; exact hlt x hx⟩, fun i => ?_, fun _ x hx => ?_⟩
      · rw [List.mem_append, List.mem_singleton, h2]
        constructor
        · rintro (⟨j, hj, e⟩ | e)
          · exact ⟨j, by omega, e⟩
          · exact ⟨m, by omega, e.symm⟩
        · rintro ⟨j, hj, e⟩
          by_cases hjm : j = m
          · subst hjm; exact .inr e.symm
          · exact .inl ⟨j, by omega, e⟩
      · show x ≤ d[m]!
        rcases List.mem_append.1 hx with hx | hx
        · exact hle x hx
        · rw [List.mem_singleton.1 hx]; exact Int.le_refl _
    · rw [if_neg hk, List.append_nil]
      have h0 : 0 < m := by
        rcases Nat.eq_zero_or_pos m with h0 | h0
        · subst h0; exact absurd (by simp [Lib.keeps]) hk
        · exact h0
      have h6 : d[m]! = d[m - 1]! := by
        by_cases e : d[m]! = d[m - 1]!
        · exact e
        · exact absurd (Lib.keeps_pos e) hk
      refine ⟨h1, fun i => ?_, fun _ x hx => hle x hx⟩
      rw [h2]
      constructor
      · rintro ⟨j, hj, e⟩; exact ⟨j, by omega, e⟩
      · rintro ⟨j, hj, e⟩
        by_cases hjm : j = m
        · subst hjm; exact ⟨j - 1, by omega, by rw [← h6]; exact e⟩
        · exact ⟨j, by omega, e⟩

/-- Sorted, and each once: the rising row of what there is. -/
theorem compact_sort (xs : List Int) : Rise (Lib.compact (sortL xs)) (fun i => i ∈ xs) := by
  have hs : (sortL xs).Pairwise (fun a b => a ≤ b) := by
    have := List.pairwise_mergeSort (le := fun x y : Int => decide (x ≤ y)) (fun a b c h1 h2 => by simp at h1 h2 ⊢; omega) (fun a b => by simp; omega) xs
    exact this.imp fun h => by simpa using h
  have hm : ∀ i, i ∈ sortL xs ↔ i ∈ xs := fun i => (List.mergeSort_perm xs _).mem_iff
  obtain ⟨ys, hys⟩ : ∃ ys, ys = sortL xs := ⟨_, rfl⟩
  rw [← hys] at hs hm ⊢
  have hget : ∀ j (hj : j < ys.length), ys.toArray[j]! = ys[j] := fun j hj => by simp [hj]
  obtain ⟨h1, h2, -⟩ := compact_spec ys.toArray (fun i j hij hj => by
    have hj' : j < ys.length := by simpa using hj
    rw [hget i (by omega), hget j hj']
    exact List.pairwise_iff_getElem.1 hs i j _ _ hij) ys.length (by simp)
  refine ⟨h1, fun i => ?_⟩
  show i ∈ Lib.compactUpTo ys.toArray ys.length ↔ i ∈ xs
  rw [h2, ← hm, List.mem_iff_getElem]
  constructor
  · rintro ⟨j, hj, e⟩; exact ⟨j, hj, by rw [← hget j hj]; exact e⟩
  · rintro ⟨j, hj, e⟩; exact ⟨j, hj, by rw [hget j hj]; exact e⟩

end Go.Proofs.Ytlakcldgolpaiaa
