/-
  Plain words for layer 15's laws: what a rope answers behind a join, a cut, a Set. No walk.
-/
import Derived.Test.YtbbfnbnjaiimgaaRP33
namespace Go.Proofs.Ytbbfnbnjaiimgaa
open Go.RowKit
set_option linter.unusedVariables false

section

variable {M : RM SV}

theorem val_mem {i : Nat} (hi : 1 ≤ i ∧ i ≤ M.own.length) : M.val i ∈ M.own := by
  unfold RM.val
  rw [List.getElem?_eq_getElem (by omega)]
  exact List.getElem_mem _

theorem tame_val (ht : M.Tame) {i : Nat} (hi : 1 ≤ i ∧ i ≤ M.own.length) : I64 (M.val i).n ∧ I64 (M.val i).m := by
  have h1 := ht.n64 _ (val_mem hi)
  have h2 := ht.fit _ (val_mem hi)
  exact ⟨h1, by unfold I64; omega⟩

theorem known_iff {a : Int} : M.known a = true ↔ 0 < a ∧ a < (M.own.length : Int) + 1 := by unfold RM.known; simp

theorem known_row (h : M.Ok) {i j : Nat} (hi : 1 ≤ i ∧ i ≤ M.own.length) (hj : j ∈ M.rowOf i) : 1 ≤ j ∧ j ≤ M.own.length := row_known h (row_mem h hi).1 hj

theorem rowA_nat {i : Nat} (hi : 1 ≤ i ∧ i ≤ M.own.length) : M.rowA (i : Int) = M.rowOf i := by unfold RM.rowA; rw [if_pos (known_of hi), Int.toNat_natCast]

theorem errA_nat {i : Nat} (hi : 1 ≤ i ∧ i ≤ M.own.length) : M.errA (i : Int) = 0 := by unfold RM.errA; rw [if_pos (known_of hi)]

theorem valA_nat {i : Nat} (hi : 1 ≤ i ∧ i ≤ M.own.length) : M.valA (i : Int) = M.val i := by unfold RM.valA; rw [if_pos (known_of hi), Int.toNat_natCast]

theorem allA_nat {i : Nat} (hi : 1 ≤ i ∧ i ≤ M.own.length) : M.allA (i : Int) = bears M.val (M.rowOf i) := by unfold RM.allA; rw [if_pos (known_of hi), Int.toNat_natCast]

theorem sameA_nat {i j : Nat} (hi : 1 ≤ i ∧ i ≤ M.own.length) (hj : 1 ≤ j ∧ j ≤ M.own.length) : M.sameA (i : Int) (j : Int) = decide (M.rowOf i = M.rowOf j) := by
  unfold RM.sameA; rw [if_pos ⟨known_of hi, known_of hj⟩, Int.toNat_natCast, Int.toNat_natCast]

theorem errA_cases (a : Int) : (M.known a = true ∧ M.errA a = 0) ∨ (M.known a = false ∧ M.errA a = 150) := by
  unfold RM.errA
  by_cases h : M.known a = true
  · exact .inl ⟨h, if_pos h⟩
  · exact .inr ⟨by simpa using h, if_neg h⟩

theorem not_known {a : Int} (h : M.known a = false) : M.rowA a = [] ∧ M.errA a = 150 ∧ M.valA a = ⟨0, 0⟩ ∧ M.allA a = ⟨0, 0⟩ ∧ M.cutA a = M ∧ (∀ b, M.sameA a b = false) ∧ (∀ b, M.sameA b a = false) ∧ (∀ b, M.joinE a b = 150) ∧ (∀ b, M.joinE b a = 150) := by
  have h' : ¬ M.known a = true := by simp [h]
  refine ⟨?_, ?_, ?_, ?_, ?_, fun b => ?_, fun b => ?_, fun b => ?_, fun b => ?_⟩
  · unfold RM.rowA; rw [if_neg h']
  · unfold RM.errA; rw [if_neg h']
  · unfold RM.valA; rw [if_neg h']
  · unfold RM.allA; rw [if_neg h']
  · unfold RM.cutA; rw [if_neg h']
  · unfold RM.sameA; rw [if_neg (fun e => h' e.1)]
  · unfold RM.sameA; rw [if_neg (fun e => h' e.2)]
  · unfold RM.joinE; rw [if_neg (fun e => h' e.1)]
  · unfold RM.joinE; rw [if_neg (fun e => h' e.2)]

/-! ### Sums -/

theorem sums_all (h : M.Ok) (ht : M.Tame) {i : Nat} (hi : 1 ≤ i ∧ i ≤ M.own.length) : (M.rowOf i).foldl (fun s j => SV.plus s (M.val j)) ⟨0, 0⟩ = M.allA (i : Int) := by
  rw [allA_nat hi]
  exact fold_zero (h.ne _ (row_mem h hi).1) fun j hj => tame_val ht (known_row h hi hj)

theorem set_val {i : Nat} (hi : 1 ≤ i ∧ i ≤ M.own.length) (v : SV) {j : Nat} (hj : 1 ≤ j) : (M.set i v).val j = if j = i then v else M.val j := by
  unfold RM.val RM.set
  dsimp only
  by_cases e : j = i
  · subst e
    rw [if_pos rfl, List.getElem?_set_self (by omega)]
    rfl
  · rw [if_neg e, List.getElem?_set_ne (by omega)]

theorem sums_set (h : M.Ok) (ht : M.Tame) {i : Nat} (hi : 1 ≤ i ∧ i ≤ M.own.length) (v : Int) (hv : I64 v) :
    ((M.setA (i : Int) ⟨v, (M.valA (i : Int)).m⟩).allA (i : Int)).n = IntKind.i64.wrap (IntKind.i64.wrap ((M.allA (i : Int)).n - (M.valA (i : Int)).n) + v) ∧ ((M.setA (i : Int) ⟨v, (M.valA (i : Int)).m⟩).allA (i : Int)).m = (M.allA (i : Int)).m ∧
      ∀ b, M.sameA (i : Int) b = false → (M.setA (i : Int) ⟨v, (M.valA (i : Int)).m⟩).allA b = M.allA b := by
  rw [valA_nat hi, allA_nat hi]
  have e : M.setA (i : Int) ⟨v, (M.val i).m⟩ = M.set i ⟨v, (M.val i).m⟩ := by unfold RM.setA; rw [if_pos (known_of hi), Int.toNat_natCast]
  rw [e]
  obtain ⟨M', hM'⟩ : ∃ M', M' = M.set i ⟨v, (M.val i).m⟩ := ⟨_, rfl⟩
  rw [← hM']
  have hl : M'.own.length = M.own.length := by rw [hM']; simp [RM.set]
  have hrow : ∀ a, M'.rowOf a = M.rowOf a := fun a => by rw [hM']; rfl
  have hval : ∀ j, 1 ≤ j → M'.val j = if j = i then ⟨v, (M.val i).m⟩ else M.val j := fun j hj => by rw [hM']; exact set_val hi _ hj
  have hrm := row_mem h hi
  have hne := h.ne _ hrm.1
  have hnd := row_nodup h hrm.1
  have h0 := bears_wrap (f := M.val) hne fun j hj => tame_val ht (known_row h hi hj)
  have h1 := bears_wrap (f := M'.val) (xs := M.rowOf i) hne fun j hj => by
    have hk := known_row h hi hj
    rw [hval j hk.1]
    have ht2 := tame_val ht hi
    split
    · exact ⟨hv, ht2.2⟩
    · exact tame_val ht hk
  have hf : ∀ j ∈ M.rowOf i, j ≠ i → M'.val j = M.val j := fun j hj hji => by rw [hval j (known_row h hi hj).1, if_neg hji]
  have s1 := sum_set SV.n hf hnd hrm.2
  have s2 := sum_set SV.m hf hnd hrm.2
  have hvi : M'.val i = ⟨v, (M.val i).m⟩ := by rw [hval i hi.1, if_pos rfl]
  rw [hvi] at s1 s2
  rw [allA_nat (M := M') (by rw [hl]; exact hi), hrow, h1, h0]
  refine ⟨?_, ?_, fun b hb => ?_⟩
  · dsimp only at s1 ⊢
    rw [s1]
    simp only [IntKind.wrap_i64]
    omega
  · dsimp only at s2 ⊢
    rw [s2]
    congr 1
    omega
  · unfold RM.allA
    have hk : M'.known b = M.known b := by unfold RM.known; rw [hl]
    rw [hk]
    by_cases hb' : M.known b = true
    · rw [if_pos hb', if_pos hb', hrow]
      obtain ⟨j, rfl, hj⟩ := known_nat hb'
      rw [Int.toNat_natCast]
      rw [sameA_nat hi hj] at hb
      have hne2 : M.rowOf i ≠ M.rowOf j := by simpa using hb
      refine bears_congr _ fun c hc => ?_
      have hck := known_row h hj hc
      rw [hval c hck.1, if_neg]
      rintro rfl
      exact hne2 (rowOf_of h (row_mem h hj).1 hc)
    · rw [if_neg hb', if_neg hb']

/-! ### Seams -/

theorem index_at (h : M.Ok) {i : Nat} (hi : 1 ≤ i ∧ i ≤ M.own.length) {k : Nat} (hk : k < (M.rowOf i).length) :
    M.indexA ((M.rowOf i)[k] : Nat) = (k : Int) ∧ M.errA ((M.rowOf i)[k] : Nat) = 0 ∧ M.atA (i : Int) (k : Int) = ((M.rowOf i)[k] : Nat) ∧ M.atE (i : Int) (k : Int) = 0 := by
  have hm := List.getElem_mem hk
  have hkk := known_row h hi hm
  have hr : M.rowOf (M.rowOf i)[k] = M.rowOf i := rowOf_of h (row_mem h hi).1 hm
  refine ⟨?_, errA_nat hkk, ?_, ?_⟩
  · unfold RM.indexA
    rw [if_pos (known_of hkk), Int.toNat_natCast, hr, List.Nodup.idxOf_getElem (row_nodup h (row_mem h hi).1) k hk]
  · unfold RM.atA
    rw [Int.toNat_natCast, if_pos ⟨known_of hi, by omega, by omega⟩, Int.toNat_natCast, List.getElem?_eq_getElem hk]
    rfl
  · unfold RM.atE
    rw [if_pos (known_of hi), Int.toNat_natCast, if_pos ⟨by omega, by omega⟩]

theorem cutA_nat {i : Nat} (hi : 1 ≤ i ∧ i ≤ M.own.length) : M.cutA (i : Int) = M.cut i := by unfold RM.cutA; rw [if_pos (known_of hi), Int.toNat_natCast]

theorem joinA_nat {i j : Nat} (hi : 1 ≤ i ∧ i ≤ M.own.length) (hj : 1 ≤ j ∧ j ≤ M.own.length) (hne : M.rowOf i ≠ M.rowOf j) : M.joinE (i : Int) (j : Int) = 0 ∧ M.joinA (i : Int) (j : Int) = M.join i j := by
  have e : M.joinE (i : Int) (j : Int) = 0 := by
    unfold RM.joinE
    rw [if_pos ⟨known_of hi, known_of hj⟩, Int.toNat_natCast, Int.toNat_natCast, if_neg hne]
  refine ⟨e, ?_⟩
  unfold RM.joinA
  rw [if_pos e, Int.toNat_natCast, Int.toNat_natCast]

theorem indexA_head {i : Nat} {Q : List Nat} (hi : 1 ≤ i ∧ i ≤ M.own.length) (hr : M.rowOf i = i :: Q) : M.indexA (i : Int) = 0 := by
  unfold RM.indexA
  rw [if_pos (known_of hi), Int.toNat_natCast, hr]
  simp

/-- A row that is cut and joined again. -/
theorem cut_join (h : M.Ok) {i p : Nat} (hi : 1 ≤ i ∧ i ≤ M.own.length) {P Q : List Nat} (hr : M.rowOf i = p :: P ++ i :: Q) :
    (M.cut i).rowOf p ≠ (M.cut i).rowOf i ∧ (1 ≤ p ∧ p ≤ M.own.length) ∧ ((M.cut i).join p i).rowOf i = M.rowOf i := by
  have hnd := row_nodup h (row_mem h hi).1
  rw [hr] at hnd
  have h1 : (M.cut i).rowOf i = i :: Q := rowOf_cut h hi hr (by simp)
  have h2 : (M.cut i).rowOf p = p :: P := rowOf_cut_ahead h hi hr (by simp)
  have hp : 1 ≤ p ∧ p ≤ M.own.length := known_row h hi (by rw [hr]; simp)
  have hne : (M.cut i).rowOf p ≠ (M.cut i).rowOf i := by
    rw [h1, h2]
    intro e
    have hip : i ∈ p :: P := by rw [e]; simp
    exact (List.nodup_append.1 hnd).2.2 i hip i (by simp) rfl
  refine ⟨hne, hp, ?_⟩
  rw [rowOf_join (ok_cut h i) (by rw [cut_own]; exact hp) (by rw [cut_own]; exact hi) hne (by rw [h1]; simp), h1, h2, hr]

/-- Two rows that are joined and cut at the seam. -/
theorem join_cut (h : M.Ok) {i j o : Nat} (hi : 1 ≤ i ∧ i ≤ M.own.length) (hj : 1 ≤ j ∧ j ≤ M.own.length) (hne : M.rowOf i ≠ M.rowOf j) {O : List Nat} (ho : M.rowOf j = o :: O) :
    (1 ≤ o ∧ o ≤ M.own.length) ∧ ((M.join i j).cut o).rowOf i = M.rowOf i ∧ ((M.join i j).cut o).rowOf j = M.rowOf j := by
  have hok : 1 ≤ o ∧ o ≤ M.own.length := known_row h hj (by rw [ho]; simp)
  have h3 := ok_join h hi hj hne
  have hr : (M.join i j).rowOf o = M.rowOf i ++ o :: O := by rw [rowOf_join h hi hj hne (by rw [ho]; simp), ho]
  refine ⟨hok, ?_, ?_⟩
  · exact rowOf_cut_ahead h3 (by rw [join_own]; exact hok) hr (row_mem h hi).2
  · rw [ho]
    refine rowOf_cut h3 (by rw [join_own]; exact hok) hr ?_
    rw [← ho]
    exact (row_mem h hj).2

end

end Go.Proofs.Ytbbfnbnjaiimgaa
