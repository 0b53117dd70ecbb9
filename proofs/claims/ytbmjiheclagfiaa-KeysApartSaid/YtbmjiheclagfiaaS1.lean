/-
  Plain: how a version is split. No walk.
-/
import Derived.Test.YtbmjiheclagfiaaK7
namespace Go.Proofs.Ytbmjiheclagfiaa
open Go.RowKit
set_option linter.unusedVariables false

/-- The key whose bytes, each nought followed by ff, these are. -/
def unesc : List Nat → Option (List Nat)
  | [] => some []
  | [x] => if x = 0 then none else some [x]
  | x :: y :: r => if x = 0 then (if y = 255 then (unesc r).map (fun k => 0 :: k) else none) else (unesc (y :: r)).map (fun k => x :: k)
theorem unesc_cons (x : Nat) (r : List Nat) (h : ¬ x = 0) : unesc (x :: r) = (unesc r).map (fun k => x :: k) := by
  cases r with
  | nil => simp [unesc, h]
  | cons y r => rw [unesc, if_neg h]
theorem unesc_zero (r : List Nat) : unesc (0 :: 255 :: r) = (unesc r).map (fun k => 0 :: k) := by rw [unesc, if_pos rfl, if_pos rfl]
theorem unesc_bad (y : Nat) (r : List Nat) (h : ¬ y = 255) : unesc (0 :: y :: r) = none := by rw [unesc, if_pos rfl, if_neg h]
theorem unesc_end : unesc [0] = none := by rw [unesc, if_pos rfl]

def badS : List Nat × Int × Nat := ([], 0, 40)
/-- A version's key and time. -/
def splitR (l : List Nat) : List Nat × Int × Nat :=
  if l.length < 10 then badS else
  match unesc (l.take (l.length - 10)) with
  | none => badS
  | some key => if l.getD (l.length - 10) 1 = 0 ∧ l.getD (l.length - 10 + 1) 1 = 0 ∧ timeB (9223372036854775808 - (val (l.drop (l.length - 8)) : Nat)) = true then (key, 9223372036854775808 - (val (l.drop (l.length - 8)) : Nat), 0) else badS

theorem splitR_short {l : List Nat} (h : l.length < 10) : splitR l = badS := by unfold splitR; rw [if_pos h]
theorem splitR_key {l : List Nat} {n : Nat} (hl : l.length = n + 10) (h : unesc (l.take n) = none) : splitR l = badS := by
  unfold splitR
  rw [if_neg (by omega), show l.length - 10 = n from by omega, h]
theorem splitR_end {l : List Nat} {n : Nat} (hl : l.length = n + 10) (h : ¬ (l[n]'(by omega) = 0 ∧ l[n + 1]'(by omega) = 0)) : splitR l = badS := by
  unfold splitR
  rw [if_neg (by omega), show l.length - 10 = n from by omega]
  split
  · rfl
  · rw [if_neg]
    intro ⟨h1, h2, _⟩
    rw [List.getD_eq_getElem?_getD, List.getElem?_eq_getElem (by omega)] at h1
    rw [List.getD_eq_getElem?_getD, List.getElem?_eq_getElem (by omega)] at h2
    exact h ⟨h1, h2⟩
theorem splitR_all {l : List Nat} {n : Nat} (hl : l.length = n + 10) (key : List Nat) (hk : unesc (l.take n) = some key) (h1 : l[n]'(by omega) = 0) (h2 : l[n + 1]'(by omega) = 0) (u : Int) (hu : u = (val (l.drop (n + 2)) : Nat) - 9223372036854775808) :
    splitR l = if timeB (-u) then (key, -u, 0) else badS := by
  unfold splitR
  rw [if_neg (by omega), show l.length - 10 = n from by omega, show l.length - 8 = n + 2 from by omega, hk]
  have e : (9223372036854775808 - (val (l.drop (n + 2)) : Nat) : Int) = -u := by omega
  rw [e]
  have g1 : l.getD n 1 = 0 := by rw [List.getD_eq_getElem?_getD, List.getElem?_eq_getElem (by omega)]; exact h1
  have g2 : l.getD (n + 1) 1 = 0 := by rw [List.getD_eq_getElem?_getD, List.getElem?_eq_getElem (by omega)]; exact h2
  cases ht : timeB (-u) with
  | true => simp only [g1, g2, and_self, if_true]
  | false => simp only []; rw [if_neg (by simp), if_neg (by simp)]

/-- What holds of the bytes read so far: k of them, as pre. -/
def SplitSt (l : List Nat) (n k : Nat) (pre : List Nat) : Prop :=
  (k ≤ n → unesc (l.take n) = (unesc ((l.take n).drop k)).map (fun r => pre ++ r)) ∧ (n < k → splitR l = badS)

theorem splitSt_start (l : List Nat) (n : Nat) : SplitSt l n 0 [] := ⟨fun _ => by simp, fun h => by omega⟩
theorem take_drop (l : List Nat) (n k : Nat) (hk : k < n) (hn : n ≤ l.length) : (l.take n).drop k = l[k]'(by omega) :: (l.take n).drop (k + 1) := by
  rw [List.drop_eq_getElem_cons (by rw [List.length_take]; omega)]
  congr 1
  rw [List.getElem_take]
theorem splitSt_plain {l : List Nat} {n k : Nat} {pre : List Nat} (hl : l.length = n + 10) (h : SplitSt l n k pre) (hk : k ≤ n) (hx : ¬ l[k]'(by omega) = 0) : SplitSt l n (k + 1) (pre ++ [l[k]'(by omega)]) := by
  refine ⟨fun hk1 => ?_, fun hk1 => ?_⟩
  · rw [h.1 hk, take_drop l n k (by omega) (by omega), unesc_cons _ _ hx, Option.map_map]
    congr 1
    funext r
    simp
  · have : k = n := by omega
    subst this
    exact splitR_end hl (fun hh => hx hh.1)
theorem splitSt_zero {l : List Nat} {n k : Nat} {pre : List Nat} (hl : l.length = n + 10) (h : SplitSt l n k pre) (hk : k ≤ n) (hx : l[k]'(by omega) = 0) (hy : l[k + 1]'(by omega) = 255) : SplitSt l n (k + 2) (pre ++ [0]) := by
  refine ⟨fun hk1 => ?_, fun hk1 => ?_⟩
  · rw [h.1 hk, take_drop l n k (by omega) (by omega), take_drop l n (k + 1) (by omega) (by omega), hx, hy, unesc_zero, Option.map_map]
    congr 1
    funext r
    simp
  · by_cases hkn : k = n
    · subst hkn
      exact splitR_end hl (fun hh => by have := hh.2; omega)
    · have : n = k + 1 := by omega
      subst this
      refine splitR_key hl ?_
      rw [h.1 hk, take_drop l (k + 1) k (by omega) (by omega), hx, List.drop_of_length_le (by rw [List.length_take]; omega), unesc_end]
      rfl
theorem splitSt_bad {l : List Nat} {n k : Nat} {pre : List Nat} (hl : l.length = n + 10) (h : SplitSt l n k pre) (hk : k < n) (hx : l[k]'(by omega) = 0) (hy : ¬ l[k + 1]'(by omega) = 255) : splitR l = badS := by
  refine splitR_key hl ?_
  rw [h.1 (by omega), take_drop l n k hk (by omega), hx]
  by_cases hkn : k + 1 < n
  · rw [take_drop l n (k + 1) hkn (by omega), unesc_bad _ _ hy]; rfl
  · rw [List.drop_of_length_le (by rw [List.length_take]; omega), unesc_end]; rfl
theorem splitSt_edge {l : List Nat} {n k : Nat} {pre : List Nat} (hl : l.length = n + 10) (h : SplitSt l n k pre) (hk : k + 1 = n) (hx : l[k]'(by omega) = 0) : splitR l = badS := by
  refine splitR_key hl ?_
  rw [h.1 (by omega), take_drop l n k (by omega) (by omega), hx, List.drop_of_length_le (by rw [List.length_take]; omega), unesc_end]
  rfl
theorem splitSt_done {l : List Nat} {n : Nat} {pre : List Nat} (hl : l.length = n + 10) (h : SplitSt l n n pre) : unesc (l.take n) = some pre := by
  rw [h.1 (Nat.le_refl _), List.drop_of_length_le (by rw [List.length_take]; omega)]
  simp [unesc]
/-- What a call that answers bytes, a number and an error leaves. -/
def Bytes3 (B : Nat) (w : World) (r : List Nat × Int × Nat) (e : Ending) (w' : World) : Prop := ∃ v', e = .returned (.tuple #[v', .int .i64 r.2.1, .int .i64 (r.2.2 : Int)]) ∧ OB w' B v' r.1 ∧ Below B w w'
end Go.Proofs.Ytbmjiheclagfiaa
