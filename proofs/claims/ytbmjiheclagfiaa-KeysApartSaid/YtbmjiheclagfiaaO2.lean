/-
  How the rows of elements and versions stand to each other (no program in it).
-/
import Derived.Test.YtbmjiheclagfiaaO1
import Derived.Test.YtbmjiheclagfiaaW1
namespace Go.Proofs.Ytbmjiheclagfiaa
open Go.RowKit
set_option linter.unusedVariables false

theorem val_inj : ∀ (a b : List Nat), a.length = b.length → (∀ x ∈ a, x < 256) → (∀ x ∈ b, x < 256) → val a = val b → a = b
  | [], [], _, _, _, _ => rfl
  | [], _ :: _, h, _, _, _ => by simp at h
  | _ :: _, [], h, _, _, _ => by simp at h
  | x :: a, y :: b, h, ha, hb, hv => by
    have hl : a.length = b.length := by simpa using h
    have h1 := val_lt a (fun z hz => ha z (by simp [hz]))
    have h2 := val_lt b (fun z hz => hb z (by simp [hz]))
    rw [val, val, hl] at hv
    rw [hl] at h1
    have hp : 0 < 256 ^ b.length := Nat.pos_of_ne_zero (by simp)
    have hxy : x = y := by
      have e1 : (x * 256 ^ b.length + val a) / 256 ^ b.length = x := by rw [Nat.mul_comm, Nat.mul_add_div hp, Nat.div_eq_of_lt h1, Nat.add_zero]
      have e2 : (y * 256 ^ b.length + val b) / 256 ^ b.length = y := by rw [Nat.mul_comm, Nat.mul_add_div hp, Nat.div_eq_of_lt h2, Nat.add_zero]
      rw [hv, e2] at e1
      exact e1.symm
    subst hxy
    rw [val_inj a b hl (fun z hz => ha z (by simp [hz])) (fun z hz => hb z (by simp [hz])) (by omega)]

theorem lexI_val : ∀ (a b : List Nat), a.length = b.length → (∀ x ∈ a, x < 256) → (∀ x ∈ b, x < 256) → lexI a b = ordI (val a) (val b)
  | [], [], _, _, _ => by simp [lexI, ordI, val]
  | [], _ :: _, h, _, _ => by simp at h
  | _ :: _, [], h, _, _ => by simp at h
  | x :: a, y :: b, h, ha, hb => by
    have hl : a.length = b.length := by simpa using h
    have ih := lexI_val a b hl (fun z hz => ha z (by simp [hz])) (fun z hz => hb z (by simp [hz]))
    have h1 := val_lt a (fun z hz => ha z (by simp [hz]))
    have h2 := val_lt b (fun z hz => hb z (by simp [hz]))
    rw [hl] at h1
    rw [lexI, val, val, hl]
    by_cases hx : x < y
    · have := Nat.mul_le_mul_right (256 ^ b.length) hx
      rw [Nat.succ_mul] at this
      rw [if_pos hx]
      unfold ordI
      rw [if_pos (by omega)]
    · by_cases hy : y < x
      · have := Nat.mul_le_mul_right (256 ^ b.length) hy
        rw [Nat.succ_mul] at this
        rw [if_neg hx, if_pos hy]
        unfold ordI
        rw [if_neg (by omega), if_pos (by omega)]
      · obtain rfl : x = y := by omega
        rw [if_neg hx, if_neg hy, ih]
        unfold ordI
        by_cases q1 : val a < val b
        · rw [if_pos q1, if_pos (by omega)]
        · by_cases q2 : val b < val a
          · rw [if_neg q1, if_pos q2, if_neg (by omega), if_pos (by omega)]
          · rw [if_neg q1, if_neg q2, if_neg (by omega), if_neg (by omega)]

theorem elemL_lt (e : Bool) (n : Nat) : ∀ x ∈ elemL e n, x < 256 := by
  intro x hx
  simp only [elemL, List.mem_cons] at hx
  rcases hx with rfl | hx
  · have := clsN_le e
    omega
  · exact idL_lt n x hx
theorem val_elemL (e : Bool) (n : Nat) (h : n ≤ 2147483647) : val (elemL e n) = (1 + clsN e) * 4294967296 + n := by
  simp [val, elemL, idL]
  omega
theorem elem_val_lt (e f : Bool) (m n : Nat) (hm : m ≤ 2147483647) (hn : n ≤ 2147483647) : decide (val (elemL e m) < val (elemL f n)) = ((!e && f) || (e == f && decide (m < n))) := by
  rw [val_elemL e m hm, val_elemL f n hn]
  cases e <;> cases f <;> simp [clsN] <;> omega
theorem elem_lex (e f : Bool) (m n : Nat) (hm : m ≤ 2147483647) (hn : n ≤ 2147483647) : decide (lexI (elemL e m) (elemL f n) < 0) = ((!e && f) || (e == f && decide (m < n))) := by
  rw [← elem_val_lt e f m n hm hn, lexI_val _ _ (by simp [elemL, idL]) (elemL_lt _ _) (elemL_lt _ _)]
  unfold ordI
  rw [decide_eq_decide]
  split
  · simp [*]
  · split <;> simp [*]
theorem elemL_inj (e f : Bool) (m n : Nat) (hm : m ≤ 2147483647) (hn : n ≤ 2147483647) : sameB (elemL e m) (elemL f n) = (e == f && decide (m = n)) := by
  unfold sameB
  rw [Bool.eq_iff_iff]
  simp only [decide_eq_true_eq, Bool.and_eq_true, beq_iff_eq]
  constructor
  · intro h
    have hv := congrArg val h
    rw [val_elemL e m hm, val_elemL f n hn] at hv
    cases e <;> cases f <;> simp [clsN] at hv ⊢ <;> omega
  · rintro ⟨rfl, rfl⟩
    rfl

theorem lexI_app : ∀ (p a b : List Nat), lexI (p ++ a) (p ++ b) = lexI a b
  | [], a, b => rfl
  | x :: p, a, b => by rw [List.cons_append, List.cons_append, lexI, if_neg (Nat.lt_irrefl _), if_neg (Nat.lt_irrefl _), lexI_app p a b]

/-- How two versions stand. -/
def versO (c : Int) (s t : Int) : Int := if c = 0 then (if t < s then -1 else if s < t then 1 else 0) else c
theorem lexI_big (s t : Int) (hs : 0 ≤ s ∧ s ≤ 1099511627776) (ht : 0 ≤ t ∧ t ≤ 1099511627776) : lexI (bigL (place (-s))) (bigL (place (-t))) = versO 0 s t := by
  rw [lexI_val _ _ (by simp [bigL]) (bigL_lt _) (bigL_lt _), val_bigL _ (by unfold place; omega), val_bigL _ (by unfold place; omega)]
  unfold ordI versO place
  rw [if_pos rfl]
  by_cases h1 : t < s
  · rw [if_pos h1, if_pos (by omega)]
  · by_cases h2 : s < t
    · rw [if_neg h1, if_pos h2, if_neg (by omega), if_pos (by omega)]
    · rw [if_neg h1, if_neg h2, if_neg (by omega), if_neg (by omega)]
theorem lexI_vers (s t : Int) (hs : 0 ≤ s ∧ s ≤ 1099511627776) (ht : 0 ≤ t ∧ t ≤ 1099511627776) : ∀ (k l : List Nat), lexI (versL k s) (versL l t) = versO (lexI k l) s t
  | [], [] => by
    unfold versL
    rw [esc, List.nil_append, lexI_app, lexI_big s t hs ht]
    rfl
  | [], y :: l => by
    unfold versL versO
    by_cases hy : y = 0
    · subst hy
      simp [esc, lexI]
    · simp [esc, hy, lexI]
  | x :: k, [] => by
    unfold versL versO
    by_cases hx : x = 0
    · subst hx
      simp [esc, lexI]
    · simp [esc, hx, lexI]
  | x :: k, y :: l => by
    have ih := lexI_vers s t hs ht k l
    unfold versL at ih ⊢
    by_cases hxy : x = y
    · subst hxy
      rw [lexI, if_neg (Nat.lt_irrefl _), if_neg (Nat.lt_irrefl _), ← ih]
      by_cases hx : x = 0
      · subst hx
        simp [esc, lexI]
      · simp [esc, hx, lexI]
    · unfold versO
      by_cases hx : x = 0
      · subst hx
        have hy : ¬ y = 0 := fun h => hxy h.symm
        simp [esc, hy, lexI, Nat.pos_of_ne_zero hy]
      · by_cases hy : y = 0
        · subst hy
          simp [esc, hx, lexI, Nat.pos_of_ne_zero hx]
        · by_cases h1 : x < y
          · simp [esc, hx, hy, lexI, h1]
          · have h2 : y < x := by omega
            simp [esc, hx, hy, lexI, h1, h2]
end Go.Proofs.Ytbmjiheclagfiaa
