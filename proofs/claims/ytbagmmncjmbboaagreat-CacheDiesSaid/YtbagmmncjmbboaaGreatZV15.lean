/-
  A log's stream in plain words: records one behind the other, and what reading finds of them. No walk.
-/
import Derived.DeepKeys4
import Derived.Test.YtbagmmncjmbboaaGreatZV9
import Derived.Test.YtbagmmncjmbboaaGreatD1
namespace Go.Proofs.YtbagmmncjmbboaaGreat
open Go.RowKit Go.Maps
set_option linter.unusedVariables false

theorem fitW (m i : Nat) (hi : i ≤ 9) (h : m * 128 ^ i < 18446744073709551616) : ¬ (i = 9 ∧ 1 < m) := by
  rintro ⟨rfl, h1⟩
  have : 2 * 128 ^ 9 ≤ m * 128 ^ 9 := Nat.mul_le_mul_right _ h1
  omega

theorem getGo_onW (p : Nat) (r : List Nat) : ∀ (N m i u0 : Nat), m ≤ N → i ≤ 9 → (0 < i → 0 < m) → m * 128 ^ i < 18446744073709551616 →
    getGo p (putL m ++ r) i u0 = (u0 + m * 128 ^ i, p + i + (putL m).length, 0) := by
  intro N
  induction N with
  | zero =>
    intro m i u0 hm hi hp hf
    obtain rfl : m = 0 := by omega
    rw [putL_last 0 (by omega), List.singleton_append, getGo, if_neg (by omega), if_neg (by omega), if_neg (by omega)]
    simp
  | succ N ih =>
    intro m i u0 hm hi hp hf
    have h9 := fitW m i hi hf
    by_cases h : m < 128
    · rw [putL_last m h, List.singleton_append, getGo, if_neg h9, if_neg (by omega), if_neg (by omega), Nat.mod_eq_of_lt h]
      simp
    · have hi8 : i ≠ 9 := fun e => h9 ⟨e, by omega⟩
      rw [putL_more m h, List.cons_append, getGo, if_neg (by omega), if_pos (by omega)]
      have hsum : (m % 128 + 128) % 128 * 128 ^ i + m / 128 * 128 ^ (i + 1) = m * 128 ^ i := by
        rw [show (m % 128 + 128) % 128 = m % 128 by omega, Nat.pow_succ, ← Nat.mul_assoc, Nat.mul_right_comm, ← Nat.add_mul]
        congr 1
        omega
      rw [ih (m / 128) (i + 1) _ (by omega) (by omega) (by omega) (by omega)]
      rw [List.length_cons]
      congr 1
      · omega
      · congr 1
        omega

theorem getGo_cutW (p : Nat) : ∀ (N m i u0 k : Nat), m ≤ N → i ≤ 9 → m * 128 ^ i < 18446744073709551616 → k < (putL m).length → getGo p ((putL m).take k) i u0 = (0, 0, 2) := by
  intro N
  induction N with
  | zero =>
    intro m i u0 k hm hi hf hk
    obtain rfl : m = 0 := by omega
    rw [putL_last 0 (by omega)] at hk ⊢
    obtain rfl : k = 0 := by simpa using hk
    rfl
  | succ N ih =>
    intro m i u0 k hm hi hf hk
    have h9 := fitW m i hi hf
    cases k with
    | zero => rfl
    | succ k =>
      by_cases h : m < 128
      · rw [putL_last m h] at hk; simp at hk
      · have hi8 : i ≠ 9 := fun e => h9 ⟨e, by omega⟩
        rw [putL_more m h] at hk ⊢
        rw [List.length_cons] at hk
        rw [List.take_succ_cons, getGo, if_neg (by omega), if_pos (by omega)]
        have hsum : m / 128 * 128 ^ (i + 1) ≤ m * 128 ^ i := by
          rw [Nat.pow_succ, Nat.mul_comm (128 ^ i), ← Nat.mul_assoc]
          exact Nat.mul_le_mul_right _ (by omega)
        exact ih (m / 128) (i + 1) _ k (by omega) (by omega) (by omega) (by omega)

theorem recL_len (k : Nat) (b : List Nat) : (recL k b).length = 1 + (putL b.length).length + b.length := by unfold recL; simp; omega

theorem textA_rec (a r : List Nat) (k : Nat) (b : List Nat) (hb : b.length ≤ 1200) : textA (a ++ recL k b ++ r) ((a.length : Int) + 1) 1200 = (b, a.length + (recL k b).length, 0) := by
  have e : a ++ recL k b ++ r = (a ++ [k]) ++ putL b.length ++ (b ++ r) := by unfold recL; simp
  have hl : ((a.length : Int) + 1) = (((a ++ [k]).length : Nat) : Int) := by simp
  have hg : getA (a ++ recL k b ++ r) ((a.length : Int) + 1) = (b.length, (a ++ [k]).length + (putL b.length).length, 0) := by
    rw [e, hl]
    unfold getA
    rw [if_neg (by simp; omega)]
    unfold getR
    rw [Int.toNat_natCast, List.append_assoc, List.drop_left, getGo_onW _ _ b.length b.length 0 0 (Nat.le_refl _) (by omega) (by omega) (by omega)]
    simp
  unfold textA
  rw [hg]
  simp only [ne_eq, not_true, if_false]
  rw [if_neg (by omega), if_neg (by rw [e]; simp; omega)]
  have hp : piece (a ++ recL k b ++ r) ((a ++ [k]).length + (putL b.length).length) ((a ++ [k]).length + (putL b.length).length + b.length) = b := by
    rw [e]
    unfold piece
    rw [show (a ++ [k]).length + (putL b.length).length + b.length = (a ++ [k] ++ putL b.length ++ b).length by simp; omega, show a ++ [k] ++ putL b.length ++ (b ++ r) = (a ++ [k] ++ putL b.length ++ b) ++ r by simp, List.take_left,
      show (a ++ [k]).length + (putL b.length).length = (a ++ [k] ++ putL b.length).length by (simp; omega), List.drop_left]
  rw [hp, recL_len]
  refine Prod.ext rfl (Prod.ext ?_ rfl)
  simp
  omega

theorem textA_cut (a : List Nat) (k : Nat) (b : List Nat) (hb : b.length ≤ 1200) (j : Nat) (hj : j < (recL k b).length) : (textA (a ++ (recL k b).take j) ((a.length : Int) + 1) 1200).2.2 ≠ 0 := by
  cases j with
  | zero =>
    have hg : getA (a ++ (recL k b).take 0) ((a.length : Int) + 1) = (0, 0, 1) := by
      unfold getA
      rw [List.take_zero, List.append_nil, if_pos (Or.inr (by omega))]
    unfold textA
    rw [hg]
    simp
  | succ j =>
    rw [recL_len] at hj
    have hl : ((a.length : Int) + 1) = (((a ++ [k]).length : Nat) : Int) := by simp
    have e : a ++ (recL k b).take (j + 1) = (a ++ [k]) ++ (putL b.length ++ b).take j := by unfold recL; rw [List.take_succ_cons]; simp
    by_cases h : j < (putL b.length).length
    · have hg : getA (a ++ (recL k b).take (j + 1)) ((a.length : Int) + 1) = (0, 0, 2) := by
        rw [e, hl]
        unfold getA
        rw [if_neg (by simp; omega)]
        unfold getR
        rw [Int.toNat_natCast, List.drop_left, List.take_append_of_le_length (by omega), getGo_cutW _ b.length b.length 0 0 j (Nat.le_refl _) (by omega) (by omega) h]
      unfold textA
      rw [hg]
      simp
    · have hg : getA (a ++ (recL k b).take (j + 1)) ((a.length : Int) + 1) = (b.length, (a ++ [k]).length + (putL b.length).length, 0) := by
        rw [e, hl]
        unfold getA
        rw [if_neg (by simp; omega)]
        unfold getR
        rw [Int.toNat_natCast, List.drop_left, List.take_append, List.take_of_length_le (Nat.le_of_not_lt h), getGo_onW _ _ b.length b.length 0 0 (Nat.le_refl _) (by omega) (by omega) (by omega)]
        simp
      unfold textA
      rw [hg]
      simp only [ne_eq, not_true, if_false]
      rw [if_neg (by omega), if_pos (by rw [e, List.length_append, List.length_take, List.length_append, List.length_append, List.length_singleton]; omega)]
      simp

/-- A record's kind and body. -/
abbrev RecT := Nat × List Nat

def RecOk (r : RecT) : Prop := 1 ≤ r.1 ∧ r.1 ≤ 255 ∧ r.2.length ≤ 1200 ∧ ∀ x ∈ r.2, x < 256

def strm (rs : List RecT) : List Nat := rs.flatMap fun r => recL r.1 r.2

def begsAt : Nat → List RecT → List Nat
  | _, [] => []
  | o, r :: t => o :: begsAt (o + (recL r.1 r.2).length) t

/-- How many records lie whole in the first j bytes. -/
def whole : List RecT → Nat → Nat
  | [], _ => 0
  | r :: t, j => if (recL r.1 r.2).length ≤ j then whole t (j - (recL r.1 r.2).length) + 1 else 0

/-- Where the records begin from place a on, and where they end. -/
def scan (st : List Nat) : Nat → Nat → List Nat × Nat
  | 0, a => ([], a)
  | n + 1, a =>
    if a < st.length ∧ 1 ≤ st.getD a 0 ∧ (textA st ((a : Int) + 1) 1200).2.2 = 0 then
      (a :: (scan st n (textA st ((a : Int) + 1) 1200).2.1).1, (scan st n (textA st ((a : Int) + 1) 1200).2.1).2)
    else ([], a)

theorem strm_nil : strm [] = [] := rfl

theorem strm_cons (r : RecT) (t : List RecT) : strm (r :: t) = recL r.1 r.2 ++ strm t := by unfold strm; rw [List.flatMap_cons]

theorem strm_append (a b : List RecT) : strm (a ++ b) = strm a ++ strm b := by unfold strm; rw [List.flatMap_append]

theorem strm_snoc (a : List RecT) (r : RecT) : strm (a ++ [r]) = strm a ++ recL r.1 r.2 := by rw [strm_append, strm_cons, strm_nil, List.append_nil]

theorem begsAt_len : ∀ (rs : List RecT) (o : Nat), (begsAt o rs).length = rs.length
  | [], _ => rfl
  | r :: t, o => by rw [begsAt, List.length_cons, List.length_cons, begsAt_len t]

theorem begsAt_snoc (r : RecT) : ∀ (rs : List RecT) (o : Nat), begsAt o (rs ++ [r]) = begsAt o rs ++ [o + (strm rs).length]
  | [], o => rfl
  | q :: t, o => by rw [List.cons_append, begsAt, begsAt_snoc r t, begsAt, strm_cons, List.length_append, List.cons_append, Nat.add_assoc]

theorem begsAt_get : ∀ (rs : List RecT) (o i : Nat), i < rs.length → (begsAt o rs)[i]? = some (o + (strm (rs.take i)).length)
  | [], _, _, h => by simp at h
  | q :: t, o, 0, _ => by simp [begsAt, strm_nil]
  | q :: t, o, i + 1, h => by
    rw [begsAt, List.getElem?_cons_succ, begsAt_get t _ i (by simpa using h), List.take_succ_cons, strm_cons, List.length_append, Nat.add_assoc]

theorem strm_lt {rs : List RecT} (h : ∀ r ∈ rs, RecOk r) : ∀ x ∈ strm rs, x < 256 := by
  intro x hx
  unfold strm at hx
  obtain ⟨r, hr, hx⟩ := List.mem_flatMap.1 hx
  have h1 := h r hr
  unfold recL at hx
  rcases List.mem_cons.1 hx with hx | hx
  · have := h1.2.1; omega
  · rcases List.mem_append.1 hx with hx | hx
    · have : r.2.length ≤ 1200 := h1.2.2.1
      by_cases h2 : r.2.length < 128
      · rw [putL_last _ h2] at hx; simp at hx; omega
      · rw [putL_more _ h2, putL_last _ (by omega)] at hx
        simp at hx; omega
    · exact h1.2.2.2 x hx

theorem recL_two (r : RecT) : 2 ≤ (recL r.1 r.2).length := by rw [recL_len]; have := putL_pos r.2.length; omega

theorem strm_ge : ∀ rs : List RecT, 2 * rs.length ≤ (strm rs).length
  | [] => by simp [strm]
  | r :: t => by rw [strm_cons, List.length_append, List.length_cons]; have := strm_ge t; have := recL_two r; omega

theorem strm_take_le (rs : List RecT) (i : Nat) : (strm (rs.take i)).length ≤ (strm rs).length := by
  have h : strm rs = strm (rs.take i) ++ strm (rs.drop i) := by rw [← strm_append, List.take_append_drop]
  rw [h, List.length_append]; omega

theorem strm_take (rs : List RecT) (i : Nat) : (strm rs).take (strm (rs.take i)).length = strm (rs.take i) := by
  have h : strm rs = strm (rs.take i) ++ strm (rs.drop i) := by rw [← strm_append, List.take_append_drop]
  rw [h, List.take_left]

theorem whole_le : ∀ (rs : List RecT) (j : Nat), whole rs j ≤ rs.length
  | [], _ => by simp [whole]
  | r :: t, j => by
    rw [whole]
    split
    · have := whole_le t (j - (recL r.1 r.2).length); rw [List.length_cons]; omega
    · omega

theorem whole_fit : ∀ (rs : List RecT) (j : Nat), (strm (rs.take (whole rs j))).length ≤ j
  | [], j => by simp [whole, strm]
  | r :: t, j => by
    rw [whole]
    split
    · rename_i h
      rw [List.take_succ_cons, strm_cons, List.length_append]
      have := whole_fit t (j - (recL r.1 r.2).length); omega
    · simp [strm]

theorem whole_ge : ∀ (rs : List RecT) (j i : Nat), i ≤ rs.length → (strm (rs.take i)).length ≤ j → i ≤ whole rs j
  | [], j, i, h, _ => by have : i = 0 := by simpa using h
                         omega
  | r :: t, j, 0, _, _ => Nat.zero_le _
  | r :: t, j, i + 1, h, h2 => by
    rw [List.take_succ_cons, strm_cons, List.length_append] at h2
    rw [whole, if_pos (by omega)]
    have := whole_ge t (j - (recL r.1 r.2).length) i (by simpa using h) (by omega)
    omega

theorem whole_all (rs : List RecT) (j : Nat) (h : (strm rs).length ≤ j) : whole rs j = rs.length := by
  have h1 := whole_ge rs j rs.length (Nat.le_refl _) (by rw [List.take_length]; exact h)
  have h2 := whole_le rs j
  omega

theorem getD_mid (a r : List Nat) (k : Nat) : (a ++ k :: r).getD a.length 0 = k := by simp [List.getD]

/-- What is found in a beginning of a stream. -/
theorem scan_strm : ∀ (rs : List RecT) (a : List Nat) (j n : Nat), (∀ r ∈ rs, RecOk r) → whole rs j < n → j ≤ (strm rs).length →
    scan (a ++ (strm rs).take j) n a.length = (begsAt a.length (rs.take (whole rs j)), a.length + (strm (rs.take (whole rs j))).length)
  | [], a, j, n + 1, _, _, hj => by
    have hj0 : j = 0 := by simpa [strm] using hj
    subst hj0
    rw [scan, if_neg (by simp [strm])]
    simp [whole, begsAt, strm]
  | r :: t, a, j, n + 1, hok, hn, hj => by
    have h1 := hok r (by simp)
    rw [whole] at hn
    rw [scan, whole]
    by_cases hl : (recL r.1 r.2).length ≤ j
    · have e : a ++ (strm (r :: t)).take j = a ++ recL r.1 r.2 ++ (strm t).take (j - (recL r.1 r.2).length) := by
        rw [strm_cons, List.take_append, List.take_of_length_le hl, List.append_assoc]
      have ht := textA_rec a ((strm t).take (j - (recL r.1 r.2).length)) r.1 r.2 h1.2.2.1
      rw [e, ht]
      have h2 := recL_two r
      have hk : 1 ≤ (a ++ recL r.1 r.2 ++ (strm t).take (j - (recL r.1 r.2).length)).getD a.length 0 := by
        rw [List.append_assoc]
        unfold recL
        rw [List.cons_append, getD_mid]
        exact h1.1
      rw [if_pos ⟨by simp; omega, hk, rfl⟩, if_pos hl]
      have ih := scan_strm t (a ++ recL r.1 r.2) (j - (recL r.1 r.2).length) n (fun q hq => hok q (by simp [hq])) (by rw [if_pos hl] at hn; omega) (by rw [strm_cons, List.length_append] at hj; omega)
      rw [List.length_append] at ih
      rw [ih, List.take_succ_cons, begsAt, strm_cons, List.length_append, Nat.add_assoc]
    · have e : a ++ (strm (r :: t)).take j = a ++ (recL r.1 r.2).take j := by
        rw [strm_cons, List.take_append_of_le_length (by omega)]
      rw [e, if_neg (fun h => textA_cut a r.1 r.2 h1.2.2.1 j (by omega) h.2.2), if_neg hl]
      simp [begsAt, strm]

/-- The records end within the stream, and each begins ahead of the end. -/
theorem textA_next (l : List Nat) (at_ : Int) (h : (textA l at_ 1200).2.2 = 0) : at_ < ((textA l at_ 1200).2.1 : Int) ∧ (textA l at_ 1200).2.1 ≤ l.length := by
  obtain ⟨ru, rn, re, hr⟩ : ∃ ru rn re, getA l at_ = (ru, rn, re) := ⟨_, _, _, rfl⟩
  unfold textA at h ⊢
  rw [hr] at h ⊢
  by_cases h0 : re = 0
  · subst h0
    obtain ⟨h1, h2, h3⟩ := getA_next l at_ ru rn hr
    simp only [ne_eq, not_true, if_false] at h ⊢
    by_cases h4 : max (1200 : Int) 0 < (ru : Int)
    · rw [if_pos h4] at h; simp at h
    · rw [if_neg h4] at h ⊢
      by_cases h5 : l.length - rn < ru
      · rw [if_pos h5] at h; simp at h
      · rw [if_neg h5]
        dsimp only
        omega
  · rw [if_pos (by simpa using h0)] at h
    exact absurd h h0

theorem scan_ok (st : List Nat) : ∀ (n a : Nat), a ≤ st.length → a ≤ (scan st n a).2 ∧ (scan st n a).2 ≤ st.length ∧ (scan st n a).1.length ≤ (scan st n a).2 - a ∧ ∀ b ∈ (scan st n a).1, a ≤ b ∧ b < (scan st n a).2
  | 0, a, h => by simp [scan]; exact h
  | n + 1, a, h => by
    rw [scan]
    split
    · rename_i hc
      obtain ⟨c1, c2, c3⟩ := hc
      have ht := textA_next st ((a : Int) + 1) c3
      obtain ⟨h1, h2, h3, h4⟩ := scan_ok st n (textA st ((a : Int) + 1) 1200).2.1 ht.2
      refine ⟨by dsimp only; omega, h2, by dsimp only; rw [List.length_cons]; omega, fun b hb => ?_⟩
      dsimp only at hb ⊢
      rcases List.mem_cons.1 hb with hb | hb
      · omega
      · have := h4 b hb; omega
    · simp; omega

end Go.Proofs.YtbagmmncjmbboaaGreat

/-
  A log's sectors in plain words: what a sector that was written tells, and what is read of sectors each of which is old or new. No walk.
-/
namespace Go.Proofs.YtbagmmncjmbboaaGreat
open Go.RowKit Go.Maps
set_option linter.unusedVariables false

theorem sum4_len (c : Nat) : (sumBytes c).length = 4 := rfl

theorem secL_form (run : Nat) (part : List Nat) : secL run part = sumBytes (crcSum (secB run part)) ++ secB run part := rfl

theorem secL_drop4 (run : Nat) (part : List Nat) : (secL run part).drop 4 = secB run part := by rw [secL_form, List.drop_left' (sum4_len _)]

theorem secL_run {run : Nat} {part : List Nat} (h : run < 18446744073709551616) : runOf (secL run part) = run := by
  unfold runOf
  rw [secL_drop4]
  have e : secB run part = digits run 8 ++ (digits part.length 2 ++ part ++ List.replicate (498 - part.length) 0) := by unfold secB; simp
  rw [e, List.take_left' (digits_len _ _)]
  exact leV_digits_of (by rw [show (256 : Nat) ^ 8 = 18446744073709551616 by decide]; exact h)

theorem secL_used {run : Nat} {part : List Nat} (h : part.length ≤ 498) : usedOf (secL run part) = part.length := by
  unfold usedOf
  rw [show (12 : Nat) = 4 + 8 by rfl, ← List.drop_drop, secL_drop4]
  have e : secB run part = digits run 8 ++ (digits part.length 2 ++ (part ++ List.replicate (498 - part.length) 0)) := by unfold secB; simp
  rw [e, List.drop_left' (digits_len _ _), List.take_left' (digits_len _ _)]
  exact leV_digits_of (by rw [show (256 : Nat) ^ 2 = 65536 by decide]; omega)

theorem secL_drop14 (run : Nat) (part : List Nat) : (secL run part).drop 14 = part ++ List.replicate (498 - part.length) 0 := by
  rw [show (14 : Nat) = 4 + (8 + 2) by rfl, ← List.drop_drop, secL_drop4, ← List.drop_drop]
  have e : secB run part = digits run 8 ++ (digits part.length 2 ++ (part ++ List.replicate (498 - part.length) 0)) := by unfold secB; simp
  rw [e, List.drop_left' (digits_len _ _), List.drop_left' (digits_len _ _)]

theorem secL_part {run : Nat} {part : List Nat} (h : part.length ≤ 498) : partOf (secL run part) = part := by
  unfold partOf
  rw [secL_used h, secL_drop14, List.take_left]

theorem secL_log {run : Nat} {part : List Nat} (h : part.length ≤ 498) (h1 : 1 ≤ run) (h2 : run ≤ 274877906944) : isLog (secL run part) := by
  refine ⟨by rw [secL_run (by omega)]; exact h1, by rw [secL_run (by omega)]; exact h2, by rw [secL_used h]; exact h, ?_, ?_⟩
  · unfold openOk
    rw [decide_eq_true_eq]
    refine ⟨by rw [secL_form, List.length_append, sum4_len]; omega, ?_⟩
    rw [secL_drop4, secL_form, List.take_left' (sum4_len _)]
  · intro j x hj hx
    rw [secL_used h] at hj
    have hx2 : ((secL run part).drop 14)[j - 14]? = some x := by rw [List.getElem?_drop, show 14 + (j - 14) = j by omega]; exact hx
    rw [secL_drop14, List.getElem?_append_right (by omega), List.getElem?_replicate] at hx2
    split at hx2
    · injection hx2 with e; exact e.symm
    · cases hx2

theorem sec_run {run : Nat} {part : List Nat} (h : part.length ≤ 498) (h1 : 1 ≤ run) (h2 : run ≤ 274877906944) : secRun (secL run part) = run := by rw [secRun_yes (secL_log h h1 h2), secL_run (by omega)]

theorem sec_part {run : Nat} {part : List Nat} (h : part.length ≤ 498) (h1 : 1 ≤ run) (h2 : run ≤ 274877906944) : secPart (secL run part) = part := by rw [secPart_yes (secL_log h h1 h2), secL_part h]

theorem sect_len (run : Nat) (st : List Nat) (i : Nat) : ((st.drop (i * 498)).take 498).length ≤ 498 := by rw [List.length_take]; omega

theorem isLog_of_run {b : List Nat} (h : 1 ≤ secRun b) : isLog b := by
  by_cases hb : isLog b
  · exact hb
  · rw [secRun_no hb] at h; omega

/-- The k-th piece of a stream. -/
def pieceOf (st : List Nat) (k : Nat) : List Nat := (st.drop (k * 498)).take 498

theorem sect_pieceOf (run : Nat) (st : List Nat) (k : Nat) : sect run st k = secL run (pieceOf st k) := rfl

/-- A sector of a log of run R, its first f bytes being safe: it bears the stream's piece, or what was safe of it, or nothing of this run. -/
def Sec3 (st : List Nat) (f R : Nat) (b : List Nat) (k : Nat) : Prop :=
  (secRun b = R ∧ secPart b = pieceOf st k ∧ (k = 0 ∨ k * 498 < st.length)) ∨
  (secRun b = R ∧ secPart b = pieceOf (st.take f) k ∧ k * 498 ≤ f ∧ f < (k + 1) * 498 ∧ (k = 0 ∨ k * 498 < f)) ∨
  (secRun b ≠ R ∧ 1 ≤ k ∧ f ≤ k * 498)

theorem pieceOf_len (st : List Nat) (k : Nat) : (pieceOf st k).length = min 498 (st.length - k * 498) := by unfold pieceOf; rw [List.length_take, List.length_drop]

theorem take_piece_next (st : List Nat) (k : Nat) : st.take (k * 498) ++ pieceOf st k = st.take ((k + 1) * 498) := by
  unfold pieceOf
  rw [show (k + 1) * 498 = k * 498 + 498 by omega, List.take_add]

/-- What is read of the first n sectors. -/
def ReadSt (st : List Nat) (f R n : Nat) (x : RS) : Prop := ∃ j, x.st = st.take j ∧ j ≤ st.length ∧ (x.goes = true → j = n * 498) ∧ (x.goes = false → f ≤ j) ∧ (1 ≤ n → x.run = R)

theorem read_step {st : List Nat} {f R n : Nat} {x : RS} (hf : f ≤ st.length) (h : ReadSt st f R n x) (b : List Nat) (hb : Sec3 st f R b n) : ReadSt st f R (n + 1) (x.step (n == 0) b) := by
  obtain ⟨j, h1, h2, h3, h4, h5⟩ := h
  have hrun : (if (n == 0) = true then secRun b else x.run) = R := by
    by_cases hn : n = 0
    · subst hn
      rw [if_pos (by rfl)]
      rcases hb with h | h | h
      · exact h.1
      · exact h.1
      · omega
    · rw [if_neg (by simpa using hn)]; exact h5 (by omega)
  unfold RS.step
  dsimp only
  rw [hrun]
  cases hg : x.goes with
  | false =>
    refine ⟨j, ?_, h2, fun e => by simp at e, fun _ => h4 hg, fun _ => rfl⟩
    simp [h1]
  | true =>
    have hj := h3 hg
    rw [hj] at h1 h2
    rcases hb with ⟨b1, b2, b3⟩ | ⟨b1, b2, b3, b4, b5⟩ | ⟨b1, b2, b3⟩
    · have hl := pieceOf_len st n
      refine ⟨min ((n + 1) * 498) st.length, ?_, by omega, ?_, ?_, fun _ => rfl⟩
      · dsimp only
        rw [Bool.true_and, b1, if_pos (by simp), h1, b2, take_piece_next]
        by_cases h6 : (n + 1) * 498 ≤ st.length
        · rw [Nat.min_eq_left h6]
        · rw [Nat.min_eq_right (by omega), List.take_of_length_le (by omega), List.take_of_length_le (Nat.le_refl _)]
      · intro e
        dsimp only at e
        simp only [Bool.true_and, Bool.and_eq_true, decide_eq_true_eq, b2] at e
        omega
      · intro e
        dsimp only at e
        rw [Bool.true_and, b1] at e
        simp only [decide_true, Bool.true_and, decide_eq_false_iff_not, b2] at e
        omega
    · have hl := pieceOf_len (st.take f) n
      rw [List.length_take] at hl
      refine ⟨f, ?_, hf, ?_, fun _ => Nat.le_refl _, fun _ => rfl⟩
      · dsimp only
        rw [Bool.true_and, b1, if_pos (by simp), h1, b2]
        have e : st.take (n * 498) = (st.take f).take (n * 498) := by rw [List.take_take, Nat.min_eq_left b3]
        rw [e, take_piece_next, List.take_of_length_le (by rw [List.length_take]; omega)]
      · intro e
        dsimp only at e
        simp only [Bool.true_and, Bool.and_eq_true, decide_eq_true_eq, b2] at e
        omega
    · refine ⟨n * 498, ?_, h2, ?_, fun _ => by omega, fun _ => rfl⟩
      · dsimp only
        rw [Bool.true_and, if_neg (by simpa using b1), h1]
      · intro e
        dsimp only at e
        simp only [Bool.true_and, Bool.and_eq_true, decide_eq_true_eq] at e
        exact absurd e.1 b1

theorem read_upto {st : List Nat} {f R : Nat} (hf : f ≤ st.length) (s : DS) (first : Nat) : ∀ n, (∀ k, k < n → Sec3 st f R (s.has (first + k)) k) → ReadSt st f R n (RS.upto s first n)
  | 0, _ => ⟨0, by simp [RS.upto], Nat.zero_le _, by simp, by simp [RS.upto], by omega⟩
  | n + 1, h => read_step hf (read_upto hf s first n (fun k hk => h k (by omega))) _ (h n (by omega))

theorem read_all {st : List Nat} {f R count : Nat} (hf : f ≤ st.length) (hst : st.length ≤ count * 498) (hc : 1 ≤ count) (s : DS) (first : Nat) (h : ∀ k, k < count → Sec3 st f R (s.has (first + k)) k) :
    ∃ j, (RS.upto s first count).st = st.take j ∧ f ≤ j ∧ j ≤ st.length ∧ (RS.upto s first count).run = R := by
  obtain ⟨j, h1, h2, h3, h4, h5⟩ := read_upto hf s first count h
  refine ⟨j, h1, ?_, h2, h5 hc⟩
  cases hg : (RS.upto s first count).goes with
  | false => exact h4 hg
  | true => have := h3 hg; omega

/-- The greatest run of the sectors. -/
theorem upto_most (s : DS) (first : Nat) : ∀ n, (∀ k, k < n → secRun (s.has (first + k)) ≤ (RS.upto s first n).most) ∧ ∀ M, (∀ k, k < n → secRun (s.has (first + k)) ≤ M) → (RS.upto s first n).most ≤ M
  | 0 => ⟨by omega, fun M _ => by simp [RS.upto]⟩
  | n + 1 => by
    obtain ⟨h1, h2⟩ := upto_most s first n
    have e : (RS.upto s first (n + 1)).most = max (RS.upto s first n).most (secRun (s.has (first + n))) := rfl
    refine ⟨fun k hk => ?_, fun M hM => ?_⟩
    · rw [e]
      by_cases hkn : k = n
      · subst hkn; omega
      · have := h1 k (by omega); omega
    · rw [e]
      have := h2 M (fun k hk => hM k (by omega))
      have := hM n (by omega)
      omega

end Go.Proofs.YtbagmmncjmbboaaGreat

/-
  Saving a stream, in plain words: what the sectors are behind it, when it fails, how many steps it takes. No walk.
-/
namespace Go.Proofs.YtbagmmncjmbboaaGreat
open Go.RowKit Go.Maps
set_option linter.unusedVariables false

theorem pad_full {l : List Nat} (h : l.length = 512) : pad l = l := by unfold pad; rw [h]; simp

theorem sect_ok {run : Nat} {st : List Nat} (h : ∀ x ∈ st, x < 256) (k : Nat) : SecOk (sect run st k) := secL_ok (sect_len run st k) (fun x hx => h x (List.mem_of_mem_drop (List.mem_of_mem_take hx)))

/-- P holds of what is safe and of what is there, at each sector. -/
def EachSec (P : Nat → List Nat → Prop) (s : DS) : Prop := ∀ i : Nat, i < s.safe.length → P i (s.safe.getD i []) ∧ P i (s.has i)

section

variable {P : Nat → List Nat → Prop} {s : DS}

theorem EachSec.tick (h : EachSec P s) : EachSec P s.tick := h

theorem EachSec.offed (h : EachSec P s) : EachSec P { s with off := true } := h

theorem has_put (s : DS) (i : Int) (l : List Nat) (k : Nat) : (DS.put i l s).has k = if (k : Int) = i then l else s.has k := by
  unfold DS.has DS.put
  dsimp only
  split <;> rfl

theorem EachSec.put (h : EachSec P s) {i : Int} {l : List Nat} (hl : ∀ n : Nat, (n : Int) = i → P n l) : EachSec P (DS.put i l s) := by
  intro k hk
  refine ⟨(h k hk).1, ?_⟩
  rw [has_put]
  split
  · exact hl k (by assumption)
  · exact (h k hk).2

theorem getD_settle (s : DS) (k : Nat) (hk : k < s.safe.length) : s.settle.safe.getD k [] = s.has k := by
  unfold DS.settle
  simp [List.getD, hk]

theorem len_settle (s : DS) : s.settle.safe.length = s.safe.length := by unfold DS.settle; simp

theorem has_settle (s : DS) (k : Nat) (hk : k < s.safe.length) : s.settle.has k = s.has k := by
  show (none : Option (List Nat)).getD (s.settle.safe.getD k []) = _
  rw [getD_settle s k hk]; rfl

theorem EachSec.settle (h : EachSec P s) : EachSec P s.settle := by
  intro k hk
  rw [len_settle] at hk
  rw [getD_settle s k hk, has_settle s k hk]
  exact ⟨(h k hk).2, (h k hk).2⟩

theorem EachSec.step (h : EachSec P s) {f : DS → DS} (hf : EachSec P (f s.tick)) : EachSec P (s.step f) := by
  unfold DS.step
  split
  · exact h
  · split
    · exact h
    · split
      · exact hf
      · exact hf

theorem EachSec.write (h : EachSec P s) {i : Int} {l : List Nat} (hl : ∀ n : Nat, (n : Int) = i → P n (Proofs.YtbagmmncjmbboaaGreat.pad l)) : EachSec P (s.write i l) := by
  unfold DS.write
  split
  · exact h
  · split
    · exact h
    · split
      · exact h
      · exact h.step (h.tick.put hl)

theorem EachSec.sync (h : EachSec P s) : EachSec P s.sync := by
  unfold DS.sync
  split
  · exact h
  · exact h.step h.tick.settle

theorem EachSec.on (h : EachSec P s) (K : List Int) : EachSec P (s.on K) := by
  intro k hk
  have hk2 : k < s.safe.length := by unfold DS.on at hk; simpa using hk
  have e : (s.on K).safe.getD k [] = if K.contains (k : Int) then s.has k else s.safe.getD k [] := by
    unfold DS.on
    simp [List.getD, hk2]
  have e2 : (s.on K).has k = (s.on K).safe.getD k [] := rfl
  rw [e2, e]
  split
  · exact ⟨(h k hk2).2, (h k hk2).2⟩
  · exact ⟨(h k hk2).1, (h k hk2).1⟩

theorem EachSec.mono {Q : Nat → List Nat → Prop} (h : EachSec P s) (hq : ∀ i b, i < s.safe.length → P i b → Q i b) : EachSec Q s := fun i hi => ⟨hq i _ hi (h i hi).1, hq i _ hi (h i hi).2⟩

theorem len_step (s : DS) (f : DS → DS) (hf : (f s.tick).safe.length = s.safe.length) : (s.step f).safe.length = s.safe.length := by
  unfold DS.step
  split
  · rfl
  · split
    · rfl
    · split
      · exact hf
      · exact hf

theorem len_write (s : DS) (i : Int) (l : List Nat) : (s.write i l).safe.length = s.safe.length := by
  unfold DS.write
  split
  · rfl
  · split
    · rfl
    · split
      · rfl
      · exact len_step s _ rfl

theorem len_sync (s : DS) : s.sync.safe.length = s.safe.length := by
  unfold DS.sync
  split
  · rfl
  · exact len_step s _ (len_settle s.tick)

theorem plan_step (s : DS) (f : DS → DS) (hf : (f s.tick).plan = s.plan) : (s.step f).plan = s.plan := by
  unfold DS.step
  split
  · rfl
  · split
    · rfl
    · split
      · exact hf
      · exact hf

theorem plan_write (s : DS) (i : Int) (l : List Nat) : (s.write i l).plan = s.plan := by
  unfold DS.write
  split
  · rfl
  · split
    · rfl
    · split
      · rfl
      · exact plan_step s _ rfl

theorem plan_sync (s : DS) : s.sync.plan = s.plan := by
  unfold DS.sync
  split
  · rfl
  · exact plan_step s _ rfl

theorem step_ok {f : DS → DS} (h : s.code = 0) : s.step f = f s.tick := by
  unfold DS.code at h
  unfold DS.step
  split at h
  · omega
  · split at h
    · omega
    · split at h
      · omega
      · rw [if_neg ‹_›, if_neg ‹_›, if_neg ‹_›]

theorem code_fate (h : s.code ≠ 0) : s.fate = 1 ∨ s.fate = 2 ∨ s.fate = 3 := by
  unfold DS.code at h
  split at h
  · exact .inl ‹_›
  · split at h
    · exact .inr (.inl ‹_›)
    · split at h
      · exact .inr (.inr ‹_›)
      · exact absurd rfl h

theorem step_stepsW (s : DS) (f : DS → DS) (hf : (f s.tick).steps = s.steps + 1) : (s.step f).steps = s.steps + 1 := by
  unfold DS.step
  split
  · rfl
  · split
    · rfl
    · split
      · exact hf
      · exact hf

end

section

variable {s : DS} {run first k : Nat} {st : List Nat}

/-- A sector of the stream is written: the disk is on, the sector is there. -/
theorem writeE_sect (hoff : s.off = false) (hst : ∀ x ∈ st, x < 256) (hk : first + k < s.safe.length) : s.writeE ((first : Int) + (k : Int)) (sect run st k) = s.code ∧ s.write ((first : Int) + (k : Int)) (sect run st k) = s.step (DS.put ((first : Int) + (k : Int)) (sect run st k)) := by
  have h1 := sect_ok (run := run) hst k
  have h2 : s.isSec ((first : Int) + (k : Int)) = true := by unfold DS.isSec; simp; omega
  unfold DS.writeE DS.write
  rw [hoff, h2, h1.1, pad_full h1.1]
  exact ⟨by simp, by simp⟩

theorem sync_on (hoff : s.off = false) : s.syncE = s.code ∧ s.sync = s.step DS.settle := by
  unfold DS.syncE DS.sync
  rw [hoff]
  exact ⟨by simp, by simp⟩

set_option maxRecDepth 100000 in
theorem EachSec.save {P : Nat → List Nat → Prop} (hst : ∀ x ∈ st, x < 256) : ∀ (n k : Nat) (s : DS), (∀ i, (i = k ∨ i * 498 < st.length) → P (first + i) (sect run st i)) → EachSec P s → EachSec P (DS.save run first st n k s).1
  | 0, _, s, _, h => h
  | n + 1, k, s, hP, h => by
    have h1 : EachSec P (s.write ((first : Int) + (k : Int)) (sect run st k)) := h.write (fun i hi => by
      rw [pad_full (sect_ok hst k).1]
      have : i = first + k := by omega
      rw [this]; exact hP k (.inl rfl))
    simp only [DS.save]
    split
    · split
      · exact h1.sync
      · rename_i h2
        exact EachSec.save hst n (k + 1) _ (fun i hi => hP i (.inr (by rcases hi with hi | hi; (subst hi; omega); exact hi))) h1
    · exact h1

theorem len_save (first : Int) : ∀ (n k : Nat) (s : DS), (DS.save run first st n k s).1.safe.length = s.safe.length
  | 0, _, s => rfl
  | n + 1, k, s => by
    simp only [DS.save]
    split
    · split
      · exact (len_sync _).trans (len_write _ _ _)
      · exact (len_save first n (k + 1) _).trans (len_write _ _ _)
    · exact len_write _ _ _

theorem plan_save (first : Int) : ∀ (n k : Nat) (s : DS), (DS.save run first st n k s).1.plan = s.plan
  | 0, _, s => rfl
  | n + 1, k, s => by
    simp only [DS.save]
    split
    · split
      · exact (plan_sync _).trans (plan_write _ _ _)
      · exact (plan_save first n (k + 1) _).trans (plan_write _ _ _)
    · exact plan_write _ _ _

set_option maxRecDepth 100000 in
theorem steps_save (first : Int) : ∀ (c n k : Nat) (s : DS), st.length ≤ (k + c) * 498 → 1 ≤ c → (DS.save run first st n k s).1.steps ≤ s.steps + c + 1
  | 0, _, _, _, _, h => by omega
  | c + 1, 0, k, s, _, _ => by show s.steps ≤ _; omega
  | c + 1, n + 1, k, s, h, _ => by
    have h1 := write_steps5 s (first + (k : Int)) (sect run st k)
    simp only [DS.save]
    split
    · split
      · have h2 : (s.write (first + (k : Int)) (sect run st k)).sync.steps ≤ (s.write (first + (k : Int)) (sect run st k)).steps + 1 := by
          unfold DS.sync
          split
          · omega
          · rw [step_stepsW _ _ rfl]; omega
        dsimp only
        omega
      · rename_i h3
        have h4 := steps_save first c n (k + 1) (s.write (first + (k : Int)) (sect run st k)) (by rw [show k + 1 + c = k + (c + 1) by omega]; exact h) (by
          by_cases hc : c = 0
          · subst hc; omega
          · omega)
        omega
    · dsimp only; omega

/-- A save that went well. -/
structure SaveOk (run first : Nat) (st : List Nat) (k : Nat) (s s' : DS) : Prop where
  off : s'.off = false
  pend : s'.pend = fun _ => none
  new : ∀ i : Nat, i < s.safe.length → (i = first + k ∨ (first + k < i ∧ (i - first) * 498 < st.length)) → s'.safe.getD i [] = sect run st (i - first)
  old : ∀ i : Nat, i < s.safe.length → ¬ (i = first + k ∨ (first + k < i ∧ (i - first) * 498 < st.length)) → s'.safe.getD i [] = s.has i
  steps : s.steps + 2 ≤ s'.steps

set_option maxRecDepth 100000 in
theorem save_well (hst : ∀ x ∈ st, x < 256) : ∀ (n k : Nat) (s : DS), s.off = false → 1 ≤ n → st.length ≤ (k + n) * 498 → (st.length ≤ (k + 1) * 498 ∨ k * 498 < st.length) → (∀ i, (i = k ∨ i * 498 < st.length) → first + i < s.safe.length) → (DS.save run first st n k s).2 = 0 → SaveOk run first st k s (DS.save run first st n k s).1
  | 0, _, _, _, h, _, _, _, _ => by omega
  | n + 1, k, s, hoff, _, hfu, hk, hfit, he => by
    obtain ⟨w1, w2⟩ := writeE_sect (run := run) (first := first) hoff hst (hfit k (.inl rfl))
    by_cases hw : s.writeE ((first : Int) + (k : Int)) (sect run st k) = 0
    · have hs1 : s.write ((first : Int) + (k : Int)) (sect run st k) = DS.put ((first : Int) + (k : Int)) (sect run st k) s.tick := by rw [w2]; exact step_ok (by rw [← w1]; exact hw)
      obtain ⟨s1, hs⟩ : ∃ s1, s1 = s.write ((first : Int) + (k : Int)) (sect run st k) := ⟨_, rfl⟩
      have o1 : s1.off = false := by rw [hs, hs1]; exact hoff
      have t1 : s1.steps = s.steps + 1 := by rw [hs, hs1]; rfl
      have l1 : s1.safe.length = s.safe.length := by rw [hs, hs1]; rfl
      have h1 : ∀ i : Nat, s1.has i = if i = first + k then sect run st k else s.has i := by
        intro i
        rw [hs, hs1, has_put]
        by_cases hi : i = first + k
        · rw [if_pos (by omega), if_pos hi]
        · rw [if_neg (by omega), if_neg hi]; rfl
      by_cases hend : st.length ≤ (k + 1) * 498
      · rw [save_last hw hend, ← hs] at he ⊢
        dsimp only at he ⊢
        obtain ⟨y1, y2⟩ := sync_on o1
        have hy : s1.sync = s1.tick.settle := by rw [y2]; exact step_ok (by rw [← y1]; exact he)
        have hg : ∀ i : Nat, i < s.safe.length → s1.sync.safe.getD i [] = s1.has i := fun i hi => by rw [hy]; exact getD_settle s1.tick i (by rw [← l1] at hi; exact hi)
        refine ⟨by rw [hy]; exact o1, by rw [hy]; rfl, ?_, ?_, by rw [hy]; show _ ≤ s1.steps + 1; omega⟩
        · intro i hi hc
          have e : i = first + k := by
            rcases hc with hc | ⟨hc, hc2⟩
            · exact hc
            · have : (k + 1) * 498 ≤ (i - first) * 498 := Nat.mul_le_mul_right _ (by omega)
              omega
          rw [hg i hi, h1, if_pos e, e, Nat.add_sub_cancel_left]
        · intro i hi hc
          rw [hg i hi, h1, if_neg (fun e => hc (.inl e))]
      · rw [save_next hw hend, ← hs] at he ⊢
        have ih := save_well hst n (k + 1) s1 o1 (by
          by_cases hn : n = 0
          · subst hn; omega
          · omega) (by rw [show k + 1 + n = k + (n + 1) by omega]; exact hfu) (.inr (by omega)) (fun i hi => by
            rw [l1]
            exact hfit i (.inr (by rcases hi with hi | hi; (subst hi; omega); exact hi))) he
        refine ⟨ih.off, ih.pend, ?_, ?_, by have := ih.steps; omega⟩
        · intro i hi hc
          by_cases hi2 : i = first + k
          · rw [ih.old i (by omega) (by omega), h1, if_pos hi2, hi2, Nat.add_sub_cancel_left]
          · have hc2 : first + k < i ∧ (i - first) * 498 < st.length := by rcases hc with hc | hc; (exact absurd hc hi2); exact hc
            by_cases hi3 : i = first + (k + 1)
            · exact ih.new i (by omega) (.inl hi3)
            · exact ih.new i (by omega) (.inr ⟨by omega, hc2.2⟩)
        · intro i hi hc
          have hne : ¬ (i = first + (k + 1) ∨ (first + (k + 1) < i ∧ (i - first) * 498 < st.length)) := by
            rintro (h | ⟨h, h2⟩)
            · refine hc (.inr ⟨by omega, ?_⟩)
              rw [h, Nat.add_sub_cancel_left]; omega
            · exact hc (.inr ⟨by omega, h2⟩)
          rw [ih.old i (by omega) hne, h1, if_neg (fun e => hc (.inl e))]
    · rw [save_fail hw] at he
      exact absurd he hw

set_option maxRecDepth 100000 in
/-- A disk whose plan has one fate, at step X; the disk is on. -/
theorem save_hit (hst : ∀ x ∈ st, x < 256) (X : Nat) (q : Int) (hq : 1 ≤ q ∧ q ≤ 3) : ∀ (n k : Nat) (s : DS), s.off = false → (∀ j : Int, s.plan j = if j = (X : Int) then q else 0) → 1 ≤ n → st.length ≤ (k + n) * 498 → (∀ i, (i = k ∨ i * 498 < st.length) → first + i < s.safe.length) →
    ((DS.save run first st n k s).2 ≠ 0 ↔ s.steps < X ∧ X ≤ (DS.save run first st n k s).1.steps)
  | 0, _, _, _, _, h, _, _ => by omega
  | n + 1, k, s, hoff, hpl, _, hfu, hfit => by
    obtain ⟨w1, w2⟩ := writeE_sect (run := run) (first := first) hoff hst (hfit k (.inl rfl))
    have hf : ∀ s : DS, (∀ j : Int, s.plan j = if j = (X : Int) then q else 0) → ((s.code ≠ 0 ↔ s.steps + 1 = X)) := by
      intro s hp
      have e : s.fate = if s.steps + 1 = X then q else 0 := by
        unfold DS.fate
        rw [hp]
        by_cases h : s.steps + 1 = X
        · rw [if_pos (by omega), if_pos h]
        · rw [if_neg (by omega), if_neg h]
      constructor
      · intro h
        rcases code_fate h with h | h | h <;> (rw [e] at h; split at h <;> first | assumption | omega)
      · intro h
        rw [if_pos h] at e
        unfold DS.code
        rw [e]
        split
        · simp
        · split
          · simp
          · split
            · simp
            · omega
    have hws : (s.write ((first : Int) + (k : Int)) (sect run st k)).steps = s.steps + 1 := by rw [w2, step_stepsW _ _ rfl]
    by_cases hw : s.writeE ((first : Int) + (k : Int)) (sect run st k) = 0
    · have hX : s.steps + 1 ≠ X := fun h => ((hf s hpl).2 h) (by rw [← w1]; exact hw)
      have hs1 : s.write ((first : Int) + (k : Int)) (sect run st k) = DS.put ((first : Int) + (k : Int)) (sect run st k) s.tick := by rw [w2]; exact step_ok (by rw [← w1]; exact hw)
      obtain ⟨s1, hs⟩ : ∃ s1, s1 = s.write ((first : Int) + (k : Int)) (sect run st k) := ⟨_, rfl⟩
      have o1 : s1.off = false := by rw [hs, hs1]; exact hoff
      have l1 : s1.safe.length = s.safe.length := by rw [hs, hs1]; rfl
      have p1 : ∀ j : Int, s1.plan j = if j = (X : Int) then q else 0 := by rw [hs, hs1]; exact hpl
      rw [← hs] at hws
      by_cases hend : st.length ≤ (k + 1) * 498
      · rw [save_last hw hend, ← hs]
        dsimp only
        obtain ⟨y1, y2⟩ := sync_on o1
        rw [y1, y2, step_stepsW _ _ rfl, hf s1 p1]
        omega
      · rw [save_next hw hend, ← hs]
        have ih := save_hit hst X q hq n (k + 1) s1 o1 p1 (by
          by_cases hn : n = 0
          · subst hn; omega
          · omega) (by rw [show k + 1 + n = k + (n + 1) by omega]; exact hfu) (fun i hi => by
            rw [l1]
            exact hfit i (.inr (by rcases hi with hi | hi; (subst hi; omega); exact hi)))
        rw [ih]
        omega
    · rw [save_fail hw]
      dsimp only
      rw [hws]
      have := (hf s hpl).1 (by rw [← w1]; exact hw)
      constructor
      · intro _; omega
      · intro _; exact hw

set_option maxRecDepth 100000 in
theorem save_clean (hst : ∀ x ∈ st, x < 256) : ∀ (n k : Nat) (s : DS), Clean s → (∀ i, (i = k ∨ i * 498 < st.length) → first + i < s.safe.length) → (DS.save run first st n k s).2 = 0
  | 0, _, _, _, _ => rfl
  | n + 1, k, s, hc, hfit => by
    obtain ⟨w1, w2⟩ := writeE_sect (run := run) (first := first) hc.off hst (hfit k (.inl rfl))
    have hw : s.writeE ((first : Int) + (k : Int)) (sect run st k) = 0 := w1.trans hc.code
    have hs1 : s.write ((first : Int) + (k : Int)) (sect run st k) = DS.put ((first : Int) + (k : Int)) (sect run st k) s.tick := by rw [w2]; exact step_ok hc.code
    have c1 : Clean (s.write ((first : Int) + (k : Int)) (sect run st k)) := by rw [hs1]; exact ⟨hc.plan, hc.off⟩
    by_cases hend : st.length ≤ (k + 1) * 498
    · rw [save_last hw hend]
      exact c1.sync.1
    · rw [save_next hw hend]
      exact save_clean hst n (k + 1) _ c1 (fun i hi => by
        rw [hs1]
        exact hfit i (.inr (by rcases hi with hi | hi; (subst hi; omega); exact hi)))

end

end Go.Proofs.YtbagmmncjmbboaaGreat

/-
  Maps keyed by numbers and by elements (api.Ref), read as functions: one bundle of laws for both. No walk.
-/
namespace Go.Proofs.YtbagmmncjmbboaaGreat
open Go.RowKit Go.Maps
open Go.ChangeMaps Go.MapKept
set_option linter.unusedVariables false

/-! ### An element as a key -/
/-- An element: is it an edge; its number. -/
structure Rf where
  mk ::
  fst : Bool
  snd : Int

instance : DecidableEq Rf := fun a b => decidable_of_iff (a.fst = b.fst ∧ a.snd = b.snd) (by
  cases a
  cases b
  simp)

def valR (r : Rf) : Value := .agg #[.bool r.fst, .int .i64 r.snd]

def litR (r : Rf) : Lit := .string (keyBytes [.bool r.fst, .int .i64 r.snd])

theorem laidOutM : laidOutB Tryz.prog = true := by kernel_rfl

theorem typesM : ∃ m, Tryz.prog.types.size + 1 = m + 2 := ⟨Tryz.prog.types.size - 1, by have : Tryz.prog.types.size ≠ 0 := of_decide_eq_true (by kernel_rfl); omega⟩

theorem valR_inj {a b : Rf} (h : valR a = valR b) : a = b := by
  obtain ⟨a1, a2⟩ := a
  obtain ⟨b1, b2⟩ := b
  simp only [valR, Value.agg.injEq] at h
  have h' := congrArg Array.toList h
  simp at h'
  simp [h'.1, h'.2]

/-! ### Keys of whatever kind -/

/-- A kind of keys: the type's number, how a key is a value and what it reads as, which keys there are. -/
structure KeyX where
  K : TypeId
  α : Type
  kv : α → Value
  kl : α → Lit
  ok : α → Prop
  keyed : Keyed Tryz.prog K
  key : ∀ {a : α}, ok a → keyOf Tryz.prog K (kv a) = some (kl a)
  inv : ∀ {v : Value} {l : Lit}, keyOf Tryz.prog K v = some l → ∃ a, ok a ∧ v = kv a ∧ l = kl a
  inj : ∀ {a b : α}, kv a = kv b → a = b

theorem invI {v : Value} {l : Lit} (h : keyOf Tryz.prog 3 v = some l) : ∃ a, I64 a ∧ v = .int .i64 a ∧ l = .int .i64 a := by
  obtain ⟨x, rfl, rfl, hwf⟩ := keyOf_int_inv Tryz.underlying3 h
  refine ⟨x, ?_, rfl, rfl⟩
  simp [Lit.wf, IntKind.min, IntKind.max, IntKind.signed, IntKind.bits] at hwf
  unfold I64; omega

/-- Numbers. -/
abbrev kI : KeyX := ⟨3, Int, .int .i64, .int .i64, I64, keyed3, key3, invI, fun h => by injection h⟩

section

variable {X : KeyX} {p : Value → Prop} {w w' : World} {b n : Nat} {f : X.α → Option Value}

theorem KeyX.lit_inj {a c : X.α} (ha : X.ok a) (hc : X.ok c) (h : X.kl a = X.kl c) : a = c := X.inj (X.keyed.inj (X.key ha) (by rw [h]; exact X.key hc))

theorem KeyX.isKey {a : X.α} (ha : X.ok a) : WideAt.IsKeyLit (X.kl a) := X.keyed.key (X.key ha)

theorem KeyX.same [DecidableEq X.α] {a c : X.α} (ha : X.ok a) (hc : X.ok c) : (X.kl a).sameKey (X.kl c) = decide (a = c) := by
  by_cases h : a = c
  · subst h; rw [WideAt.sameKey_self (X.isKey ha)]; simp
  · rw [sameKey_ne (fun e => h (X.lit_inj ha hc e))]; simp [h]

/-- Block b is a map of at most n entries whose values have p; it reads as f. -/
def MapG (X : KeyX) (p : Value → Prop) (w : World) (b n : Nat) (f : X.α → Option Value) : Prop :=
  ∃ D : DataW Value, w.ownsMap Tryz.prog X.K (heldR p) b n D ∧ ∀ a, X.ok a → ∀ z : DataW Value, D.atKey (X.kl a) z = (f a).elim z .held

theorem MapG.lt (h : MapG X p w b n f) : b < w.heap.size := by obtain ⟨D, h1, _⟩ := h; exact h1.lt

theorem MapG.mono {n' : Nat} (h : MapG X p w b n f) (hn : n ≤ n') : MapG X p w b n' f := by obtain ⟨D, h1, h2⟩ := h; exact ⟨D, h1.mono hn, h2⟩

theorem MapG.same (h : MapG X p w b n f) (hb : w'.heap[b]? = w.heap[b]?) : MapG X p w' b n f := by
  obtain ⟨D, ⟨es, clock, h1, r⟩, h2⟩ := h
  exact ⟨D, ⟨es, clock, hb.trans h1, r⟩, h2⟩

theorem MapG.mod {S : Nat → Prop} (h : MapG X p w b n f) (hm : Mod S w w') (hn : ¬ S b) : MapG X p w' b n f := h.same (hm.block b h.lt hn)

theorem MapG.made (w : World) : MapG X p (w.alloc (.map #[] 0)) w.heap.size 0 (fun _ => none) := ⟨_, World.ownsMap_made _ _ _ _, fun _ _ _ => rfl⟩

theorem MapG.cast {f' : X.α → Option Value} (h : MapG X p w b n f) (e : ∀ a, X.ok a → f a = f' a) : MapG X p w b n f' := by
  obtain ⟨D, h1, h2⟩ := h
  exact ⟨D, h1, fun a ha z => by rw [h2 a ha, e a ha]⟩

theorem MapG.has_eq {D : DataW Value} (h2 : ∀ a, X.ok a → ∀ z : DataW Value, D.atKey (X.kl a) z = (f a).elim z .held) {a : X.α} (ha : X.ok a) : Maps.has D (X.kl a) = (f a).isSome := by
  cases hf : f a with
  | none => exact Maps.has_false_of_atKey fun zd => by rw [h2 a ha, hf]; rfl
  | some u => exact Maps.has_true_of_atKey (y := .held u) fun zd => by rw [h2 a ha, hf]; rfl

theorem MapG.look_ok {t e : TypeId} (h : MapG X p w b n f) (ht : Tryz.prog.underlying t = some (.map X.K e)) {z : Value} (hz : (zeroValue e).run Tryz.prog w = .ok z w) (hp : p z) {a : X.α} (ha : X.ok a) :
    (Instr.lookup t (.map (some b)) (X.kv a) true).run Tryz.prog w = .ok (.tuple #[(f a).getD z, .bool (f a).isSome]) w ∧ p ((f a).getD z) := by
  obtain ⟨D, h1, h2⟩ := h
  obtain ⟨v, ps, hrun, hv⟩ := h1.look_ok X.keyed ht hz (heldR_yes hp) (X.key ha)
  obtain ⟨hpv, e1⟩ := heldR_inv hv
  rw [h2 a ha] at e1
  have e2 := congrArg Prod.fst e1
  rw [MapG.has_eq h2 ha] at hrun
  cases hf : f a with
  | none => rw [hf] at e2 hrun; simp at e2; subst e2; exact ⟨hrun, hpv⟩
  | some u => rw [hf] at e2 hrun; simp at e2; subst e2; exact ⟨hrun, hpv⟩

theorem MapG.look {t e : TypeId} (h : MapG X p w b n f) (ht : Tryz.prog.underlying t = some (.map X.K e)) {z : Value} (hz : (zeroValue e).run Tryz.prog w = .ok z w) (hp : p z) {a : X.α} (ha : X.ok a) :
    (Instr.lookup t (.map (some b)) (X.kv a) false).run Tryz.prog w = .ok ((f a).getD z) w := by
  obtain ⟨D, h1, h2⟩ := h
  obtain ⟨v, ps, hrun, hv⟩ := h1.lookup X.keyed ht hz (heldR_yes hp) (X.key ha)
  obtain ⟨hpv, e1⟩ := heldR_inv hv
  rw [h2 a ha] at e1
  have e2 := congrArg Prod.fst e1
  cases hf : f a with
  | none => rw [hf] at e2; simp at e2; subst e2; exact hrun
  | some u => rw [hf] at e2; simp at e2; subst e2; exact hrun

theorem MapG.store [DecidableEq X.α] {t e : TypeId} (h : MapG X p w b n f) (ht : Tryz.prog.underlying t = some (.map X.K e)) (hn : n < 9223372036854775807) {a : X.α} (ha : X.ok a) {v : Value} (hv : p v) :
    ∃ w', (Instr.mapUpdate t (.map (some b)) (X.kv a) v).run Tryz.prog w = .ok () w' ∧ MapG X p w' b (n + 1) (fun c => if c = a then some v else f c) ∧ w.mapTurned w' b := by
  obtain ⟨D, h1, h2⟩ := h
  obtain ⟨w', hrun, h3, h4⟩ := h1.store X.keyed ht (by unfold maxLen; omega) (X.key ha) (heldR_yes hv)
  refine ⟨w', hrun, ⟨_, h3, fun c hc z => ?_⟩, h4⟩
  dsimp only
  by_cases hk : c = a
  · subst hk
    rw [if_pos rfl, atKey_put_same h1.isMap (X.isKey ha)]
    rfl
  · rw [if_neg hk, atKey_put_other (fun e => hk (X.lit_inj hc ha e))]
    exact h2 c hc z

theorem MapG.drop [DecidableEq X.α] {t e : TypeId} (h : MapG X p w b n f) (ht : Tryz.prog.underlying t = some (.map X.K e)) {a : X.α} (ha : X.ok a) (ty : TypeId) :
    ∃ w', (Builtin.delete_ #[t, X.K] ty #[.map (some b), X.kv a]).run Tryz.prog w = .ok (.tuple #[]) w' ∧ MapG X p w' b n (fun c => if c = a then none else f c) ∧ w.mapTurned w' b := by
  obtain ⟨D, h1, h2⟩ := h
  obtain ⟨w', hrun, h3, h4⟩ := h1.drop X.keyed ht (X.key ha) ty
  refine ⟨w', hrun, ⟨_, h3, fun c hc z => ?_⟩, h4⟩
  dsimp only
  by_cases hk : c = a
  · subst hk
    rw [if_pos rfl, atKey_del_same]
    rfl
  · rw [if_neg hk, atKey_del_other (fun e => hk (X.lit_inj hc ha e))]
    exact h2 c hc z

/-- How many entries there are: as many as keys that are there. -/
theorem size_of_keys [DecidableEq X.α] {D : DataW Value} (h1 : w.ownsMap Tryz.prog X.K (heldR p) b n D) (h2 : ∀ a, X.ok a → ∀ z : DataW Value, D.atKey (X.kl a) z = (f a).elim z .held) {L : List X.α} (hL : L.Nodup) (hin : ∀ a, a ∈ L ↔ X.ok a ∧ (f a).isSome = true) : Maps.size D = L.length := by
  obtain ⟨es, clock, hb, F, hs, hD⟩ := h1
  have hkey : ∀ x ∈ es.toList, ∃ a, X.ok a ∧ x.key = X.kv a ∧ (WideElems.rg Tryz.prog X.K (heldR p) x).1 = X.kl a := by
    intro x hx
    obtain ⟨y, hy⟩ := F.reads x hx
    obtain ⟨a, ha, e1, e2⟩ := X.inv (WideElems.rd_key hy)
    refine ⟨a, ha, e1, ?_⟩
    rw [WideElems.rg_of hy]; exact e2
  have e1 : Maps.size D = es.size := by subst hD; simp [Maps.size, length_sorted]
  rw [e1]
  have hap := ((stamped_iff es clock).1 F.stamped).2.2
  have hsz : ∀ a, X.ok a → ((f a).isSome = true ↔ ∃ x ∈ es.toList, x.key = X.kv a) := by
    intro a ha
    rw [← MapG.has_eq h2 ha, hD]
    constructor
    · intro hh
      obtain ⟨q, hq, hq2⟩ := List.any_eq_true.1 hh
      obtain ⟨x, hx, rfl⟩ := List.mem_map.1 (mem_sorted.1 hq)
      obtain ⟨c, hc, e3, e4⟩ := hkey x hx
      rw [e4, X.same hc ha] at hq2
      refine ⟨x, hx, ?_⟩
      rw [e3, of_decide_eq_true hq2]
    · rintro ⟨x, hx, e3⟩
      obtain ⟨c, hc, e4, e5⟩ := hkey x hx
      have hca : c = a := X.inj (by rw [← e4, e3])
      subst hca
      refine List.any_eq_true.2 ⟨_, mem_sorted.2 (List.mem_map.2 ⟨x, hx, rfl⟩), ?_⟩
      rw [e5, X.same hc hc]; simp
  have hm : (L.map X.kv).Perm (es.toList.map (·.key)) := by
    refine (List.perm_ext_iff_of_nodup ?_ ?_).2 ?_
    · exact List.pairwise_map.2 (hL.imp fun h e => h (X.inj e))
    · exact List.pairwise_map.2 (hap.imp fun h e => h e)
    · intro v
      rw [List.mem_map, List.mem_map]
      constructor
      · rintro ⟨a, ha, rfl⟩
        obtain ⟨h3, h4⟩ := (hin a).1 ha
        obtain ⟨x, hx, e⟩ := (hsz a h3).1 h4
        exact ⟨x, hx, e⟩
      · rintro ⟨x, hx, rfl⟩
        obtain ⟨c, hc, e4, _⟩ := hkey x hx
        exact ⟨c, (hin c).2 ⟨hc, (hsz c hc).2 ⟨x, hx, e4⟩⟩, e4.symm⟩
  have := hm.length_eq
  simpa using this.symm

theorem MapG.len [DecidableEq X.α] {t e : TypeId} (h : MapG X p w b n f) (ht : Tryz.prog.underlying t = some (.map X.K e)) {L : List X.α} (hL : L.Nodup) (hin : ∀ a, a ∈ L ↔ X.ok a ∧ (f a).isSome = true) (ty : TypeId) : (Builtin.len_ #[t] ty #[.map (some b)]).run Tryz.prog w = .ok (.int .i64 (L.length : Int)) w := by
  obtain ⟨D, h1, h2⟩ := h
  have := h1.len ht ty
  rw [size_of_keys h1 h2 hL hin] at this
  exact this

/-- So many entries as keys that are there. -/
theorem MapG.bound [DecidableEq X.α] (h : MapG X p w b n f) {L : List X.α} (hL : L.Nodup) (hin : ∀ a, a ∈ L ↔ X.ok a ∧ (f a).isSome = true) : MapG X p w b L.length f := by
  obtain ⟨D, h1, h2⟩ := h
  have e := size_of_keys h1 h2 hL hin
  obtain ⟨es, clock, hb, F, hs, hD⟩ := h1
  refine ⟨D, ⟨es, clock, hb, F, ?_, hD⟩, h2⟩
  subst hD
  simp [Maps.size, length_sorted] at e
  omega

/-- 'for k, v := range m' under way: left says which keys are still to come. -/
def RangeG (X : KeyX) (p : Value → Prop) (w : World) (b r n : Nat) (f : X.α → Option Value) (left : X.α → Bool) (cnt : Nat) : Prop :=
  ∃ (D : DataW Value) (L : Lit → Bool), w.ranges Tryz.prog X.K (heldR p) b r n D L cnt ∧ (∀ a, X.ok a → ∀ z : DataW Value, D.atKey (X.kl a) z = (f a).elim z .held) ∧ ∀ a, X.ok a → L (X.kl a) = left a

variable {r cnt : Nat} {left : X.α → Bool}

theorem RangeG.map (h : RangeG X p w b r n f left cnt) : MapG X p w b n f := by obtain ⟨D, L, h1, h2, _⟩ := h; exact ⟨D, h1.owns, h2⟩

theorem RangeG.cast {f' : X.α → Option Value} (h : RangeG X p w b r n f left cnt) (e : ∀ a, X.ok a → f a = f' a) : RangeG X p w b r n f' left cnt := by
  obtain ⟨D, L, h1, h2, h3⟩ := h
  exact ⟨D, L, h1, fun a ha z => by rw [h2 a ha, e a ha], h3⟩

theorem RangeG.left_eq (h : RangeG X p w b r n f left cnt) : w.rangeLeft b r = cnt := by obtain ⟨D, L, h1, _⟩ := h; exact h1.left_eq

theorem RangeG.ne (h : RangeG X p w b r n f left cnt) : r ≠ b := by obtain ⟨D, L, h1, _⟩ := h; exact h1.ne

theorem RangeG.lt (h : RangeG X p w b r n f left cnt) : r < w.heap.size := by obtain ⟨D, L, h1, _⟩ := h; exact h1.lt

theorem RangeG.mod {S : Nat → Prop} (h : RangeG X p w b r n f left cnt) (hm : Mod S w w') (h1 : ¬ S b) (h2 : ¬ S r) : RangeG X p w' b r n f left cnt := by
  have hb := h.map.lt
  have hr := h.lt
  obtain ⟨D, L, ⟨es, clock, since, seen, c0, a1, a2, a3, a4, a5, rest⟩, h4⟩ := h
  exact ⟨D, L, ⟨es, clock, since, seen, c0, (hm.block b hb h1).trans a1, a2, a3, a4, (hm.block r hr h2).trans a5, rest⟩, h4⟩

end

end Go.Proofs.YtbagmmncjmbboaaGreat

/-
  The laws on maps read as functions, at the operations of a walk. No walk.
-/
namespace Go.Proofs.YtbagmmncjmbboaaGreat
open Go.RowKit Go.Maps
open Go.ChangeMaps Go.MapKept
set_option linter.unusedVariables false

section

variable {X : KeyX} {p : Value → Prop} {w : World} {f : X.α → Option Value} {ops : Array Oper} {rest : List Oper} {o : Oper} {a : Act} {Q : Exit → Act → World → Prop}

theorem wpList_lookG (hg : o.guard = none) (m x : Operand) (t : TypeId) (hop : o.op = Op.lookup t m x true) (e : TypeId) (ht : Tryz.prog.underlying t = some (.map X.K e)) {z : Value} (hz : (zeroValue e).run Tryz.prog w = .ok z w) (hp : p z) (b n : Nat)
    (hm : a.eval m = .map (some b)) (hM : MapG X p w b n f) (k : X.α) (hx : a.eval x = X.kv k) (hk : X.ok k) (u : Value) (y : Bool) (hu : (f k).getD z = u) (hy : (f k).isSome = y)
    (hK : wpList Tryz.prog ops Q rest (a.put o.dst (.tuple #[u, .bool y])) w) : wpList Tryz.prog ops Q (o :: rest) a w := by
  subst hu hy
  refine wpList_plain hg fun K' hK' => ?_
  unfold Oper.wp
  simp [execOp, hop, hm, hx, (hM.look_ok ht hz hp hk).1, Result.andThen]
  exact hK' _ _ hK

theorem wpList_lookG1 (hg : o.guard = none) (m x : Operand) (t : TypeId) (hop : o.op = Op.lookup t m x false) (e : TypeId) (ht : Tryz.prog.underlying t = some (.map X.K e)) {z : Value} (hz : (zeroValue e).run Tryz.prog w = .ok z w) (hp : p z) (b n : Nat)
    (hm : a.eval m = .map (some b)) (hM : MapG X p w b n f) (k : X.α) (hx : a.eval x = X.kv k) (hk : X.ok k) (u : Value) (hu : (f k).getD z = u)
    (hK : wpList Tryz.prog ops Q rest (a.put o.dst u) w) : wpList Tryz.prog ops Q (o :: rest) a w := by
  subst hu
  refine wpList_plain hg fun K' hK' => ?_
  unfold Oper.wp
  simp [execOp, hop, hm, hx, hM.look ht hz hp hk, Result.andThen]
  exact hK' _ _ hK

theorem wpList_storeG [DecidableEq X.α] (hg : o.guard = none) (m x v : Operand) (t : TypeId) (hop : o.op = Op.mapUpdate t m x v) (e : TypeId) (ht : Tryz.prog.underlying t = some (.map X.K e)) (b n : Nat)
    (hm : a.eval m = .map (some b)) (hM : MapG X p w b n f) (hn : n < 9223372036854775807) (k : X.α) (hx : a.eval x = X.kv k) (hk : X.ok k) (u : Value) (hv : a.eval v = u) (hu : p u)
    (hK : ∀ w', MapG X p w' b (n + 1) (fun c => if c = k then some u else f c) → w.mapTurned w' b → wpList Tryz.prog ops Q rest (a.put o.dst undef) w') : wpList Tryz.prog ops Q (o :: rest) a w := by
  refine wpList_plain hg fun K' hK' => ?_
  obtain ⟨w', hrun, r1, r2⟩ := hM.store ht hn hk hu
  unfold Oper.wp
  simp [execOp, hop, hm, hx, hv, hrun, Result.andThen]
  exact hK' _ _ (hK w' r1 r2)

theorem wpList_dropG [DecidableEq X.α] (hg : o.guard = none) (m x : Operand) (t : TypeId) (hop : o.op = Op.call { callee := Callee.builtin Builtin.delete, args := #[m, x], argTypes := #[t, X.K] }) (e : TypeId) (ht : Tryz.prog.underlying t = some (.map X.K e)) (b n : Nat)
    (hm : a.eval m = .map (some b)) (hM : MapG X p w b n f) (k : X.α) (hx : a.eval x = X.kv k) (hk : X.ok k)
    (hK : ∀ w', MapG X p w' b n (fun c => if c = k then none else f c) → w.mapTurned w' b → wpList Tryz.prog ops Q rest (a.put o.dst (.tuple #[])) w') : wpList Tryz.prog ops Q (o :: rest) a w := by
  refine wpList_plain hg fun K' hK' => ?_
  obtain ⟨w', hrun, r1, r2⟩ := hM.drop ht hk o.type
  unfold Oper.wp
  simp [execOp, hop, resolve, invoke, builtin, hm, hx, hrun, Result.andThen]
  exact hK' _ _ (hK w' r1 r2)

theorem wpList_lenG [DecidableEq X.α] (hg : o.guard = none) (m : Operand) (t : TypeId) (hop : o.op = Op.call { callee := Callee.builtin Builtin.len, args := #[m], argTypes := #[t] }) (e : TypeId) (ht : Tryz.prog.underlying t = some (.map X.K e)) (b n : Nat)
    (hm : a.eval m = .map (some b)) (hM : MapG X p w b n f) (L : List X.α) (hL : L.Nodup) (hin : ∀ k, k ∈ L ↔ X.ok k ∧ (f k).isSome = true) (N : Nat) (hN : L.length = N)
    (hK : wpList Tryz.prog ops Q rest (a.put o.dst (.int .i64 (N : Int))) w) : wpList Tryz.prog ops Q (o :: rest) a w := by
  subst hN
  refine wpList_plain hg fun K' hK' => ?_
  unfold Oper.wp
  simp [execOp, hop, resolve, invoke, builtin, hm, hM.len ht hL hin o.type, Result.andThen]
  exact hK' _ _ hK

theorem wpList_rangeG (hg : o.guard = none) (m : Operand) (t : TypeId) (hop : o.op = Op.range t m) (e : TypeId) (ht : Tryz.prog.underlying t = some (.map X.K e)) (b n : Nat)
    (hm : a.eval m = .map (some b)) (hM : MapG X p w b n f)
    (hK : ∀ w' cnt, RangeG X p w' b w.heap.size n f (fun k => (f k).isSome) cnt → cnt ≤ n → w.grownBy w' none → w'.heap.size = w.heap.size + 1 → wpList Tryz.prog ops Q rest (a.put o.dst (.pointer (some ⟨w.heap.size, 0, none⟩))) w') :
    wpList Tryz.prog ops Q (o :: rest) a w := by
  obtain ⟨D, h1, h2⟩ := hM
  exact wpList_range_own w hg m t hop X.K e X.keyed ht (heldR p) b n D hm h1 fun w' r1 r2 r3 => hK w' _ ⟨D, _, r1, h2, fun k hk => MapG.has_eq h2 hk⟩ h1.size_le r2 r3

/-- What is known of an entry that has come. -/
structure NextG (X : KeyX) (p : Value → Prop) (f : X.α → Option Value) (left : X.α → Bool) (k : X.α) (v : Value) : Prop where
  ok : X.ok k
  left : left k = true
  val : f k = some v
  prop : p v

theorem wpList_nextG [DecidableEq X.α] {β : Type} (hg : o.guard = none) (it : Operand) (hop : o.op = Op.next it false) (mkV : β → Value) (invV : ∀ v, p v → ∃ c, v = mkV c) (b r n : Nat) (left : X.α → Bool) (cnt : Nat)
    (hit : a.eval it = .pointer (some ⟨r, 0, none⟩)) (h : RangeG X p w b r n f left cnt)
    (hDone : (∀ k, X.ok k → left k = false) → wpList Tryz.prog ops Q rest (a.put o.dst (.tuple #[.bool false])) w)
    (hMore : ∀ (k : X.α) (c : β) (w' : World) (cnt' : Nat), NextG X p f left k (mkV c) → RangeG X p w' b r n f (fun j => left j && !decide (j = k)) cnt' → cnt' < cnt →
      w.grownBy w' (some r) → w'.heap.size = w.heap.size → (Instr.entry (.pointer (some ⟨r, 0, none⟩))).run Tryz.prog w' = .ok (.tuple #[X.kv k, mkV c]) w' → wpList Tryz.prog ops Q rest (a.put o.dst (.tuple #[.bool true, X.kv k, mkV c])) w') :
    wpList Tryz.prog ops Q (o :: rest) a w := by
  obtain ⟨D, L, h1, h2, h3⟩ := h
  refine wpList_next_ranges w hg it hop X.K X.keyed (heldR p) X.kv mkV (fun key kl hk => by obtain ⟨x, _, hx, _⟩ := X.inv hk; exact ⟨x, hx⟩) (fun v y hv => invV v (heldR_inv hv).1) b r n D L cnt hit h1 (fun _ hL => hDone fun k hk => (h3 k hk).symm.trans (hL _)) ?_
  intro x c kl y w' cnt' hkey hlk hv hat hrg hlt hgr hsz hen
  obtain ⟨x', hok, ex, rfl⟩ := X.inv hkey
  obtain rfl := X.inj ex
  obtain ⟨hpv, rfl⟩ := heldR_inv hv
  refine hMore x c w' cnt' ⟨hok, (h3 x hok).symm.trans hlk, ?_, hpv⟩ ⟨D, _, hrg, h2, fun k hk => ?_⟩ hlt hgr hsz hen
  · have := hat .nil
    rw [h2 x hok] at this
    cases hf : f x with
    | none => rw [hf] at this; simp at this
    | some u => rw [hf] at this; simp at this; rw [this]
  · dsimp only
    rw [h3 k hk, X.same hk hok]

theorem RangeG.drop [DecidableEq X.α] {t e : TypeId} {b r n : Nat} {left : X.α → Bool} {cnt : Nat} (h : RangeG X p w b r n f left cnt) (ht : Tryz.prog.underlying t = some (.map X.K e)) {k : X.α} (hk : X.ok k) (ty : TypeId) :
    ∃ w' cnt', (Builtin.delete_ #[t, X.K] ty #[.map (some b), X.kv k]).run Tryz.prog w = .ok (.tuple #[]) w' ∧ RangeG X p w' b r n (fun c => if c = k then none else f c) (fun j => left j && !decide (j = k)) cnt' ∧ cnt' ≤ cnt ∧ w.mapTurned w' b := by
  obtain ⟨D, L, h1, h2, h3⟩ := h
  obtain ⟨w', cnt', hrun, r1, r2, r3⟩ := h1.drop X.keyed ht (X.key hk) ty
  refine ⟨w', cnt', hrun, ⟨_, _, r1, fun c hc z => ?_, fun c hc => ?_⟩, r2, r3⟩
  · dsimp only
    by_cases hck : c = k
    · subst hck
      rw [if_pos rfl, atKey_del_same]
      rfl
    · rw [if_neg hck, atKey_del_other (fun e => hck (X.lit_inj hc hk e))]
      exact h2 c hc z
  · dsimp only
    rw [h3 c hc, X.same hc hk]

theorem wpList_dropRG [DecidableEq X.α] (hg : o.guard = none) (m x : Operand) (t : TypeId) (hop : o.op = Op.call { callee := Callee.builtin Builtin.delete, args := #[m, x], argTypes := #[t, X.K] }) (e : TypeId) (ht : Tryz.prog.underlying t = some (.map X.K e)) (b r n : Nat) (left : X.α → Bool) (cnt : Nat)
    (hm : a.eval m = .map (some b)) (h : RangeG X p w b r n f left cnt) (k : X.α) (hx : a.eval x = X.kv k) (hk : X.ok k)
    (hK : ∀ w' cnt', RangeG X p w' b r n (fun c => if c = k then none else f c) (fun j => left j && !decide (j = k)) cnt' → cnt' ≤ cnt → w.mapTurned w' b → wpList Tryz.prog ops Q rest (a.put o.dst (.tuple #[])) w') : wpList Tryz.prog ops Q (o :: rest) a w := by
  obtain ⟨D, L, h1, h2, h3⟩ := h
  refine wpList_delete_ranges w hg m x t X.K hop e X.keyed ht (heldR p) b r n D L cnt hm h1 _ _ hx (X.key hk) fun w' cnt' r1 r2 r3 => hK w' cnt' ⟨_, _, r1, fun c hc z => ?_, fun c hc => ?_⟩ r2 r3
  · dsimp only
    by_cases hck : c = k
    · subst hck
      rw [if_pos rfl, atKey_del_same]
      rfl
    · rw [if_neg hck, atKey_del_other (fun e => hck (X.lit_inj hc hk e))]
      exact h2 c hc z
  · dsimp only
    rw [h3 c hc, X.same hc hk]

end

end Go.Proofs.YtbagmmncjmbboaaGreat
