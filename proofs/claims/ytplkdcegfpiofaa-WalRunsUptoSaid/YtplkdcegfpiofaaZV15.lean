/-
  A log's stream in plain words: records one behind the other, and what reading finds of them. No walk.
-/
import Derived.Test.YtplkdcegfpiofaaZV12
namespace Go.Proofs.Ytplkdcegfpiofaa
open Go.RowKit Go.Maps
set_option linter.unusedVariables false

theorem fitW (m i : Nat) (hi : i ≤ 9) (h : m * 128 ^ i < 18446744073709551616) : ¬ (i = 9 ∧ 1 < m) := by
  rintro ⟨rfl, h1⟩
  have : 2 * 128 ^ 9 ≤ m * 128 ^ 9 := Nat.mul_le_mul_right _ h1
  omega
theorem getGo_onW (p : Nat) (r : List Nat) : ∀ (N m i u0 : Nat), m ≤ N → i ≤ 9 → (0 < i → 0 < m) → m * 128 ^ i < 18446744073709551616 →
    getGo p (putL m ++ r) i u0 = (u0 + m * 128 ^ i, p + i + (putL m).length, 0) := by
  intro N
  induction N with
  | zero =>
    intro m i u0 hm hi hp hf
    obtain rfl : m = 0 := by omega
    rw [putL_last 0 (by omega), List.singleton_append, getGo, if_neg (by omega), if_neg (by omega), if_neg (by omega)]
    simp
  | succ N ih =>
    intro m i u0 hm hi hp hf
    have h9 := fitW m i hi hf
    by_cases h : m < 128
    · rw [putL_last m h, List.singleton_append, getGo, if_neg h9, if_neg (by omega), if_neg (by omega), Nat.mod_eq_of_lt h]
      simp
    · have hi8 : i ≠ 9 := fun e => h9 ⟨e, by omega⟩
      rw [putL_more m h, List.cons_append, getGo, if_neg (by omega), if_pos (by omega)]
      have hsum : (m % 128 + 128) % 128 * 128 ^ i + m / 128 * 128 ^ (i + 1) = m * 128 ^ i := by
        rw [show (m % 128 + 128) % 128 = m % 128 by omega, Nat.pow_succ, ← Nat.mul_assoc, Nat.mul_right_comm, ← Nat.add_mul]
        congr 1
        omega
      rw [ih (m / 128) (i + 1) _ (by omega) (by omega) (by omega) (by omega)]
      rw [List.length_cons]
      congr 1
      · omega
      · congr 1
        omega
theorem getGo_cutW (p : Nat) : ∀ (N m i u0 k : Nat), m ≤ N → i ≤ 9 → m * 128 ^ i < 18446744073709551616 → k < (putL m).length → getGo p ((putL m).take k) i u0 = (0, 0, 2) := by
  intro N
  induction N with
  | zero =>
    intro m i u0 k hm hi hf hk
    obtain rfl : m = 0 := by omega
    rw [putL_last 0 (by omega)] at hk ⊢
    obtain rfl : k = 0 := by simpa using hk
    rfl
  | succ N ih =>
    intro m i u0 k hm hi hf hk
    have h9 := fitW m i hi hf
    cases k with
    | zero => rfl
    | succ k =>
      by_cases h : m < 128
      · rw [putL_last m h] at hk; simp at hk
      · have hi8 : i ≠ 9 := fun e => h9 ⟨e, by omega⟩
        rw [putL_more m h] at hk ⊢
        rw [List.length_cons] at hk
        rw [List.take_succ_cons, getGo, if_neg (by omega), if_pos (by omega)]
        have hsum : m / 128 * 128 ^ (i + 1) ≤ m * 128 ^ i := by
          rw [Nat.pow_succ, Nat.mul_comm (128 ^ i), ← Nat.mul_assoc]
          exact Nat.mul_le_mul_right _ (by omega)
        exact ih (m / 128) (i + 1) _ k (by omega) (by omega) (by omega) (by omega)
theorem recL_len (k : Nat) (b : List Nat) : (recL k b).length = 1 + (putL b.length).length + b.length := by unfold recL; simp; omega
theorem textA_rec (a r : List Nat) (k : Nat) (b : List Nat) (hb : b.length ≤ 1200) : textA (a ++ recL k b ++ r) ((a.length : Int) + 1) 1200 = (b, a.length + (recL k b).length, 0) := by
  have e : a ++ recL k b ++ r = (a ++ [k]) ++ putL b.length ++ (b ++ r) := by unfold recL; simp
  have hl : ((a.length : Int) + 1) = (((a ++ [k]).length : Nat) : Int) := by simp
  have hg : getA (a ++ recL k b ++ r) ((a.length : Int) + 1) = (b.length, (a ++ [k]).length + (putL b.length).length, 0) := by
    rw [e, hl]
    unfold getA
    rw [if_neg (by simp; omega)]
    unfold getR
    rw [Int.toNat_natCast, List.append_assoc, List.drop_left, getGo_onW _ _ b.length b.length 0 0 (Nat.le_refl _) (by omega) (by omega) (by omega)]
    simp
  unfold textA
  rw [hg]
  simp only [ne_eq, not_true, if_false]
  rw [if_neg (by omega), if_neg (by rw [e]; simp; omega)]
  have hp : piece (a ++ recL k b ++ r) ((a ++ [k]).length + (putL b.length).length) ((a ++ [k]).length + (putL b.length).length + b.length) = b := by
    rw [e]
    unfold piece
    rw [show (a ++ [k]).length + (putL b.length).length + b.length = (a ++ [k] ++ putL b.length ++ b).length by simp; omega, show a ++ [k] ++ putL b.length ++ (b ++ r) = (a ++ [k] ++ putL b.length ++ b) ++ r by simp, List.take_left,
      show (a ++ [k]).length + (putL b.length).length = (a ++ [k] ++ putL b.length).length by (simp; omega), List.drop_left]
  rw [hp, recL_len]
  refine Prod.ext rfl (Prod.ext ?_ rfl)
  simp
  omega
theorem textA_cut (a : List Nat) (k : Nat) (b : List Nat) (hb : b.length ≤ 1200) (j : Nat) (hj : j < (recL k b).length) : (textA (a ++ (recL k b).take j) ((a.length : Int) + 1) 1200).2.2 ≠ 0 := by
  cases j with
  | zero =>
    have hg : getA (a ++ (recL k b).take 0) ((a.length : Int) + 1) = (0, 0, 1) := by
      unfold getA
      rw [List.take_zero, List.append_nil, if_pos (Or.inr (by omega))]
    unfold textA
    rw [hg]
    simp
  | succ j =>
    rw [recL_len] at hj
    have hl : ((a.length : Int) + 1) = (((a ++ [k]).length : Nat) : Int) := by simp
    have e : a ++ (recL k b).take (j + 1) = (a ++ [k]) ++ (putL b.length ++ b).take j := by unfold recL; rw [List.take_succ_cons]; simp
    by_cases h : j < (putL b.length).length
    · have hg : getA (a ++ (recL k b).take (j + 1)) ((a.length : Int) + 1) = (0, 0, 2) := by
        rw [e, hl]
        unfold getA
        rw [if_neg (by simp; omega)]
        unfold getR
        rw [Int.toNat_natCast, List.drop_left, List.take_append_of_le_length (by omega), getGo_cutW _ b.length b.length 0 0 j (Nat.le_refl _) (by omega) (by omega) h]
      unfold textA
      rw [hg]
      simp
    · have hg : getA (a ++ (recL k b).take (j + 1)) ((a.length : Int) + 1) = (b.length, (a ++ [k]).length + (putL b.length).length, 0) := by
        rw [e, hl]
        unfold getA
        rw [if_neg (by simp; omega)]
        unfold getR
        rw [Int.toNat_natCast, List.drop_left, List.take_append, List.take_of_length_le (Nat.le_of_not_lt h), getGo_onW _ _ b.length b.length 0 0 (Nat.le_refl _) (by omega) (by omega) (by omega)]
        simp
      unfold textA
      rw [hg]
      simp only [ne_eq, not_true, if_false]
      rw [if_neg (by omega), if_pos (by rw [e, List.length_append, List.length_take, List.length_append, List.length_append, List.length_singleton]; omega)]
      simp

/-- A record's kind and body. -/
abbrev RecT := Nat × List Nat
def RecOk (r : RecT) : Prop := 1 ≤ r.1 ∧ r.1 ≤ 255 ∧ r.2.length ≤ 1200 ∧ ∀ x ∈ r.2, x < 256
def strm (rs : List RecT) : List Nat := rs.flatMap fun r => recL r.1 r.2
def begsAt : Nat → List RecT → List Nat
  | _, [] => []
  | o, r :: t => o :: begsAt (o + (recL r.1 r.2).length) t
/-- How many records lie whole in the first j bytes. -/
def whole : List RecT → Nat → Nat
  | [], _ => 0
  | r :: t, j => if (recL r.1 r.2).length ≤ j then whole t (j - (recL r.1 r.2).length) + 1 else 0
/-- Where the records begin from place a on, and where they end. -/
def scan (st : List Nat) : Nat → Nat → List Nat × Nat
  | 0, a => ([], a)
  | n + 1, a =>
    if a < st.length ∧ 1 ≤ st.getD a 0 ∧ (textA st ((a : Int) + 1) 1200).2.2 = 0 then
      (a :: (scan st n (textA st ((a : Int) + 1) 1200).2.1).1, (scan st n (textA st ((a : Int) + 1) 1200).2.1).2)
    else ([], a)
theorem strm_nil : strm [] = [] := rfl
theorem strm_cons (r : RecT) (t : List RecT) : strm (r :: t) = recL r.1 r.2 ++ strm t := by unfold strm; rw [List.flatMap_cons]
theorem strm_append (a b : List RecT) : strm (a ++ b) = strm a ++ strm b := by unfold strm; rw [List.flatMap_append]
theorem strm_snoc (a : List RecT) (r : RecT) : strm (a ++ [r]) = strm a ++ recL r.1 r.2 := by rw [strm_append, strm_cons, strm_nil, List.append_nil]
theorem begsAt_len : ∀ (rs : List RecT) (o : Nat), (begsAt o rs).length = rs.length
  | [], _ => rfl
  | r :: t, o => by rw [begsAt, List.length_cons, List.length_cons, begsAt_len t]
theorem begsAt_snoc (r : RecT) : ∀ (rs : List RecT) (o : Nat), begsAt o (rs ++ [r]) = begsAt o rs ++ [o + (strm rs).length]
  | [], o => rfl
  | q :: t, o => by rw [List.cons_append, begsAt, begsAt_snoc r t, begsAt, strm_cons, List.length_append, List.cons_append, Nat.add_assoc]
theorem begsAt_get : ∀ (rs : List RecT) (o i : Nat), i < rs.length → (begsAt o rs)[i]? = some (o + (strm (rs.take i)).length)
  | [], _, _, h => by simp at h
  | q :: t, o, 0, _ => by simp [begsAt, strm_nil]
  | q :: t, o, i + 1, h => by
    rw [begsAt, List.getElem?_cons_succ, begsAt_get t _ i (by simpa using h), List.take_succ_cons, strm_cons, List.length_append, Nat.add_assoc]
theorem strm_lt {rs : List RecT} (h : ∀ r ∈ rs, RecOk r) : ∀ x ∈ strm rs, x < 256 := by
  intro x hx
  unfold strm at hx
  obtain ⟨r, hr, hx⟩ := List.mem_flatMap.1 hx
  have h1 := h r hr
  unfold recL at hx
  rcases List.mem_cons.1 hx with hx | hx
  · have := h1.2.1; omega
  · rcases List.mem_append.1 hx with hx | hx
    · have : r.2.length ≤ 1200 := h1.2.2.1
      by_cases h2 : r.2.length < 128
      · rw [putL_last _ h2] at hx; simp at hx; omega
      · rw [putL_more _ h2, putL_last _ (by omega)] at hx
        simp at hx; omega
    · exact h1.2.2.2 x hx
theorem recL_two (r : RecT) : 2 ≤ (recL r.1 r.2).length := by rw [recL_len]; have := putL_pos r.2.length; omega
theorem strm_ge : ∀ rs : List RecT, 2 * rs.length ≤ (strm rs).length
  | [] => by simp [strm]
  | r :: t => by rw [strm_cons, List.length_append, List.length_cons]; have := strm_ge t; have := recL_two r; omega
theorem strm_take_le (rs : List RecT) (i : Nat) : (strm (rs.take i)).length ≤ (strm rs).length := by
  have h : strm rs = strm (rs.take i) ++ strm (rs.drop i) := by rw [← strm_append, List.take_append_drop]
  rw [h, List.length_append]; omega
theorem strm_take (rs : List RecT) (i : Nat) : (strm rs).take (strm (rs.take i)).length = strm (rs.take i) := by
  have h : strm rs = strm (rs.take i) ++ strm (rs.drop i) := by rw [← strm_append, List.take_append_drop]
  rw [h, List.take_left]
theorem whole_le : ∀ (rs : List RecT) (j : Nat), whole rs j ≤ rs.length
  | [], _ => by simp [whole]
  | r :: t, j => by
    rw [whole]
    split
    · have := whole_le t (j - (recL r.1 r.2).length); rw [List.length_cons]; omega
    · omega
theorem whole_fit : ∀ (rs : List RecT) (j : Nat), (strm (rs.take (whole rs j))).length ≤ j
  | [], j => by simp [whole, strm]
  | r :: t, j => by
    rw [whole]
    split
    · rename_i h
      rw [List.take_succ_cons, strm_cons, List.length_append]
      have := whole_fit t (j - (recL r.1 r.2).length); omega
    · simp [strm]
theorem whole_ge : ∀ (rs : List RecT) (j i : Nat), i ≤ rs.length → (strm (rs.take i)).length ≤ j → i ≤ whole rs j
  | [], j, i, h, _ => by have : i = 0 := by simpa using h
                         omega
  | r :: t, j, 0, _, _ => Nat.zero_le _
  | r :: t, j, i + 1, h, h2 => by
    rw [List.take_succ_cons, strm_cons, List.length_append] at h2
    rw [whole, if_pos (by omega)]
    have := whole_ge t (j - (recL r.1 r.2).length) i (by simpa using h) (by omega)
    omega
theorem whole_all (rs : List RecT) (j : Nat) (h : (strm rs).length ≤ j) : whole rs j = rs.length := by
  have h1 := whole_ge rs j rs.length (Nat.le_refl _) (by rw [List.take_length]; exact h)
  have h2 := whole_le rs j
  omega
theorem getD_mid (a r : List Nat) (k : Nat) : (a ++ k :: r).getD a.length 0 = k := by simp [List.getD]
/-- What is found in a beginning of a stream. -/
theorem scan_strm : ∀ (rs : List RecT) (a : List Nat) (j n : Nat), (∀ r ∈ rs, RecOk r) → whole rs j < n → j ≤ (strm rs).length →
    scan (a ++ (strm rs).take j) n a.length = (begsAt a.length (rs.take (whole rs j)), a.length + (strm (rs.take (whole rs j))).length)
  | [], a, j, n + 1, _, _, hj => by
    have hj0 : j = 0 := by simpa [strm] using hj
    subst hj0
    rw [scan, if_neg (by simp [strm])]
    simp [whole, begsAt, strm]
  | r :: t, a, j, n + 1, hok, hn, hj => by
    have h1 := hok r (by simp)
    rw [whole] at hn
    rw [scan, whole]
    by_cases hl : (recL r.1 r.2).length ≤ j
    · have e : a ++ (strm (r :: t)).take j = a ++ recL r.1 r.2 ++ (strm t).take (j - (recL r.1 r.2).length) := by
        rw [strm_cons, List.take_append, List.take_of_length_le hl, List.append_assoc]
      have ht := textA_rec a ((strm t).take (j - (recL r.1 r.2).length)) r.1 r.2 h1.2.2.1
      rw [e, ht]
      have h2 := recL_two r
      have hk : 1 ≤ (a ++ recL r.1 r.2 ++ (strm t).take (j - (recL r.1 r.2).length)).getD a.length 0 := by
        rw [List.append_assoc]
        unfold recL
        rw [List.cons_append, getD_mid]
        exact h1.1
      rw [if_pos ⟨by simp; omega, hk, rfl⟩, if_pos hl]
      have ih := scan_strm t (a ++ recL r.1 r.2) (j - (recL r.1 r.2).length) n (fun q hq => hok q (by simp [hq])) (by rw [if_pos hl] at hn; omega) (by rw [strm_cons, List.length_append] at hj; omega)
      rw [List.length_append] at ih
      rw [ih, List.take_succ_cons, begsAt, strm_cons, List.length_append, Nat.add_assoc]
    · have e : a ++ (strm (r :: t)).take j = a ++ (recL r.1 r.2).take j := by
        rw [strm_cons, List.take_append_of_le_length (by omega)]
      rw [e, if_neg (fun h => textA_cut a r.1 r.2 h1.2.2.1 j (by omega) h.2.2), if_neg hl]
      simp [begsAt, strm]
/-- The records end within the stream, and each begins ahead of the end. -/
theorem textA_next (l : List Nat) (at_ : Int) (h : (textA l at_ 1200).2.2 = 0) : at_ < ((textA l at_ 1200).2.1 : Int) ∧ (textA l at_ 1200).2.1 ≤ l.length := by
  obtain ⟨ru, rn, re, hr⟩ : ∃ ru rn re, getA l at_ = (ru, rn, re) := ⟨_, _, _, rfl⟩
  unfold textA at h ⊢
  rw [hr] at h ⊢
  by_cases h0 : re = 0
  · subst h0
    obtain ⟨h1, h2, h3⟩ := getA_next l at_ ru rn hr
    simp only [ne_eq, not_true, if_false] at h ⊢
    by_cases h4 : max (1200 : Int) 0 < (ru : Int)
    · rw [if_pos h4] at h; simp at h
    · rw [if_neg h4] at h ⊢
      by_cases h5 : l.length - rn < ru
      · rw [if_pos h5] at h; simp at h
      · rw [if_neg h5]
        dsimp only
        omega
  · rw [if_pos (by simpa using h0)] at h
    exact absurd h h0
theorem scan_ok (st : List Nat) : ∀ (n a : Nat), a ≤ st.length → a ≤ (scan st n a).2 ∧ (scan st n a).2 ≤ st.length ∧ (scan st n a).1.length ≤ (scan st n a).2 - a ∧ ∀ b ∈ (scan st n a).1, a ≤ b ∧ b < (scan st n a).2
  | 0, a, h => by simp [scan]; exact h
  | n + 1, a, h => by
    rw [scan]
    split
    · rename_i hc
      obtain ⟨c1, c2, c3⟩ := hc
      have ht := textA_next st ((a : Int) + 1) c3
      obtain ⟨h1, h2, h3, h4⟩ := scan_ok st n (textA st ((a : Int) + 1) 1200).2.1 ht.2
      refine ⟨by dsimp only; omega, h2, by dsimp only; rw [List.length_cons]; omega, fun b hb => ?_⟩
      dsimp only at hb ⊢
      rcases List.mem_cons.1 hb with hb | hb
      · omega
      · have := h4 b hb; omega
    · simp; omega
end Go.Proofs.Ytplkdcegfpiofaa

/-
  A log's sectors in plain words: what a sector that was written tells, and what is read of sectors each of which is old or new. No walk.
-/
namespace Go.Proofs.Ytplkdcegfpiofaa
open Go.RowKit Go.Maps
set_option linter.unusedVariables false

theorem sum4_len (c : Nat) : (sumBytes c).length = 4 := rfl
theorem secL_form (run : Nat) (part : List Nat) : secL run part = sumBytes (crcSum (secB run part)) ++ secB run part := rfl
theorem secL_drop4 (run : Nat) (part : List Nat) : (secL run part).drop 4 = secB run part := by rw [secL_form, List.drop_left' (sum4_len _)]
theorem secL_run {run : Nat} {part : List Nat} (h : run < 18446744073709551616) : runOf (secL run part) = run := by
  unfold runOf
  rw [secL_drop4]
  have e : secB run part = digits run 8 ++ (digits part.length 2 ++ part ++ List.replicate (498 - part.length) 0) := by unfold secB; simp
  rw [e, List.take_left' (digits_len _ _)]
  exact leV_digits_of (by rw [show (256 : Nat) ^ 8 = 18446744073709551616 by decide]; exact h)
theorem secL_used {run : Nat} {part : List Nat} (h : part.length ≤ 498) : usedOf (secL run part) = part.length := by
  unfold usedOf
  rw [show (12 : Nat) = 4 + 8 by rfl, ← List.drop_drop, secL_drop4]
  have e : secB run part = digits run 8 ++ (digits part.length 2 ++ (part ++ List.replicate (498 - part.length) 0)) := by unfold secB; simp
  rw [e, List.drop_left' (digits_len _ _), List.take_left' (digits_len _ _)]
  exact leV_digits_of (by rw [show (256 : Nat) ^ 2 = 65536 by decide]; omega)
theorem secL_drop14 (run : Nat) (part : List Nat) : (secL run part).drop 14 = part ++ List.replicate (498 - part.length) 0 := by
  rw [show (14 : Nat) = 4 + (8 + 2) by rfl, ← List.drop_drop, secL_drop4, ← List.drop_drop]
  have e : secB run part = digits run 8 ++ (digits part.length 2 ++ (part ++ List.replicate (498 - part.length) 0)) := by unfold secB; simp
  rw [e, List.drop_left' (digits_len _ _), List.drop_left' (digits_len _ _)]
theorem secL_part {run : Nat} {part : List Nat} (h : part.length ≤ 498) : partOf (secL run part) = part := by
  unfold partOf
  rw [secL_used h, secL_drop14, List.take_left]
theorem secL_log {run : Nat} {part : List Nat} (h : part.length ≤ 498) (h1 : 1 ≤ run) (h2 : run ≤ 274877906944) : isLog (secL run part) := by
  refine ⟨by rw [secL_run (by omega)]; exact h1, by rw [secL_run (by omega)]; exact h2, by rw [secL_used h]; exact h, ?_, ?_⟩
  · unfold openOk
    rw [decide_eq_true_eq]
    refine ⟨by rw [secL_form, List.length_append, sum4_len]; omega, ?_⟩
    rw [secL_drop4, secL_form, List.take_left' (sum4_len _)]
  · intro j x hj hx
    rw [secL_used h] at hj
    have hx2 : ((secL run part).drop 14)[j - 14]? = some x := by rw [List.getElem?_drop, show 14 + (j - 14) = j by omega]; exact hx
    rw [secL_drop14, List.getElem?_append_right (by omega), List.getElem?_replicate] at hx2
    split at hx2
    · injection hx2 with e; exact e.symm
    · cases hx2
theorem sec_run {run : Nat} {part : List Nat} (h : part.length ≤ 498) (h1 : 1 ≤ run) (h2 : run ≤ 274877906944) : secRun (secL run part) = run := by rw [secRun_yes (secL_log h h1 h2), secL_run (by omega)]
theorem sec_part {run : Nat} {part : List Nat} (h : part.length ≤ 498) (h1 : 1 ≤ run) (h2 : run ≤ 274877906944) : secPart (secL run part) = part := by rw [secPart_yes (secL_log h h1 h2), secL_part h]
theorem sect_len (run : Nat) (st : List Nat) (i : Nat) : ((st.drop (i * 498)).take 498).length ≤ 498 := by rw [List.length_take]; omega
theorem isLog_of_run {b : List Nat} (h : 1 ≤ secRun b) : isLog b := by
  by_cases hb : isLog b
  · exact hb
  · rw [secRun_no hb] at h; omega

/-- The k-th piece of a stream. -/
def pieceOf (st : List Nat) (k : Nat) : List Nat := (st.drop (k * 498)).take 498
theorem sect_pieceOf (run : Nat) (st : List Nat) (k : Nat) : sect run st k = secL run (pieceOf st k) := rfl
/-- A sector of a log of run R, its first f bytes being safe: it bears the stream's piece, or what was safe of it, or nothing of this run. -/
def Sec3 (st : List Nat) (f R : Nat) (b : List Nat) (k : Nat) : Prop :=
  (secRun b = R ∧ secPart b = pieceOf st k ∧ (k = 0 ∨ k * 498 < st.length)) ∨
  (secRun b = R ∧ secPart b = pieceOf (st.take f) k ∧ k * 498 ≤ f ∧ f < (k + 1) * 498 ∧ (k = 0 ∨ k * 498 < f)) ∨
  (secRun b ≠ R ∧ 1 ≤ k ∧ f ≤ k * 498)
theorem pieceOf_len (st : List Nat) (k : Nat) : (pieceOf st k).length = min 498 (st.length - k * 498) := by unfold pieceOf; rw [List.length_take, List.length_drop]
theorem take_piece_next (st : List Nat) (k : Nat) : st.take (k * 498) ++ pieceOf st k = st.take ((k + 1) * 498) := by
  unfold pieceOf
  rw [show (k + 1) * 498 = k * 498 + 498 by omega, List.take_add]
/-- What is read of the first n sectors. -/
def ReadSt (st : List Nat) (f R n : Nat) (x : RS) : Prop := ∃ j, x.st = st.take j ∧ j ≤ st.length ∧ (x.goes = true → j = n * 498) ∧ (x.goes = false → f ≤ j) ∧ (1 ≤ n → x.run = R)
theorem read_step {st : List Nat} {f R n : Nat} {x : RS} (hf : f ≤ st.length) (h : ReadSt st f R n x) (b : List Nat) (hb : Sec3 st f R b n) : ReadSt st f R (n + 1) (x.step (n == 0) b) := by
  obtain ⟨j, h1, h2, h3, h4, h5⟩ := h
  have hrun : (if (n == 0) = true then secRun b else x.run) = R := by
    by_cases hn : n = 0
    · subst hn
      rw [if_pos (by rfl)]
      rcases hb with h | h | h
      · exact h.1
      · exact h.1
      · omega
    · rw [if_neg (by simpa using hn)]; exact h5 (by omega)
  unfold RS.step
  dsimp only
  rw [hrun]
  cases hg : x.goes with
  | false =>
    refine ⟨j, ?_, h2, fun e => by simp at e, fun _ => h4 hg, fun _ => rfl⟩
    simp [h1]
  | true =>
    have hj := h3 hg
    rw [hj] at h1 h2
    rcases hb with ⟨b1, b2, b3⟩ | ⟨b1, b2, b3, b4, b5⟩ | ⟨b1, b2, b3⟩
    · have hl := pieceOf_len st n
      refine ⟨min ((n + 1) * 498) st.length, ?_, by omega, ?_, ?_, fun _ => rfl⟩
      · dsimp only
        rw [Bool.true_and, b1, if_pos (by simp), h1, b2, take_piece_next]
        by_cases h6 : (n + 1) * 498 ≤ st.length
        · rw [Nat.min_eq_left h6]
        · rw [Nat.min_eq_right (by omega), List.take_of_length_le (by omega), List.take_of_length_le (Nat.le_refl _)]
      · intro e
        dsimp only at e
        simp only [Bool.true_and, Bool.and_eq_true, decide_eq_true_eq, b2] at e
        omega
      · intro e
        dsimp only at e
        rw [Bool.true_and, b1] at e
        simp only [decide_true, Bool.true_and, decide_eq_false_iff_not, b2] at e
        omega
    · have hl := pieceOf_len (st.take f) n
      rw [List.length_take] at hl
      refine ⟨f, ?_, hf, ?_, fun _ => Nat.le_refl _, fun _ => rfl⟩
      · dsimp only
        rw [Bool.true_and, b1, if_pos (by simp), h1, b2]
        have e : st.take (n * 498) = (st.take f).take (n * 498) := by rw [List.take_take, Nat.min_eq_left b3]
        rw [e, take_piece_next, List.take_of_length_le (by rw [List.length_take]; omega)]
      · intro e
        dsimp only at e
        simp only [Bool.true_and, Bool.and_eq_true, decide_eq_true_eq, b2] at e
        omega
    · refine ⟨n * 498, ?_, h2, ?_, fun _ => by omega, fun _ => rfl⟩
      · dsimp only
        rw [Bool.true_and, if_neg (by simpa using b1), h1]
      · intro e
        dsimp only at e
        simp only [Bool.true_and, Bool.and_eq_true, decide_eq_true_eq] at e
        exact absurd e.1 b1
theorem read_upto {st : List Nat} {f R : Nat} (hf : f ≤ st.length) (s : DS) (first : Nat) : ∀ n, (∀ k, k < n → Sec3 st f R (s.has (first + k)) k) → ReadSt st f R n (RS.upto s first n)
  | 0, _ => ⟨0, by simp [RS.upto], Nat.zero_le _, by simp, by simp [RS.upto], by omega⟩
  | n + 1, h => read_step hf (read_upto hf s first n (fun k hk => h k (by omega))) _ (h n (by omega))
theorem read_all {st : List Nat} {f R count : Nat} (hf : f ≤ st.length) (hst : st.length ≤ count * 498) (hc : 1 ≤ count) (s : DS) (first : Nat) (h : ∀ k, k < count → Sec3 st f R (s.has (first + k)) k) :
    ∃ j, (RS.upto s first count).st = st.take j ∧ f ≤ j ∧ j ≤ st.length ∧ (RS.upto s first count).run = R := by
  obtain ⟨j, h1, h2, h3, h4, h5⟩ := read_upto hf s first count h
  refine ⟨j, h1, ?_, h2, h5 hc⟩
  cases hg : (RS.upto s first count).goes with
  | false => exact h4 hg
  | true => have := h3 hg; omega
/-- The greatest run of the sectors. -/
theorem upto_most (s : DS) (first : Nat) : ∀ n, (∀ k, k < n → secRun (s.has (first + k)) ≤ (RS.upto s first n).most) ∧ ∀ M, (∀ k, k < n → secRun (s.has (first + k)) ≤ M) → (RS.upto s first n).most ≤ M
  | 0 => ⟨by omega, fun M _ => by simp [RS.upto]⟩
  | n + 1 => by
    obtain ⟨h1, h2⟩ := upto_most s first n
    have e : (RS.upto s first (n + 1)).most = max (RS.upto s first n).most (secRun (s.has (first + n))) := rfl
    refine ⟨fun k hk => ?_, fun M hM => ?_⟩
    · rw [e]
      by_cases hkn : k = n
      · subst hkn; omega
      · have := h1 k (by omega); omega
    · rw [e]
      have := h2 M (fun k hk => hM k (by omega))
      have := hM n (by omega)
      omega
end Go.Proofs.Ytplkdcegfpiofaa

/-
  Saving a stream, in plain words: what the sectors are behind it, when it fails, how many steps it takes. No walk.
-/
namespace Go.Proofs.Ytplkdcegfpiofaa
open Go.RowKit Go.Maps
set_option linter.unusedVariables false

theorem pad_full {l : List Nat} (h : l.length = 512) : pad l = l := by unfold pad; rw [h]; simp
theorem sect_ok {run : Nat} {st : List Nat} (h : ∀ x ∈ st, x < 256) (k : Nat) : SecOk (sect run st k) := secL_ok (sect_len run st k) (fun x hx => h x (List.mem_of_mem_drop (List.mem_of_mem_take hx)))

/-- P holds of what is safe and of what is there, at each sector. -/
def EachSec (P : Nat → List Nat → Prop) (s : DS) : Prop := ∀ i : Nat, i < s.safe.length → P i (s.safe.getD i []) ∧ P i (s.has i)
section
variable {P : Nat → List Nat → Prop} {s : DS}
theorem EachSec.tick (h : EachSec P s) : EachSec P s.tick := h
theorem EachSec.offed (h : EachSec P s) : EachSec P { s with off := true } := h
theorem has_put (s : DS) (i : Int) (l : List Nat) (k : Nat) : (DS.put i l s).has k = if (k : Int) = i then l else s.has k := by
  unfold DS.has DS.put
  dsimp only
  split <;> rfl
theorem EachSec.put (h : EachSec P s) {i : Int} {l : List Nat} (hl : ∀ n : Nat, (n : Int) = i → P n l) : EachSec P (DS.put i l s) := by
  intro k hk
  refine ⟨(h k hk).1, ?_⟩
  rw [has_put]
  split
  · exact hl k (by assumption)
  · exact (h k hk).2
theorem getD_settle (s : DS) (k : Nat) (hk : k < s.safe.length) : s.settle.safe.getD k [] = s.has k := by
  unfold DS.settle
  simp [List.getD, hk]
theorem len_settle (s : DS) : s.settle.safe.length = s.safe.length := by unfold DS.settle; simp
theorem has_settle (s : DS) (k : Nat) (hk : k < s.safe.length) : s.settle.has k = s.has k := by
  show (none : Option (List Nat)).getD (s.settle.safe.getD k []) = _
  rw [getD_settle s k hk]; rfl
theorem EachSec.settle (h : EachSec P s) : EachSec P s.settle := by
  intro k hk
  rw [len_settle] at hk
  rw [getD_settle s k hk, has_settle s k hk]
  exact ⟨(h k hk).2, (h k hk).2⟩
theorem EachSec.step (h : EachSec P s) {f : DS → DS} (hf : EachSec P (f s.tick)) : EachSec P (s.step f) := by
  unfold DS.step
  split
  · exact h
  · split
    · exact h
    · split
      · exact hf
      · exact hf
theorem EachSec.write (h : EachSec P s) {i : Int} {l : List Nat} (hl : ∀ n : Nat, (n : Int) = i → P n (Proofs.Ytplkdcegfpiofaa.pad l)) : EachSec P (s.write i l) := by
  unfold DS.write
  split
  · exact h
  · split
    · exact h
    · split
      · exact h
      · exact h.step (h.tick.put hl)
theorem EachSec.sync (h : EachSec P s) : EachSec P s.sync := by
  unfold DS.sync
  split
  · exact h
  · exact h.step h.tick.settle
theorem EachSec.on (h : EachSec P s) (K : List Int) : EachSec P (s.on K) := by
  intro k hk
  have hk2 : k < s.safe.length := by unfold DS.on at hk; simpa using hk
  have e : (s.on K).safe.getD k [] = if K.contains (k : Int) then s.has k else s.safe.getD k [] := by
    unfold DS.on
    simp [List.getD, hk2]
  have e2 : (s.on K).has k = (s.on K).safe.getD k [] := rfl
  rw [e2, e]
  split
  · exact ⟨(h k hk2).2, (h k hk2).2⟩
  · exact ⟨(h k hk2).1, (h k hk2).1⟩
theorem EachSec.mono {Q : Nat → List Nat → Prop} (h : EachSec P s) (hq : ∀ i b, i < s.safe.length → P i b → Q i b) : EachSec Q s := fun i hi => ⟨hq i _ hi (h i hi).1, hq i _ hi (h i hi).2⟩
theorem len_step (s : DS) (f : DS → DS) (hf : (f s.tick).safe.length = s.safe.length) : (s.step f).safe.length = s.safe.length := by
  unfold DS.step
  split
  · rfl
  · split
    · rfl
    · split
      · exact hf
      · exact hf
theorem len_write (s : DS) (i : Int) (l : List Nat) : (s.write i l).safe.length = s.safe.length := by
  unfold DS.write
  split
  · rfl
  · split
    · rfl
    · split
      · rfl
      · exact len_step s _ rfl
theorem len_sync (s : DS) : s.sync.safe.length = s.safe.length := by
  unfold DS.sync
  split
  · rfl
  · exact len_step s _ (len_settle s.tick)
theorem plan_step (s : DS) (f : DS → DS) (hf : (f s.tick).plan = s.plan) : (s.step f).plan = s.plan := by
  unfold DS.step
  split
  · rfl
  · split
    · rfl
    · split
      · exact hf
      · exact hf
theorem plan_write (s : DS) (i : Int) (l : List Nat) : (s.write i l).plan = s.plan := by
  unfold DS.write
  split
  · rfl
  · split
    · rfl
    · split
      · rfl
      · exact plan_step s _ rfl
theorem plan_sync (s : DS) : s.sync.plan = s.plan := by
  unfold DS.sync
  split
  · rfl
  · exact plan_step s _ rfl
theorem step_ok {f : DS → DS} (h : s.code = 0) : s.step f = f s.tick := by
  unfold DS.code at h
  unfold DS.step
  split at h
  · omega
  · split at h
    · omega
    · split at h
      · omega
      · rw [if_neg ‹_›, if_neg ‹_›, if_neg ‹_›]
theorem code_fate (h : s.code ≠ 0) : s.fate = 1 ∨ s.fate = 2 ∨ s.fate = 3 := by
  unfold DS.code at h
  split at h
  · exact .inl ‹_›
  · split at h
    · exact .inr (.inl ‹_›)
    · split at h
      · exact .inr (.inr ‹_›)
      · exact absurd rfl h
theorem step_stepsW (s : DS) (f : DS → DS) (hf : (f s.tick).steps = s.steps + 1) : (s.step f).steps = s.steps + 1 := by
  unfold DS.step
  split
  · rfl
  · split
    · rfl
    · split
      · exact hf
      · exact hf
end

section
variable {s : DS} {run first k : Nat} {st : List Nat}
/-- A sector of the stream is written: the disk is on, the sector is there. -/
theorem writeE_sect (hoff : s.off = false) (hst : ∀ x ∈ st, x < 256) (hk : first + k < s.safe.length) : s.writeE ((first : Int) + (k : Int)) (sect run st k) = s.code ∧ s.write ((first : Int) + (k : Int)) (sect run st k) = s.step (DS.put ((first : Int) + (k : Int)) (sect run st k)) := by
  have h1 := sect_ok (run := run) hst k
  have h2 : s.isSec ((first : Int) + (k : Int)) = true := by unfold DS.isSec; simp; omega
  unfold DS.writeE DS.write
  rw [hoff, h2, h1.1, pad_full h1.1]
  exact ⟨by simp, by simp⟩
theorem sync_on (hoff : s.off = false) : s.syncE = s.code ∧ s.sync = s.step DS.settle := by
  unfold DS.syncE DS.sync
  rw [hoff]
  exact ⟨by simp, by simp⟩
set_option maxRecDepth 100000 in
theorem EachSec.save {P : Nat → List Nat → Prop} (hst : ∀ x ∈ st, x < 256) : ∀ (n k : Nat) (s : DS), (∀ i, (i = k ∨ i * 498 < st.length) → P (first + i) (sect run st i)) → EachSec P s → EachSec P (DS.save run first st n k s).1
  | 0, _, s, _, h => h
  | n + 1, k, s, hP, h => by
    have h1 : EachSec P (s.write ((first : Int) + (k : Int)) (sect run st k)) := h.write (fun i hi => by
      rw [pad_full (sect_ok hst k).1]
      have : i = first + k := by omega
      rw [this]; exact hP k (.inl rfl))
    simp only [DS.save]
    split
    · split
      · exact h1.sync
      · rename_i h2
        exact EachSec.save hst n (k + 1) _ (fun i hi => hP i (.inr (by rcases hi with hi | hi; (subst hi; omega); exact hi))) h1
    · exact h1
theorem len_save (first : Int) : ∀ (n k : Nat) (s : DS), (DS.save run first st n k s).1.safe.length = s.safe.length
  | 0, _, s => rfl
  | n + 1, k, s => by
    simp only [DS.save]
    split
    · split
      · exact (len_sync _).trans (len_write _ _ _)
      · exact (len_save first n (k + 1) _).trans (len_write _ _ _)
    · exact len_write _ _ _
theorem plan_save (first : Int) : ∀ (n k : Nat) (s : DS), (DS.save run first st n k s).1.plan = s.plan
  | 0, _, s => rfl
  | n + 1, k, s => by
    simp only [DS.save]
    split
    · split
      · exact (plan_sync _).trans (plan_write _ _ _)
      · exact (plan_save first n (k + 1) _).trans (plan_write _ _ _)
    · exact plan_write _ _ _
set_option maxRecDepth 100000 in
theorem steps_save (first : Int) : ∀ (c n k : Nat) (s : DS), st.length ≤ (k + c) * 498 → 1 ≤ c → (DS.save run first st n k s).1.steps ≤ s.steps + c + 1
  | 0, _, _, _, _, h => by omega
  | c + 1, 0, k, s, _, _ => by show s.steps ≤ _; omega
  | c + 1, n + 1, k, s, h, _ => by
    have h1 := write_steps5 s (first + (k : Int)) (sect run st k)
    simp only [DS.save]
    split
    · split
      · have h2 : (s.write (first + (k : Int)) (sect run st k)).sync.steps ≤ (s.write (first + (k : Int)) (sect run st k)).steps + 1 := by
          unfold DS.sync
          split
          · omega
          · rw [step_stepsW _ _ rfl]; omega
        dsimp only
        omega
      · rename_i h3
        have h4 := steps_save first c n (k + 1) (s.write (first + (k : Int)) (sect run st k)) (by rw [show k + 1 + c = k + (c + 1) by omega]; exact h) (by
          by_cases hc : c = 0
          · subst hc; omega
          · omega)
        omega
    · dsimp only; omega
/-- A save that went well. -/
structure SaveOk (run first : Nat) (st : List Nat) (k : Nat) (s s' : DS) : Prop where
  off : s'.off = false
  pend : s'.pend = fun _ => none
  new : ∀ i : Nat, i < s.safe.length → (i = first + k ∨ (first + k < i ∧ (i - first) * 498 < st.length)) → s'.safe.getD i [] = sect run st (i - first)
  old : ∀ i : Nat, i < s.safe.length → ¬ (i = first + k ∨ (first + k < i ∧ (i - first) * 498 < st.length)) → s'.safe.getD i [] = s.has i
  steps : s.steps + 2 ≤ s'.steps
set_option maxRecDepth 100000 in
theorem save_well (hst : ∀ x ∈ st, x < 256) : ∀ (n k : Nat) (s : DS), s.off = false → 1 ≤ n → st.length ≤ (k + n) * 498 → (st.length ≤ (k + 1) * 498 ∨ k * 498 < st.length) → (∀ i, (i = k ∨ i * 498 < st.length) → first + i < s.safe.length) → (DS.save run first st n k s).2 = 0 → SaveOk run first st k s (DS.save run first st n k s).1
  | 0, _, _, _, h, _, _, _, _ => by omega
  | n + 1, k, s, hoff, _, hfu, hk, hfit, he => by
    obtain ⟨w1, w2⟩ := writeE_sect (run := run) (first := first) hoff hst (hfit k (.inl rfl))
    by_cases hw : s.writeE ((first : Int) + (k : Int)) (sect run st k) = 0
    · have hs1 : s.write ((first : Int) + (k : Int)) (sect run st k) = DS.put ((first : Int) + (k : Int)) (sect run st k) s.tick := by rw [w2]; exact step_ok (by rw [← w1]; exact hw)
      obtain ⟨s1, hs⟩ : ∃ s1, s1 = s.write ((first : Int) + (k : Int)) (sect run st k) := ⟨_, rfl⟩
      have o1 : s1.off = false := by rw [hs, hs1]; exact hoff
      have t1 : s1.steps = s.steps + 1 := by rw [hs, hs1]; rfl
      have l1 : s1.safe.length = s.safe.length := by rw [hs, hs1]; rfl
      have h1 : ∀ i : Nat, s1.has i = if i = first + k then sect run st k else s.has i := by
        intro i
        rw [hs, hs1, has_put]
        by_cases hi : i = first + k
        · rw [if_pos (by omega), if_pos hi]
        · rw [if_neg (by omega), if_neg hi]; rfl
      by_cases hend : st.length ≤ (k + 1) * 498
      · rw [save_last hw hend, ← hs] at he ⊢
        dsimp only at he ⊢
        obtain ⟨y1, y2⟩ := sync_on o1
        have hy : s1.sync = s1.tick.settle := by rw [y2]; exact step_ok (by rw [← y1]; exact he)
        have hg : ∀ i : Nat, i < s.safe.length → s1.sync.safe.getD i [] = s1.has i := fun i hi => by rw [hy]; exact getD_settle s1.tick i (by rw [← l1] at hi; exact hi)
        refine ⟨by rw [hy]; exact o1, by rw [hy]; rfl, ?_, ?_, by rw [hy]; show _ ≤ s1.steps + 1; omega⟩
        · intro i hi hc
          have e : i = first + k := by
            rcases hc with hc | ⟨hc, hc2⟩
            · exact hc
            · have : (k + 1) * 498 ≤ (i - first) * 498 := Nat.mul_le_mul_right _ (by omega)
              omega
          rw [hg i hi, h1, if_pos e, e, Nat.add_sub_cancel_left]
        · intro i hi hc
          rw [hg i hi, h1, if_neg (fun e => hc (.inl e))]
      · rw [save_next hw hend, ← hs] at he ⊢
        have ih := save_well hst n (k + 1) s1 o1 (by
          by_cases hn : n = 0
          · subst hn; omega
          · omega) (by rw [show k + 1 + n = k + (n + 1) by omega]; exact hfu) (.inr (by omega)) (fun i hi => by
            rw [l1]
            exact hfit i (.inr (by rcases hi with hi | hi; (subst hi; omega); exact hi))) he
        refine ⟨ih.off, ih.pend, ?_, ?_, by have := ih.steps; omega⟩
        · intro i hi hc
          by_cases hi2 : i = first + k
          · rw [ih.old i (by omega) (by omega), h1, if_pos hi2, hi2, Nat.add_sub_cancel_left]
          · have hc2 : first + k < i ∧ (i - first) * 498 < st.length := by rcases hc with hc | hc; (exact absurd hc hi2); exact hc
            by_cases hi3 : i = first + (k + 1)
            · exact ih.new i (by omega) (.inl hi3)
            · exact ih.new i (by omega) (.inr ⟨by omega, hc2.2⟩)
        · intro i hi hc
          have hne : ¬ (i = first + (k + 1) ∨ (first + (k + 1) < i ∧ (i - first) * 498 < st.length)) := by
            rintro (h | ⟨h, h2⟩)
            · refine hc (.inr ⟨by omega, ?_⟩)
              rw [h, Nat.add_sub_cancel_left]; omega
            · exact hc (.inr ⟨by omega, h2⟩)
          rw [ih.old i (by omega) hne, h1, if_neg (fun e => hc (.inl e))]
    · rw [save_fail hw] at he
      exact absurd he hw
set_option maxRecDepth 100000 in
/-- A disk whose plan has one fate, at step X; the disk is on. -/
theorem save_hit (hst : ∀ x ∈ st, x < 256) (X : Nat) (q : Int) (hq : 1 ≤ q ∧ q ≤ 3) : ∀ (n k : Nat) (s : DS), s.off = false → (∀ j : Int, s.plan j = if j = (X : Int) then q else 0) → 1 ≤ n → st.length ≤ (k + n) * 498 → (∀ i, (i = k ∨ i * 498 < st.length) → first + i < s.safe.length) →
    ((DS.save run first st n k s).2 ≠ 0 ↔ s.steps < X ∧ X ≤ (DS.save run first st n k s).1.steps)
  | 0, _, _, _, _, h, _, _ => by omega
  | n + 1, k, s, hoff, hpl, _, hfu, hfit => by
    obtain ⟨w1, w2⟩ := writeE_sect (run := run) (first := first) hoff hst (hfit k (.inl rfl))
    have hf : ∀ s : DS, (∀ j : Int, s.plan j = if j = (X : Int) then q else 0) → ((s.code ≠ 0 ↔ s.steps + 1 = X)) := by
      intro s hp
      have e : s.fate = if s.steps + 1 = X then q else 0 := by
        unfold DS.fate
        rw [hp]
        by_cases h : s.steps + 1 = X
        · rw [if_pos (by omega), if_pos h]
        · rw [if_neg (by omega), if_neg h]
      constructor
      · intro h
        rcases code_fate h with h | h | h <;> (rw [e] at h; split at h <;> first | assumption | omega)
      · intro h
        rw [if_pos h] at e
        unfold DS.code
        rw [e]
        split
        · simp
        · split
          · simp
          · split
            · simp
            · omega
    have hws : (s.write ((first : Int) + (k : Int)) (sect run st k)).steps = s.steps + 1 := by rw [w2, step_stepsW _ _ rfl]
    by_cases hw : s.writeE ((first : Int) + (k : Int)) (sect run st k) = 0
    · have hX : s.steps + 1 ≠ X := fun h => ((hf s hpl).2 h) (by rw [← w1]; exact hw)
      have hs1 : s.write ((first : Int) + (k : Int)) (sect run st k) = DS.put ((first : Int) + (k : Int)) (sect run st k) s.tick := by rw [w2]; exact step_ok (by rw [← w1]; exact hw)
      obtain ⟨s1, hs⟩ : ∃ s1, s1 = s.write ((first : Int) + (k : Int)) (sect run st k) := ⟨_, rfl⟩
      have o1 : s1.off = false := by rw [hs, hs1]; exact hoff
      have l1 : s1.safe.length = s.safe.length := by rw [hs, hs1]; rfl
      have p1 : ∀ j : Int, s1.plan j = if j = (X : Int) then q else 0 := by rw [hs, hs1]; exact hpl
      rw [← hs] at hws
      by_cases hend : st.length ≤ (k + 1) * 498
      · rw [save_last hw hend, ← hs]
        dsimp only
        obtain ⟨y1, y2⟩ := sync_on o1
        rw [y1, y2, step_stepsW _ _ rfl, hf s1 p1]
        omega
      · rw [save_next hw hend, ← hs]
        have ih := save_hit hst X q hq n (k + 1) s1 o1 p1 (by
          by_cases hn : n = 0
          · subst hn; omega
          · omega) (by rw [show k + 1 + n = k + (n + 1) by omega]; exact hfu) (fun i hi => by
            rw [l1]
            exact hfit i (.inr (by rcases hi with hi | hi; (subst hi; omega); exact hi)))
        rw [ih]
        omega
    · rw [save_fail hw]
      dsimp only
      rw [hws]
      have := (hf s hpl).1 (by rw [← w1]; exact hw)
      constructor
      · intro _; omega
      · intro _; exact hw
set_option maxRecDepth 100000 in
theorem save_clean (hst : ∀ x ∈ st, x < 256) : ∀ (n k : Nat) (s : DS), Clean s → (∀ i, (i = k ∨ i * 498 < st.length) → first + i < s.safe.length) → (DS.save run first st n k s).2 = 0
  | 0, _, _, _, _ => rfl
  | n + 1, k, s, hc, hfit => by
    obtain ⟨w1, w2⟩ := writeE_sect (run := run) (first := first) hc.off hst (hfit k (.inl rfl))
    have hw : s.writeE ((first : Int) + (k : Int)) (sect run st k) = 0 := w1.trans hc.code
    have hs1 : s.write ((first : Int) + (k : Int)) (sect run st k) = DS.put ((first : Int) + (k : Int)) (sect run st k) s.tick := by rw [w2]; exact step_ok hc.code
    have c1 : Clean (s.write ((first : Int) + (k : Int)) (sect run st k)) := by rw [hs1]; exact ⟨hc.plan, hc.off⟩
    by_cases hend : st.length ≤ (k + 1) * 498
    · rw [save_last hw hend]
      exact c1.sync.1
    · rw [save_next hw hend]
      exact save_clean hst n (k + 1) _ c1 (fun i hi => by
        rw [hs1]
        exact hfit i (.inr (by rcases hi with hi | hi; (subst hi; omega); exact hi)))
end
end Go.Proofs.Ytplkdcegfpiofaa

/-
  A log that lies on its disk, in plain words: what Format, Open, Reset, Append and Flush make of it. No walk.
-/
namespace Go.Proofs.Ytplkdcegfpiofaa
open Go.RowKit Go.Maps
set_option linter.unusedVariables false

/-- The log's stream is these records. -/
structure Recs (m : LG) (rs : List RecT) : Prop where
  st : m.st = strm rs
  begs : m.begs = begsAt 0 rs
  ok : ∀ r ∈ rs, RecOk r
theorem Recs.lt {m : LG} {rs : List RecT} (h : Recs m rs) : ∀ x ∈ m.st, x < 256 := by rw [h.st]; exact strm_lt h.ok
theorem Recs.room {m : LG} {rs : List RecT} (h : Recs m rs) (hc : m.count ≤ 1000) (hst : m.st.length ≤ m.count * 498) : rs.length ≤ 249000 := by
  have := strm_ge rs
  rw [← h.st] at this
  omega
/-- The sectors of a log: what each is. -/
def SecAt (m : LG) (st : List Nat) (f : Nat) (i : Nat) (b : List Nat) : Prop := m.first ≤ i → i < m.first + m.count → Sec3 st f m.run b (i - m.first) ∧ secRun b ≤ m.most
/-- A log that goes on, and its disk: nothing is pending, the sectors bear what is safe. -/
structure Good (s : DS) (m : LG) (rs : List RecT) : Prop where
  ok : m.Ok
  off : s.off = false
  pend : s.pend = fun _ => none
  fit : m.first + m.count ≤ s.safe.length
  run : 1 ≤ m.run
  recs : Recs m rs
  dead : m.dead = false
  sec : EachSec (SecAt m (m.st.take m.safe) m.safe) s
section
variable {s : DS} {m : LG} {rs : List RecT}
set_option maxRecDepth 100000 in
theorem sec3_later {st : List Nat} {f R : Nat} {b : List Nat} {k : Nat} (hf : f ≤ st.length) (h : Sec3 (st.take f) f R b k) : Sec3 st f R b k := by
  have hl : (st.take f).length = f := by rw [List.length_take]; omega
  rcases h with ⟨h1, h2, h3⟩ | ⟨h1, h2, h3, h4, h5⟩ | h
  · rw [hl] at h3
    by_cases h4 : (k + 1) * 498 ≤ f
    · refine .inl ⟨h1, ?_, ?_⟩
      · rw [h2]
        unfold pieceOf
        rw [List.drop_take, List.take_take]
        congr 1
        omega
      · rcases h3 with h3 | h3
        · exact .inl h3
        · exact .inr (by omega)
    · refine .inr (.inl ⟨h1, h2, ?_, by omega, h3⟩)
      rcases h3 with h3 | h3
      · subst h3; omega
      · omega
  · refine .inr (.inl ⟨h1, ?_, h3, h4, h5⟩)
    rw [h2, List.take_take, Nat.min_self]
  · exact .inr (.inr h)
set_option maxRecDepth 100000 in
theorem Good.later (h : Good s m rs) : EachSec (SecAt m m.st m.safe) s := h.sec.mono fun i b _ hb h1 h2 => ⟨sec3_later h.ok.safe (hb h1 h2).1, (hb h1 h2).2⟩
theorem room_le {n q : Nat} (h : ¬ m.room < 1 + n) (ho : m.Ok) : m.st.length + (1 + n) ≤ m.count * 498 := by have := ho.st; unfold LG.room at h; omega
set_option maxRecDepth 100000 in
/-- Append keeps a log. -/
theorem Good.append (h : Good s m rs) (kind : Int) (body : List Nat) (hb : ∀ x ∈ body, x < 256) :
    ((m.append kind body).2.2 = 0 ∧ 1 ≤ kind ∧ kind ≤ 255 ∧ m.fresh = true ∧ body.length ≤ 1200 ∧ (m.append kind body).2.1 = m.lsn m.st.length ∧ (m.append kind body).1 = { m with st := m.st ++ recL kind.toNat body, begs := m.begs ++ [m.st.length] } ∧ Good s (m.append kind body).1 (rs ++ [(kind.toNat, body)])) ∨
    ((m.append kind body).2.2 ≠ 0 ∧ (m.append kind body).2.1 = 0 ∧ (m.append kind body).1 = m) := by
  have hd : ¬ m.dead = true := by rw [h.dead]; simp
  unfold LG.append
  rw [if_neg hd]
  by_cases hf : m.fresh = false
  · rw [if_pos hf]
    exact .inr ⟨by simp, by simp, by simp⟩
  · rw [if_neg hf]
    split
    · exact .inr ⟨by simp, by simp, by simp⟩
    · split
      · exact .inr ⟨by simp, by simp, by simp⟩
      · split
        · exact .inr ⟨by simp, by simp, by simp⟩
        · rename_i h1 h2 h3
          have hroom := room_le (q := 0) h3 h.ok
          have hl : (recL kind.toNat body).length = 1 + (putL body.length ++ body).length := by unfold recL; rw [List.length_cons]; omega
          refine .inl ⟨rfl, by omega, by omega, by simpa using hf, by omega, rfl, rfl, ?_⟩
          have e : (m.st ++ recL kind.toNat body).take m.safe = m.st.take m.safe := List.take_append_of_le_length h.ok.safe
          refine ⟨⟨h.ok.first, h.ok.count, h.ok.run, ?_, ?_, ?_⟩, h.off, h.pend, h.fit, h.run, ⟨?_, ?_, ?_⟩, h.dead, ?_⟩
          · dsimp only; rw [List.length_append, hl]; omega
          · dsimp only; rw [List.length_append]; have := h.ok.safe; omega
          · dsimp only
            rw [List.length_append, List.length_append, List.length_singleton, hl]
            refine ⟨by have := h.ok.begs.1; omega, fun b hb => ?_⟩
            rcases List.mem_append.1 hb with hb | hb
            · have := h.ok.begs.2 b hb; omega
            · rw [List.mem_singleton.1 hb]; omega
          · dsimp only; rw [strm_snoc, h.recs.st]
          · dsimp only; rw [begsAt_snoc, h.recs.begs, h.recs.st, Nat.zero_add]
          · intro r hr
            rcases List.mem_append.1 hr with hr | hr
            · exact h.recs.ok r hr
            · rw [List.mem_singleton.1 hr]; exact ⟨by dsimp only; omega, by dsimp only; omega, by dsimp only; omega, hb⟩
          · have := h.sec
            unfold SecAt at this ⊢
            dsimp only
            rw [e]
            exact this
set_option maxRecDepth 100000 in
theorem sect_a {run : Nat} {st : List Nat} (h1 : 1 ≤ run) (h2 : run ≤ 274877906944) (k : Nat) : secRun (sect run st k) = run ∧ secPart (sect run st k) = pieceOf st k := ⟨sec_run (sect_len run st k) h1 h2, sec_part (sect_len run st k) h1 h2⟩
set_option maxRecDepth 100000 in
theorem Good.fits (h : Good s m rs) : ∀ i, (i = m.safe / 498 ∨ i * 498 < m.st.length) → m.safe ≠ m.st.length → m.first + i < s.safe.length := by
  intro i hi hne
  have h1 := h.ok.safe
  have h2 := h.ok.st
  have h3 := h.fit
  have : i * 498 < m.count * 498 := by
    rcases hi with hi | hi
    · subst hi; omega
    · omega
  have := Nat.lt_of_mul_lt_mul_right this
  omega
set_option maxRecDepth 100000 in
/-- A Flush that went well. -/
theorem Good.flush_ok (h : Good s m rs) (he : (m.flush s).2.2 = 0) : Good (m.flush s).1 (m.flush s).2.1 rs ∧ (m.flush s).2.1 = { m with safe := m.st.length } ∧ (m.flush s).1.plan = s.plan ∧ (m.flush s).1.safe.length = s.safe.length ∧ (m.safe = m.st.length → (m.flush s).1 = s) := by
  have hd : ¬ m.dead = true := by rw [h.dead]; simp
  unfold LG.flush at he ⊢
  rw [if_neg hd] at he ⊢
  by_cases hs : m.safe = m.st.length
  · rw [if_pos hs] at he ⊢
    have e : ({ m with safe := m.st.length } : LG) = m := by rw [← hs]
    exact ⟨h, e.symm, rfl, rfl, fun _ => rfl⟩
  · rw [if_neg hs] at he ⊢
    by_cases hv : (DS.save m.run m.first m.st m.st.length (m.safe / 498) s).2 = 0
    · rw [if_pos hv]
      have h1 := h.ok.safe
      have h2 := h.ok.st
      have hw := save_well (run := m.run) (first := m.first) h.recs.lt m.st.length (m.safe / 498) s h.off (by omega) (by omega) (.inr (by omega)) (fun i hi => h.fits i hi hs) hv
      have hl := len_save (run := m.run) (st := m.st) m.first m.st.length (m.safe / 498) s
      refine ⟨⟨⟨h.ok.first, h.ok.count, h.ok.run, h.ok.st, Nat.le_refl _, h.ok.begs⟩, hw.off, hw.pend, by rw [hl]; exact h.fit, h.run, ⟨h.recs.st, h.recs.begs, h.recs.ok⟩, h.dead, ?_⟩, rfl, plan_save _ _ _ _, hl, fun e => absurd e hs⟩
      have key : ∀ i : Nat, i < s.safe.length → m.first ≤ i → i < m.first + m.count → Sec3 m.st m.st.length m.run ((DS.save m.run m.first m.st m.st.length (m.safe / 498) s).1.safe.getD i []) (i - m.first) ∧ secRun ((DS.save m.run m.first m.st m.st.length (m.safe / 498) s).1.safe.getD i []) ≤ m.most := by
        intro i hi hi1 hi2
        obtain ⟨k, hk⟩ : ∃ k, i = m.first + k := ⟨i - m.first, by omega⟩
        by_cases hc : i = m.first + m.safe / 498 ∨ (m.first + m.safe / 498 < i ∧ (i - m.first) * 498 < m.st.length)
        · rw [hw.new i hi hc]
          have ha := sect_a (st := m.st) h.run (by have := h.ok.run; omega) (i - m.first)
          refine ⟨.inl ⟨ha.1, ha.2, .inr ?_⟩, by rw [ha.1]; exact h.ok.run.1⟩
          rcases hc with hc | hc
          · rw [hc, Nat.add_sub_cancel_left]; omega
          · exact hc.2
        · rw [hw.old i hi hc]
          obtain ⟨o1, o2⟩ := (h.sec i hi).2 hi1 hi2
          refine ⟨?_, o2⟩
          subst hk
          rw [Nat.add_sub_cancel_left] at o1 hc ⊢
          have hlt : (m.st.take m.safe).length = m.safe := by rw [List.length_take]; omega
          rcases o1 with ⟨a1, a2, a3⟩ | ⟨a1, a2, a3, a4, a5⟩ | ⟨a1, a2, a3⟩
          · rw [hlt] at a3
            have hk2 : k < m.safe / 498 := by omega
            refine .inl ⟨a1, ?_, .inr (by omega)⟩
            rw [a2]
            unfold pieceOf
            rw [List.drop_take, List.take_take]
            congr 1
            omega
          · omega
          · exact .inr (.inr ⟨a1, a2, by omega⟩)
      intro i hi
      rw [hl] at hi
      have e : (DS.save m.run m.first m.st m.st.length (m.safe / 498) s).1.has i = (DS.save m.run m.first m.st m.st.length (m.safe / 498) s).1.safe.getD i [] := by
        unfold DS.has
        rw [hw.pend]; rfl
      rw [e]
      unfold SecAt
      dsimp only
      rw [List.take_length]
      exact ⟨key i hi, key i hi⟩
    · rw [if_neg hv] at he
      exact absurd he hv
set_option maxRecDepth 100000 in
/-- What is on the disk behind a Flush, whatever befell it. -/
theorem Good.flush_any (h : Good s m rs) : EachSec (SecAt m m.st m.safe) (m.flush s).1 ∧ (m.flush s).1.safe.length = s.safe.length ∧ (m.flush s).1.plan = s.plan := by
  have hd : ¬ m.dead = true := by rw [h.dead]; simp
  unfold LG.flush
  rw [if_neg hd]
  by_cases hs : m.safe = m.st.length
  · rw [if_pos hs]; exact ⟨h.later, rfl, rfl⟩
  · rw [if_neg hs]
    have hl := len_save (run := m.run) (st := m.st) m.first m.st.length (m.safe / 498) s
    have hp := plan_save (run := m.run) (st := m.st) m.first m.st.length (m.safe / 498) s
    have hx : EachSec (SecAt m m.st m.safe) (DS.save m.run m.first m.st m.st.length (m.safe / 498) s).1 := by
      have h1 := h.ok.safe
      refine EachSec.save h.recs.lt _ _ s (fun k hk _ _ => ?_) h.later
      rw [Nat.add_sub_cancel_left]
      have ha := sect_a (st := m.st) h.run (by have := h.ok.run; omega) k
      exact ⟨.inl ⟨ha.1, ha.2, .inr (by omega)⟩, by rw [ha.1]; exact h.ok.run.1⟩
    split
    · exact ⟨hx, hl, hp⟩
    · exact ⟨hx, hl, hp⟩
end
end Go.Proofs.Ytplkdcegfpiofaa

/-
  A log that is formatted, opened, reset, in plain words. No walk.
-/
namespace Go.Proofs.Ytplkdcegfpiofaa
open Go.RowKit Go.Maps
set_option linter.unusedVariables false

/-- The log that Open finds. -/
noncomputable def LG.opened (s : DS) (first count : Nat) : LG :=
  ⟨first, count, (RS.upto s first count).run, (RS.upto s first count).most, (RS.upto s first count).st.take (scan (RS.upto s first count).st ((RS.upto s first count).st.length + 1) 0).2,
    (scan (RS.upto s first count).st ((RS.upto s first count).st.length + 1) 0).1, ((RS.upto s first count).st.take (scan (RS.upto s first count).st ((RS.upto s first count).st.length + 1) 0).2).length, false, false⟩
set_option maxRecDepth 100000 in
theorem opened_ok (s : DS) {first count : Nat} (hf : first ≤ 4096) (hc : 1 ≤ count ∧ count ≤ 4096) : (LG.opened s first count).Ok := by
  have h := RS.log_ok s hf hc (Nat.le_refl count)
  have h2 := scan_ok (RS.upto s first count).st ((RS.upto s first count).st.length + 1) 0 (Nat.zero_le _)
  have h3 := h.st
  have e : ((RS.upto s first count).log first count).st = (RS.upto s first count).st := rfl
  rw [e] at h3
  have e2 : ((RS.upto s first count).log first count).count = count := rfl
  rw [e2] at h3
  have hl : (LG.opened s first count).st.length = (scan (RS.upto s first count).st ((RS.upto s first count).st.length + 1) 0).2 := by
    unfold LG.opened
    dsimp only
    rw [List.length_take]
    omega
  refine ⟨hf, hc, h.run, by rw [hl]; exact Nat.le_trans h2.2.1 h3, Nat.le_refl _, ?_⟩
  rw [hl]
  exact ⟨by have := h2.2.2.1; unfold LG.opened; dsimp only; omega, fun b hb => (h2.2.2.2 b hb).2⟩
set_option maxRecDepth 100000 in
theorem whole_half (rs : List RecT) (j : Nat) : 2 * whole rs j ≤ j := by
  have h1 := whole_fit rs j
  have h2 := strm_ge (rs.take (whole rs j))
  rw [List.length_take, Nat.min_eq_left (whole_le rs j)] at h2
  omega
set_option maxRecDepth 100000 in
/-- Open finds a beginning of the records, with all that was safe. -/
theorem opened_recs {s : DS} {first count f R : Nat} {rs : List RecT} (hok : ∀ r ∈ rs, RecOk r) (hf : f ≤ (strm rs).length) (hst : (strm rs).length ≤ count * 498) (hc : 1 ≤ count) (hsec : ∀ k, k < count → Sec3 (strm rs) f R (s.has (first + k)) k) :
    ∃ i, i ≤ rs.length ∧ (∀ a, a ≤ rs.length → (strm (rs.take a)).length ≤ f → a ≤ i) ∧ Recs (LG.opened s first count) (rs.take i) ∧ (LG.opened s first count).run = R := by
  obtain ⟨j, h1, h2, h3, h4⟩ := read_all hf hst hc s first hsec
  have hw := whole_half rs j
  have hlen : (RS.upto s first count).st.length = j := by rw [h1, List.length_take]; omega
  have hsc := scan_strm rs [] j (j + 1) hok (by omega) h3
  simp only [List.nil_append, List.length_nil, Nat.zero_add] at hsc
  have hfit := whole_fit rs j
  refine ⟨whole rs j, whole_le rs j, fun a ha hl => whole_ge rs j a ha (by omega), ⟨?_, ?_, fun r hr => hok r (List.mem_of_mem_take hr)⟩, h4⟩
  · unfold LG.opened
    dsimp only
    rw [hlen, h1, hsc]
    dsimp only
    rw [List.take_take, Nat.min_eq_left hfit, strm_take]
  · unfold LG.opened
    dsimp only
    rw [hlen, h1, hsc]
/-- A log whose runs are known, on its disk. -/
structure Fits (s : DS) (m : LG) : Prop where
  ok : m.Ok
  off : s.off = false
  fit : m.first + m.count ≤ s.safe.length
  run : 1 ≤ m.run
  dead : m.dead = false
  sec : EachSec (fun i b => m.first ≤ i → i < m.first + m.count → secRun b ≤ m.most) s
theorem Good.fits_ {s : DS} {m : LG} {rs : List RecT} (h : Good s m rs) : Fits s m := ⟨h.ok, h.off, h.fit, h.run, h.dead, h.sec.mono fun i b _ hb h1 h2 => (hb h1 h2).2⟩
set_option maxRecDepth 100000 in
theorem opened_fits {s : DS} {first count : Nat} (hoff : s.off = false) (hpend : s.pend = fun _ => none) (hfit : first + count ≤ s.safe.length) (hf : first ≤ 4096) (hc : 1 ≤ count ∧ count ≤ 4096) (hrun : 1 ≤ (LG.opened s first count).run) : Fits s (LG.opened s first count) := by
  refine ⟨opened_ok s hf hc, hoff, hfit, hrun, rfl, fun i hi => ?_⟩
  have e : s.has i = s.safe.getD i [] := by unfold DS.has; rw [hpend]; rfl
  have h2 : first ≤ i → i < first + count → secRun (s.has i) ≤ (RS.upto s first count).most := by
    intro h3 h4
    have := (upto_most s first count).1 (i - first) (by omega)
    rw [show first + (i - first) = i by omega] at this
    exact this
  rw [← e]
  exact ⟨h2, h2⟩
theorem strm_empty : strm [] = [] := rfl
theorem piece_empty (k : Nat) : pieceOf [] k = [] := by unfold pieceOf; simp
/-- A new run. -/
theorem Sec3.first {R : Nat} {b : List Nat} (h1 : secRun b = R) (h2 : secPart b = []) : Sec3 [] 0 R b 0 := .inl ⟨h1, by rw [h2, piece_empty], .inl rfl⟩
theorem Sec3.other {R : Nat} {b : List Nat} {k : Nat} (h1 : secRun b ≠ R) (hk : 1 ≤ k) : Sec3 [] 0 R b k := .inr (.inr ⟨h1, hk, Nat.zero_le _⟩)
set_option maxRecDepth 100000 in
theorem anew_ok {m : LG} (h : m.Ok) (hm : m.most < 274877906944) : m.anew.Ok := by
  refine ⟨h.first, h.count, ?_, ?_, ?_, ?_⟩
  · show m.most + 1 ≤ m.most + 1 ∧ m.most + 1 ≤ 274877906944; omega
  · show 0 ≤ _; omega
  · show 0 ≤ _; omega
  · show 0 ≤ 0 ∧ ∀ b ∈ ([] : List Nat), b < 0; simp
theorem nil_lt : ∀ x ∈ ([] : List Nat), x < 256 := by simp
set_option maxRecDepth 100000 in
theorem Fits.reset_ok {s : DS} {m : LG} (h : Fits s m) (he : (m.reset s).2.2 = 0) : Good (m.reset s).1 m.anew [] ∧ (m.reset s).2.1 = m.anew ∧ (m.reset s).1.plan = s.plan ∧ (m.reset s).1.safe.length = s.safe.length ∧ m.most < 274877906944 ∧ s.steps + 2 ≤ (m.reset s).1.steps := by
  have hd : ¬ m.dead = true := by rw [h.dead]; simp
  unfold LG.reset at he ⊢
  rw [if_neg hd] at he ⊢
  by_cases hm : 274877906944 ≤ m.most
  · rw [if_pos hm] at he; simp at he
  · rw [if_neg hm] at he ⊢
    by_cases hv : (DS.save (m.most + 1) m.first [] 1 0 s).2 = 0
    · rw [if_pos hv]
      have hc := h.ok.count
      have hw := save_well (run := m.most + 1) (first := m.first) nil_lt 1 0 s h.off (by omega) (by simp) (.inl (by simp)) (fun i hi => by have := h.fit; simp at hi; omega) hv
      have hl := len_save (run := m.most + 1) (st := []) m.first 1 0 s
      refine ⟨⟨anew_ok h.ok (by omega), hw.off, hw.pend, by rw [hl]; exact h.fit, by show 1 ≤ m.most + 1; omega, ⟨rfl, rfl, by simp⟩, h.dead, ?_⟩, rfl, plan_save _ _ _ _, hl, by omega, hw.steps⟩
      intro i hi
      rw [hl] at hi
      have e : (DS.save (m.most + 1) m.first [] 1 0 s).1.has i = (DS.save (m.most + 1) m.first [] 1 0 s).1.safe.getD i [] := by
        unfold DS.has
        rw [hw.pend]; rfl
      rw [e]
      have key : m.first ≤ i → i < m.first + m.count → Sec3 [] 0 (m.most + 1) ((DS.save (m.most + 1) m.first [] 1 0 s).1.safe.getD i []) (i - m.first) ∧ secRun ((DS.save (m.most + 1) m.first [] 1 0 s).1.safe.getD i []) ≤ m.most + 1 := by
        intro h1 h2
        by_cases hi2 : i = m.first
        · rw [hw.new i hi (.inl (by omega)), hi2, Nat.sub_self]
          have ha := sect_a (st := []) (run := m.most + 1) (by omega) (by omega) 0
          exact ⟨Sec3.first ha.1 (by rw [ha.2, piece_empty]), by rw [ha.1]; omega⟩
        · rw [hw.old i hi (by simp; omega)]
          have := (h.sec i hi).2 h1 h2
          exact ⟨Sec3.other (by omega) (by omega), by omega⟩
      exact ⟨key, key⟩
    · rw [if_neg hv] at he
      exact absurd he hv
set_option maxRecDepth 100000 in
/-- What is on the disk behind a Reset, whatever befell it. -/
theorem Fits.reset_any {s : DS} {m : LG} {P : Nat → List Nat → Prop} (h : Fits s m) (hP : EachSec P s) : EachSec (fun i b => P i b ∨ (i = m.first ∧ b = sect (m.most + 1) [] 0 ∧ m.most < 274877906944)) (m.reset s).1 ∧ (m.reset s).1.safe.length = s.safe.length ∧ (m.reset s).1.plan = s.plan := by
  have hd : ¬ m.dead = true := by rw [h.dead]; simp
  unfold LG.reset
  rw [if_neg hd]
  split
  · exact ⟨hP.mono fun i b _ hb => .inl hb, rfl, rfl⟩
  · rename_i hm
    have hx : EachSec (fun i b => P i b ∨ (i = m.first ∧ b = sect (m.most + 1) [] 0 ∧ m.most < 274877906944)) (DS.save (m.most + 1) m.first [] 1 0 s).1 := by
      refine EachSec.save nil_lt 1 0 s (fun k hk => ?_) (hP.mono fun i b _ hb => .inl hb)
      have : k = 0 := by simpa using hk
      subst this
      exact .inr ⟨rfl, rfl, by omega⟩
    split
    · exact ⟨hx, len_save _ _ _ _, plan_save _ _ _ _⟩
    · exact ⟨hx, len_save _ _ _ _, plan_save _ _ _ _⟩
set_option maxRecDepth 100000 in
theorem Clean.reset {s : DS} {m : LG} (h : Fits s m) (hc : Clean s) (hm : m.most < 274877906944) : (m.reset s).2.2 = 0 := by
  have hd : ¬ m.dead = true := by rw [h.dead]; simp
  unfold LG.reset
  rw [if_neg hd, if_neg (by omega)]
  have := save_clean (run := m.most + 1) (first := m.first) nil_lt 1 0 s hc (fun i hi => by have := h.fit; have := h.ok.count; simp at hi; omega)
  rw [if_pos this]
set_option maxRecDepth 100000 in
theorem Clean.flush {s : DS} {m : LG} {rs : List RecT} (h : Good s m rs) (hc : Clean s) : (m.flush s).2.2 = 0 := by
  have hd : ¬ m.dead = true := by rw [h.dead]; simp
  unfold LG.flush
  rw [if_neg hd]
  by_cases hs : m.safe = m.st.length
  · rw [if_pos hs]
  · rw [if_neg hs]
    have := save_clean (run := m.run) (first := m.first) h.recs.lt m.st.length (m.safe / 498) s hc (fun i hi => h.fits i hi hs)
    rw [if_pos this]
set_option maxRecDepth 100000 in
/-- Format on a disk that has no run in the log's sectors. -/
theorem format_ok {s : DS} {first count : Nat} (hc : Clean s) (hfit : first + count ≤ s.safe.length) (h1 : 1 ≤ count) (hz : ∀ k, k < count → secRun (s.has (first + k)) = 0) :
    (DS.format first count s).2 = 0 ∧ (DS.format first count s).1.off = false ∧ (DS.format first count s).1.plan = s.plan ∧ (DS.format first count s).1.pend = (fun _ => none) ∧ (DS.format first count s).1.safe.length = s.safe.length ∧
      (∀ k, k < count → Sec3 [] 0 1 ((DS.format first count s).1.has (first + k)) k ∧ secRun ((DS.format first count s).1.has (first + k)) ≤ 1) ∧ (DS.format first count s).1.steps ≤ s.steps + 2 ∧
      (∀ i, i < s.safe.length → i < first ∨ first + count ≤ i → (DS.format first count s).1.has i = s.has i) := by
  have hth : thereB s.safe.length (first : Int) (count : Int) = true := by unfold thereB; simp; omega
  have e : DS.format first count s = DS.save 1 first [] 1 0 s := by unfold DS.format; rw [hth]; rfl
  rw [e]
  have hv := save_clean (run := 1) (first := first) nil_lt 1 0 s hc (fun i hi => by simp at hi; omega)
  have hw := save_well (run := 1) (first := first) nil_lt 1 0 s hc.off (by omega) (by simp) (.inl (by simp)) (fun i hi => by simp at hi; omega) hv
  have hl := len_save (run := 1) (st := []) first 1 0 s
  have hst := steps_save (run := 1) (st := []) first 1 1 0 s (by simp) (by omega)
  have hh : ∀ i, (DS.save 1 first [] 1 0 s).1.has i = (DS.save 1 first [] 1 0 s).1.safe.getD i [] := fun i => by
    unfold DS.has
    rw [hw.pend]; rfl
  refine ⟨hv, hw.off, plan_save _ _ _ _, hw.pend, hl, fun k hk => ?_, hst, fun i hi ho => ?_⟩
  · rw [hh]
    by_cases hk0 : k = 0
    · subst hk0
      rw [hw.new (first + 0) (by omega) (.inl rfl), Nat.add_zero, Nat.sub_self]
      have ha := sect_a (st := []) (run := 1) (by omega) (by omega) 0
      exact ⟨Sec3.first ha.1 (by rw [ha.2, piece_empty]), by rw [ha.1]; omega⟩
    · rw [hw.old (first + k) (by omega) (by simp; omega), hz k hk]
      exact ⟨Sec3.other (by rw [hz k hk]; omega) (by omega), by omega⟩
  · rw [hh, hw.old i hi (by simp; omega)]
theorem secRun_zero : secRun sec0 = 0 := secRun_no (fun h => by have := h.1; revert this; decide)
end Go.Proofs.Ytplkdcegfpiofaa

/-
  A log that begins: Format, Open and Reset on a disk without runs, in plain words. No walk.
-/
namespace Go.Proofs.Ytplkdcegfpiofaa
open Go.RowKit Go.Maps
set_option linter.unusedVariables false

theorem secRun_sec0 : secRun sec0 = 0 := secRun_zero
/-- The disk behind Format, and the log that Open finds then. -/
def fmtS (s : DS) (first count : Nat) : DS := (DS.format first count s).1
noncomputable def fmtL (s : DS) (first count : Nat) : LG := LG.opened (fmtS s first count) first count
/-- The disk behind the Reset. -/
noncomputable def begS (s : DS) (first count : Nat) : DS := ((fmtL s first count).reset (fmtS s first count)).1
noncomputable def begL (s : DS) (first count : Nat) : LG := (fmtL s first count).anew
structure Begun (s : DS) (first count : Nat) : Prop where
  fmt : (DS.format first count s).2 = 0
  clean1 : Clean (fmtS s first count)
  len1 : (fmtS s first count).safe.length = s.safe.length
  steps1 : (fmtS s first count).steps ≤ s.steps + 2
  log : isLog ((fmtS s first count).has first)
  recs : Recs (fmtL s first count) []
  run : (fmtL s first count).run = 1
  most : (fmtL s first count).most = 1
  fits : Fits (fmtS s first count) (fmtL s first count)
  res : (fmtL s first count).reset (fmtS s first count) = (begS s first count, begL s first count, 0)
  good : Good (begS s first count) (begL s first count) []
  clean2 : Clean (begS s first count)
  len2 : (begS s first count).safe.length = s.safe.length
  steps2 : (begS s first count).steps ≤ s.steps + 4
set_option maxRecDepth 100000 in
theorem begun {s : DS} {first count : Nat} (hc : Clean s) (hfit : first + count ≤ s.safe.length) (hf : first ≤ 4096) (h1 : 1 ≤ count ∧ count ≤ 4096) (hz : ∀ k, k < count → secRun (s.has (first + k)) = 0) : Begun s first count := by
  obtain ⟨f1, f2, f3, f4, f5, f6, f7, f8⟩ := format_ok hc hfit h1.1 hz
  have e1 : (DS.format first count s).1 = fmtS s first count := rfl
  rw [e1] at f2 f3 f4 f5 f6 f7
  have c1 : Clean (fmtS s first count) := ⟨fun k => by rw [f3]; exact hc.plan k, f2⟩
  obtain ⟨i, hi1, hi2, hi3, hi4⟩ := opened_recs (s := fmtS s first count) (first := first) (count := count) (f := 0) (R := 1) (rs := []) (by simp) (Nat.zero_le _) (by simp [strm]) h1.1 (fun k hk => (f6 k hk).1)
  have i0 : i = 0 := by simpa using hi1
  subst i0
  have hm1 : (fmtL s first count).most ≤ 1 := (upto_most (fmtS s first count) first count).2 1 (fun k hk => (f6 k hk).2)
  have hok := opened_ok (fmtS s first count) hf h1
  have hr1 : (fmtL s first count).run = 1 := hi4
  have hm2 : (fmtL s first count).most = 1 := by
    have := hok.run.1
    have e : (LG.opened (fmtS s first count) first count).run = 1 := hi4
    have e2 : (LG.opened (fmtS s first count) first count).most = (fmtL s first count).most := rfl
    omega
  have hft : Fits (fmtS s first count) (fmtL s first count) := opened_fits f2 f4 (by rw [f5]; exact hfit) hf h1 (by rw [hi4]; omega)
  have hre := Clean.reset hft c1 (by rw [hm2]; omega)
  obtain ⟨g1, g2, g3, g4, g5, g6⟩ := hft.reset_ok hre
  have hlog : isLog ((fmtS s first count).has first) := by
    have := (f6 0 (by omega)).1
    rw [Nat.add_zero] at this
    refine isLog_of_run ?_
    rcases this with h | h | h
    · rw [h.1]; omega
    · rw [h.1]; omega
    · omega
  have hst : (begS s first count).steps ≤ s.steps + 4 := by
    have hd : ¬ (fmtL s first count).dead = true := by rw [hft.dead]; simp
    have e : begS s first count = (DS.save ((fmtL s first count).most + 1) (fmtL s first count).first [] 1 0 (fmtS s first count)).1 := by
      unfold begS LG.reset
      rw [if_neg hd, if_neg (by rw [hm2]; omega)]
      split <;> rfl
    rw [e]
    have := steps_save (run := (fmtL s first count).most + 1) (st := []) (fmtL s first count).first 1 1 0 (fmtS s first count) (by simp) (by omega)
    omega
  refine ⟨f1, c1, f5, f7, hlog, hi3, hr1, hm2, hft, ?_, g1, ⟨fun k => ?_, g1.off⟩, g4.trans f5, hst⟩
  · exact Prod.ext rfl (Prod.ext g2 hre)
  · have : (begS s first count).plan = (fmtS s first count).plan := g3
    rw [this]; exact c1.plan k
theorem new_clean (n : Int) : Clean (DS.new n) := ⟨fun _ => rfl, rfl⟩
theorem new_len (n : Nat) (h : n ≤ 4096) : (DS.new (n : Int)).safe.length = n := by
  unfold DS.new
  rw [List.length_replicate]
  omega
theorem new_has (n : Nat) (h : n ≤ 4096) (i : Nat) (hi : i < n) : (DS.new (n : Int)).has i = sec0 := by
  show (none : Option (List Nat)).getD ((DS.new (n : Int)).safe.getD i []) = sec0
  have e : (DS.new (n : Int)).safe = List.replicate n sec0 := by
    have : (min (max (n : Int) 0) 4096).toNat = n := by omega
    unfold DS.new
    dsimp only
    rw [this]
  rw [e]
  simp [List.getD, hi]
theorem begun_new (n first count : Nat) (hn : n ≤ 4096) (hfit : first + count ≤ n) (h1 : 1 ≤ count) : Begun (DS.new (n : Int)) first count :=
  begun (new_clean _) (by rw [new_len n hn]; exact hfit) (by omega) ⟨h1, by omega⟩ (fun k hk => by rw [new_has n hn _ (by omega)]; exact secRun_sec0)
end Go.Proofs.Ytplkdcegfpiofaa

/-
  A log that is opened again, and the document's example, in plain words. No walk.
-/
namespace Go.Proofs.Ytplkdcegfpiofaa
open Go.RowKit Go.Maps
set_option linter.unusedVariables false

theorem Sec3.log {st : List Nat} {f R : Nat} {b : List Nat} (h : Sec3 st f R b 0) (hR : 1 ≤ R) : isLog b := by
  refine isLog_of_run ?_
  rcases h with h | h | h
  · rw [h.1]; exact hR
  · rw [h.1]; exact hR
  · omega
theorem len_on (s : DS) (K : List Int) : (s.on K).safe.length = s.safe.length := by unfold DS.on; simp
/-- What a log's sectors say, whichever are kept. -/
theorem secs_on {s : DS} {m : LG} {st : List Nat} {f : Nat} (h : EachSec (SecAt m st f) s) (hfit : m.first + m.count ≤ s.safe.length) (K : List Int) : ∀ k, k < m.count → Sec3 st f m.run ((s.on K).has (m.first + k)) k ∧ secRun ((s.on K).has (m.first + k)) ≤ m.most := by
  intro k hk
  have := ((h.on K) (m.first + k) (by rw [len_on]; omega)).2 (by omega) (by omega)
  rw [Nat.add_sub_cancel_left] at this
  exact this
theorem Good.reopen {s : DS} {m : LG} {rs : List RecT} (h : Good s m rs) (hs : m.safe = m.st.length) (K : List Int) :
    isLog ((s.on K).has m.first) ∧ Recs (LG.opened (s.on K) m.first m.count) rs ∧ (LG.opened (s.on K) m.first m.count).run = m.run ∧ (LG.opened (s.on K) m.first m.count).most ≤ m.most := by
  have hx := secs_on h.later h.fit K
  have hst := h.ok.st
  have hc := h.ok.count
  have h1 := h.recs.st
  obtain ⟨i, i1, i2, i3, i4⟩ := opened_recs (s := s.on K) (first := m.first) (count := m.count) (f := m.safe) (R := m.run) (rs := rs) h.recs.ok (by rw [← h1]; exact h.ok.safe) (by rw [← h1]; exact hst) hc.1 (fun k hk => by rw [← h1]; exact (hx k hk).1)
  have i5 := i2 rs.length (Nat.le_refl _) (by rw [List.take_length, ← h1, hs]; exact Nat.le_refl _)
  have i6 : i = rs.length := by omega
  rw [i6, List.take_length] at i3
  have h0 := (hx 0 (by omega)).1
  rw [Nat.add_zero] at h0
  exact ⟨h0.log h.run, i3, i4, (upto_most (s.on K) m.first m.count).2 m.most (fun k hk => (hx k hk).2)⟩
theorem append_yes {m : LG} {kind : Int} {body : List Nat} (hd : m.dead = false) (hf : m.fresh = true) (hk : 1 ≤ kind ∧ kind ≤ 255) (hl : body.length ≤ 1200) (hr : (recL kind.toNat body).length ≤ m.room) :
    m.append kind body = ({ m with st := m.st ++ recL kind.toNat body, begs := m.begs ++ [m.st.length] }, m.lsn m.st.length, 0) := by
  have h1 : (recL kind.toNat body).length = 1 + (putL body.length ++ body).length := by unfold recL; rw [List.length_cons]; omega
  unfold LG.append
  rw [if_neg (by rw [hd]; simp), if_neg (by rw [hf]; simp), if_neg (by omega), if_neg (by omega), if_neg (by omega)]
theorem append_idle {m : LG} (kind : Int) (body : List Nat) (hd : m.dead = false) (hf : m.fresh = false) : m.append kind body = (m, 0, 111) := by
  unfold LG.append
  rw [if_neg (by rw [hd]; simp), if_pos hf]

/-- The example's records. -/
def exRecs : List RecT := [(1, [97, 98]), (2, [])]
/-- What the example's log goes through behind its Reset. -/
structure Example (s2 : DS) (m2 m3 m4 : LG) (s5 : DS) (m5 : LG) : Prop where
  a2 : m2.append 1 [97, 98] = (m3, 33554432, 0)
  a3 : m3.append 2 [] = (m4, 33554436, 0)
  fl : m4.flush s2 = (s5, m5, 0)
  room : m5.room = 1986
  len : s5.safe.length = s2.safe.length
  log : isLog ((s5.on []).has 0)
  recs : Recs (LG.opened (s5.on []) 0 4) exRecs
  cnt : m2.count = 4 ∧ m3.count = 4 ∧ m4.count = 4
theorem r1L : recL 1 [97, 98] = [1, 2, 97, 98] := by unfold recL; rw [putL_last _ (by decide)]; rfl
theorem r2L : recL 2 [] = [2, 0] := by unfold recL; rw [putL_last _ (by decide)]; rfl
set_option maxRecDepth 100000 in
theorem example_go {s2 : DS} {m2 : LG} (g2 : Good s2 m2 []) (hcl : Clean s2) (hc2 : m2.count = 4) (hf2 : m2.first = 0) (hfr2 : m2.fresh = true) (hrun2 : m2.run = 2) (hst2 : m2.st = []) : ∃ m3 m4 s5 m5, Example s2 m2 m3 m4 s5 m5 := by
  have n1 : (1 : Int).toNat = 1 := rfl
  have n2 : (2 : Int).toNat = 2 := rfl
  have a2 := append_yes (m := m2) (kind := 1) (body := [97, 98]) g2.dead hfr2 (by omega) (by simp) (by rw [n1, r1L]; unfold LG.room; rw [hc2, hst2]; simp)
  have q2 := g2.append 1 [97, 98] (by simp)
  obtain ⟨m3, e3⟩ : ∃ m3, m3 = ({ m2 with st := m2.st ++ recL (1 : Int).toNat [97, 98], begs := m2.begs ++ [m2.st.length] } : LG) := ⟨_, rfl⟩
  rw [← e3] at a2
  have g3 : Good s2 m3 [(1, [97, 98])] := by
    rcases q2 with h | h
    · have := h.2.2.2.2.2.2.2
      rw [a2] at this
      exact this
    · rw [a2] at h; exact absurd rfl h.1
  have hst3 : m3.st = [1, 2, 97, 98] := by rw [e3, n1, r1L]; show m2.st ++ _ = _; rw [hst2]; rfl
  have hc3 : m3.count = 4 := by rw [e3]; exact hc2
  have hf3 : m3.first = 0 := by rw [e3]; exact hf2
  have hfr3 : m3.fresh = true := by rw [e3]; exact hfr2
  have hrun3 : m3.run = 2 := by rw [e3]; exact hrun2
  clear e3 q2
  have a3 := append_yes (m := m3) (kind := 2) (body := []) g3.dead hfr3 (by omega) (by simp) (by rw [n2, r2L]; unfold LG.room; rw [hc3, hst3]; simp)
  have q3 := g3.append 2 [] (by simp)
  obtain ⟨m4, e4⟩ : ∃ m4, m4 = ({ m3 with st := m3.st ++ recL (2 : Int).toNat [], begs := m3.begs ++ [m3.st.length] } : LG) := ⟨_, rfl⟩
  rw [← e4] at a3
  have g4 : Good s2 m4 exRecs := by
    rcases q3 with h | h
    · have := h.2.2.2.2.2.2.2
      rw [a3] at this
      exact this
    · rw [a3] at h; exact absurd rfl h.1
  have hst4 : m4.st = [1, 2, 97, 98, 2, 0] := by rw [e4, n2, r2L]; show m3.st ++ _ = _; rw [hst3]; rfl
  have hc4 : m4.count = 4 := by rw [e4]; exact hc3
  have hf4 : m4.first = 0 := by rw [e4]; exact hf3
  clear e4 q3
  have hf5 := Clean.flush g4 hcl
  obtain ⟨g5, e5, p5, l5, _⟩ := g4.flush_ok hf5
  obtain ⟨s5, h5⟩ : ∃ s5, s5 = (m4.flush s2).1 := ⟨_, rfl⟩
  obtain ⟨m5, h6⟩ : ∃ m5, m5 = (m4.flush s2).2.1 := ⟨_, rfl⟩
  have hfl : m4.flush s2 = (s5, m5, 0) := Prod.ext h5.symm (Prod.ext h6.symm hf5)
  rw [← h5, ← h6] at g5
  rw [← h6] at e5
  rw [← h5] at l5
  clear p5 h5 h6 hf5
  have hst5 : m5.st = [1, 2, 97, 98, 2, 0] := by rw [e5]; exact hst4
  have hc5 : m5.count = 4 := by rw [e5]; exact hc4
  have hfi5 : m5.first = 0 := by rw [e5]; exact hf4
  have hsafe : m5.safe = m5.st.length := by rw [e5]
  obtain ⟨o1, o2, o3, o4⟩ := g5.reopen hsafe []
  rw [hfi5] at o1
  rw [hfi5, hc5] at o2
  have l2 : m2.lsn m2.st.length = 33554432 := by
    have : m2.st.length = 0 := by rw [hst2]; rfl
    simp only [LG.lsn, this, hrun2]
  have l3 : m3.lsn m3.st.length = 33554436 := by
    have : m3.st.length = 4 := by rw [hst3]; rfl
    simp only [LG.lsn, this, hrun3]
  rw [l2] at a2
  rw [l3] at a3
  exact ⟨m3, m4, s5, m5, a2, a3, hfl, by unfold LG.room; rw [hc5, hst5]; rfl, l5, o1, o2, hc2, hc3, hc4⟩
end Go.Proofs.Ytplkdcegfpiofaa
