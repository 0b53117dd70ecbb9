/-
  What a page's Parse finds in any bytes, in plain words: the items as far as their slots are right. No walk.
-/
import Derived.Test.YtdghanhpeekbhaaZJ9
namespace Go.Proofs.Ytdghanhpeekbhaa
open Go.RowKit Go.Maps
set_option linter.unusedVariables false

/-- The two bytes of the k-th slot. -/
def slotV (L : List Nat) (k : Nat) : Nat := leV ((L.drop (18 + 2 * k)).take 2)
/-- Where the items begin that its are. -/
def endOf (its : List (List Nat)) : Nat := 512 - (its.map List.length).sum
/-- The slots of its are right, and say its. -/
structure Pre0 (L : List Nat) (n : Nat) (its : List (List Nat)) : Prop where
  len : its.length ≤ n
  fit : 18 + 2 * n + (its.map List.length).sum ≤ 512
  small : ∀ l ∈ its, l.length ≤ 200
  slot : ∀ k (hk : k < its.length), slotV L k = 512 - sumTo its (k + 1)
  item : ∀ k (hk : k < its.length), (L.drop (512 - sumTo its (k + 1))).take its[k].length = its[k]
/-- .. and the next slot is wrong, or there is none. -/
structure Pre (L : List Nat) (n : Nat) (its : List (List Nat)) : Prop extends Pre0 L n its where
  stop : its.length = n ∨ (endOf its < slotV L its.length ∨ slotV L its.length < 18 + 2 * n ∨ 200 < endOf its - slotV L its.length)
theorem sumTo_app {a : List (List Nat)} {x : List Nat} {k : Nat} (hk : k ≤ a.length) : sumTo (a ++ [x]) k = sumTo a k := by
  unfold sumTo
  rw [List.take_append_of_le_length hk]
theorem Pre0.grow {L : List Nat} {n : Nat} {its : List (List Nat)} (hL : L.length = 512) (h : Pre0 L n its) (hlt : its.length < n) (h1 : slotV L its.length ≤ endOf its) (h2 : 18 + 2 * n ≤ slotV L its.length) (h3 : endOf its - slotV L its.length ≤ 200) :
    Pre0 L n (its ++ [(L.drop (slotV L its.length)).take (endOf its - slotV L its.length)]) := by
  have hfit := h.fit
  obtain ⟨e', he'⟩ : ∃ e', e' = slotV L its.length := ⟨_, rfl⟩
  rw [← he'] at h1 h2 h3 ⊢
  obtain ⟨x, hx⟩ : ∃ x, x = (L.drop e').take (endOf its - e') := ⟨_, rfl⟩
  rw [← hx]
  unfold endOf at h1 h3 hx
  have hxl : x.length = 512 - (its.map List.length).sum - e' := by rw [hx, List.length_take, List.length_drop]; omega
  have hsum : ((its ++ [x]).map List.length).sum = (its.map List.length).sum + x.length := by simp
  have hlast : sumTo (its ++ [x]) (its.length + 1) = (its.map List.length).sum + x.length := by
    rw [← hsum, ← sumTo_all, List.length_append, List.length_singleton]
  refine ⟨by rw [List.length_append, List.length_singleton]; omega, by rw [hsum, hxl]; omega, fun l hl => ?_, fun k hk => ?_, fun k hk => ?_⟩
  · rcases List.mem_append.1 hl with hl | hl
    · exact h.small l hl
    · rw [List.mem_singleton.1 hl, hxl]; omega
  · rw [List.length_append, List.length_singleton] at hk
    by_cases hki : k < its.length
    · rw [sumTo_app (by omega)]; exact h.slot k hki
    · obtain rfl : k = its.length := by omega
      rw [hlast, hxl, ← he']; omega
  · rw [List.length_append, List.length_singleton] at hk
    by_cases hki : k < its.length
    · rw [sumTo_app (by omega), List.getElem_append_left hki]; exact h.item k hki
    · obtain rfl : k = its.length := by omega
      rw [hlast, List.getElem_append_right (Nat.le_refl _)]
      simp only [Nat.sub_self, List.getElem_cons_zero]
      rw [show 512 - ((its.map List.length).sum + x.length) = e' by omega, hxl, ← hx]
theorem pre_exists {L : List Nat} {n : Nat} (hL : L.length = 512) (hn : n ≤ 100) : ∃ its, Pre L n its := by
  have go : ∀ (d : Nat) (its : List (List Nat)), Pre0 L n its → n - its.length = d → ∃ its', Pre L n its' := by
    intro d
    induction d with
    | zero => exact fun its h hd => ⟨its, ⟨h, .inl (by have := h.len; omega)⟩⟩
    | succ d ih =>
      intro its h hd
      by_cases hs : endOf its < slotV L its.length ∨ slotV L its.length < 18 + 2 * n ∨ 200 < endOf its - slotV L its.length
      · exact ⟨its, ⟨h, .inr hs⟩⟩
      · exact ih _ (h.grow hL (by omega) (by omega) (by omega) (by omega)) (by rw [List.length_append, List.length_singleton]; omega)
  exact go _ [] ⟨Nat.zero_le _, by simp; omega, by simp, fun k hk => by simp at hk, fun k hk => by simp at hk⟩ rfl

/-! ### All slots right, and the gap empty: the bytes are those of the page -/
theorem digits_leV : ∀ l : List Nat, (∀ x ∈ l, x < 256) → digits (leV l) l.length = l
  | [], _ => rfl
  | x :: r, h => by
    have hx := h x (List.mem_cons_self ..)
    have ih := digits_leV r (fun y hy => h y (List.mem_cons_of_mem _ hy))
    unfold digits at ih ⊢
    rw [List.length_cons, List.range_succ_eq_map, List.map_cons, List.map_map]
    congr 1
    · simp only [leV, Nat.pow_zero, Nat.div_one]; omega
    · refine Eq.trans (List.map_congr_left fun i _ => ?_) ih
      simp only [leV, Function.comp]
      rw [Nat.pow_succ, Nat.mul_comm (256 ^ i) 256, ← Nat.div_div_eq_div_mul, show (x + 256 * leV r) / 256 = leV r by omega]
theorem slots_are {L : List Nat} {n : Nat} (hL : L.length = 512) (hb : ∀ x ∈ L, x < 256) {its : List (List Nat)} (h : Pre0 L n its) : ∀ k, k ≤ its.length → (L.drop 18).take (2 * k) = slotsL (its.take k) 512 := by
  intro k
  induction k with
  | zero => intro _; simp [slotsL]
  | succ k ih =>
    intro hk
    have hf := h.fit
    have hl := h.len
    rw [List.take_succ_eq_append_getElem (by omega), slotsL_snoc, ← ih (by omega)]
    have e : 512 - ((its.take k).map List.length).sum - its[k].length = slotV L k := by
      rw [h.slot k (by omega), sumTo_succ (by omega)]
      unfold sumTo
      omega
    rw [e]
    have hd : (L.drop (18 + 2 * k)).take 2 = digits (slotV L k) 2 := by
      have h2 : ((L.drop (18 + 2 * k)).take 2).length = 2 := by rw [List.length_take, List.length_drop]; omega
      have := digits_leV ((L.drop (18 + 2 * k)).take 2) (fun x hx => hb x (List.mem_of_mem_drop (List.mem_of_mem_take hx)))
      rw [h2] at this
      exact this.symm
    rw [← hd, show 2 * (k + 1) = 2 * k + 2 by omega, List.take_add, List.drop_drop]
theorem tail_is {L : List Nat} {n : Nat} (hL : L.length = 512) {its : List (List Nat)} (h : Pre0 L n its) : ∀ k, k ≤ its.length → L.drop (512 - sumTo its k) = tailL (its.take k) := by
  intro k
  induction k with
  | zero => intro _; rw [show sumTo its 0 = 0 by rfl, List.drop_eq_nil_of_le (by omega)]; rfl
  | succ k ih =>
    intro hk
    have hf := h.fit
    have hm := sumTo_mono (L := its) (k := k + 1)
    rw [List.take_succ_eq_append_getElem (by omega), tailL_snoc, ← ih (by omega), ← h.item k (by omega)]
    have hs := sumTo_succ (L := its) (k := k) (by omega)
    have e : 512 - sumTo its k = (512 - sumTo its (k + 1)) + its[k].length := by omega
    rw [e, ← List.drop_drop, h.item k (by omega)]
    have h4 := List.take_append_drop its[k].length (L.drop (512 - sumTo its (k + 1)))
    rw [h.item k (by omega)] at h4
    exact h4.symm
/-- The page that the bytes say, its items being these. -/
def pgOf (L : List Nat) (its : List (List Nat)) : PG := ⟨(leV ((L.drop 4).take 8) : Nat), L.getD 12 0, leV ((L.drop 13).take 4), its⟩
theorem pgOf_ok {L : List Nat} {n : Nat} {its : List (List Nat)} (hL : L.length = 512) (hb : ∀ x ∈ L, x < 256) (hn : n ≤ 100) (hl : leV ((L.drop 4).take 8) ≤ 9223372036854775807) (h : Pre0 L n its) : (pgOf L its).Ok := by
  refine ⟨by have := h.len; show its.length ≤ 100; omega, h.small, ⟨by show (0 : Int) ≤ ((_ : Nat) : Int); omega, by show ((_ : Nat) : Int) ≤ _; omega⟩, ?_, ?_⟩
  · show L.getD 12 0 < 256
    rw [List.getD, List.getElem?_eq_getElem (by omega)]
    exact hb _ (List.getElem_mem _)
  · have h1 := leV_lt ((L.drop 13).take 4) (fun x hx => hb x (List.mem_of_mem_drop (List.mem_of_mem_take hx)))
    have h2 : ((L.drop 13).take 4).length = 4 := by rw [List.length_take, List.length_drop]; omega
    rw [h2] at h1
    exact h1
theorem pre_full {L : List Nat} {n : Nat} {its : List (List Nat)} (hL : L.length = 512) (hb : ∀ x ∈ L, x < 256) (hsum : leV (L.take 4) = crcSum (L.drop 4)) (hn : L[17]? = some n) (h : Pre0 L n its) (hlen : its.length = n) (hgap : ∀ j, 18 + 2 * n ≤ j → j < endOf its → L[j]? = some 0) :
    pageL (pgOf L its) = L ∧ (pgOf L its).Fit := by
  have hfit := h.fit
  have hm4 : (L.take 4) = digits (crcSum (L.drop 4)) 4 := by
    have h4 : (L.take 4).length = 4 := by rw [List.length_take]; omega
    have := digits_leV (L.take 4) (fun x hx => hb x (List.mem_of_mem_take hx))
    rw [h4, hsum] at this
    exact this.symm
  have hbody : (pgOf L its).body = L.drop 4 := by
    have e8 : digits (leV ((L.drop 4).take 8)) 8 = (L.drop 4).take 8 := by
      have h8 : ((L.drop 4).take 8).length = 8 := by rw [List.length_take, List.length_drop]; omega
      have := digits_leV ((L.drop 4).take 8) (fun x hx => hb x (List.mem_of_mem_drop (List.mem_of_mem_take hx)))
      rwa [h8] at this
    have e4 : digits (leV ((L.drop 13).take 4)) 4 = (L.drop 13).take 4 := by
      have h4 : ((L.drop 13).take 4).length = 4 := by rw [List.length_take, List.length_drop]; omega
      have := digits_leV ((L.drop 13).take 4) (fun x hx => hb x (List.mem_of_mem_drop (List.mem_of_mem_take hx)))
      rwa [h4] at this
    have e12 : [L.getD 12 0] = (L.drop 12).take 1 := by
      rw [List.drop_eq_getElem_cons (by omega), List.take_succ_cons, List.take_zero, List.getD, List.getElem?_eq_getElem (by omega)]; rfl
    have e17 : [n] = (L.drop 17).take 1 := by
      have : L[17]'(by omega) = n := by have := hn; rw [List.getElem?_eq_getElem (by omega)] at this; injection this
      rw [List.drop_eq_getElem_cons (by omega), List.take_succ_cons, List.take_zero, this]
    have es := slots_are hL hb h its.length (Nat.le_refl _)
    have et := tail_is hL h its.length (Nat.le_refl _)
    rw [List.take_length] at es et
    rw [sumTo_all] at et
    unfold PG.body PG.mid PG.head pgOf
    dsimp only
    rw [List.take_length, Int.toNat_natCast, e8, e4, e12, hlen, e17, ← es, ← et, hlen]
    have eg : List.replicate (494 - 2 * n - sumTo its n) 0 = (L.drop (18 + 2 * n)).take (endOf its - (18 + 2 * n)) := by
      apply List.ext_getElem?
      intro j
      have hs : sumTo its n = (its.map List.length).sum := by rw [← hlen, sumTo_all]
      unfold endOf at hgap ⊢
      rw [hs]
      by_cases hj : j < 512 - (its.map List.length).sum - (18 + 2 * n)
      · rw [List.getElem?_take, if_pos hj, List.getElem?_drop, hgap (18 + 2 * n + j) (by omega) (by omega), List.getElem?_replicate, if_pos (by omega)]
      · rw [List.getElem?_replicate, if_neg (by omega), List.getElem?_take, if_neg hj]
    rw [eg]
    have p1 : (L.drop 4).take 8 ++ (L.drop 12).take 1 = (L.drop 4).take 9 := by rw [show 9 = 8 + 1 by rfl, List.take_add, List.drop_drop]
    have p2 : (L.drop 4).take 9 ++ (L.drop 13).take 4 = (L.drop 4).take 13 := by rw [show 13 = 9 + 4 by rfl, List.take_add, List.drop_drop]
    have p3 : (L.drop 4).take 13 ++ (L.drop 17).take 1 = (L.drop 4).take 14 := by rw [show 14 = 13 + 1 by rfl, List.take_add, List.drop_drop]
    have p4 : (L.drop 4).take 14 ++ (L.drop 18).take (2 * n) = (L.drop 4).take (14 + 2 * n) := by rw [List.take_add, List.drop_drop]
    have p5 : (L.drop 4).take (14 + 2 * n) ++ (L.drop (18 + 2 * n)).take (endOf its - (18 + 2 * n)) = (L.drop 4).take (endOf its - 4) := by
      unfold endOf
      rw [show 512 - (its.map List.length).sum - 4 = (14 + 2 * n) + (512 - (its.map List.length).sum - (18 + 2 * n)) by omega]
      conv => rhs; rw [List.take_add, List.drop_drop]
      rw [show 4 + (14 + 2 * n) = 18 + 2 * n by omega]
    rw [p1, p2, p3, p4, p5]
    have p6 := List.take_append_drop (endOf its - 4) (L.drop 4)
    rw [List.drop_drop, show 4 + (endOf its - 4) = endOf its by unfold endOf; omega] at p6
    exact p6
  refine ⟨?_, ?_⟩
  · unfold pageL
    rw [hbody, ← hm4, List.take_append_drop]
  · unfold PG.Fit
    show 18 + 2 * its.length + (its.map List.length).sum ≤ 512
    rw [hlen]; exact hfit
end Go.Proofs.Ytdghanhpeekbhaa
