/-
  What stands where in a page's bytes.
-/
import Derived.Test.YtdghanhpeekbhaaZJ8
namespace Go.Proofs.Ytdghanhpeekbhaa
open Go.RowKit Go.Maps
set_option linter.unusedVariables false

section
variable {m : PG}
theorem pageL_len (hf : m.Fit) : (pageL m).length = 512 := by
  unfold pageL PG.body
  rw [List.length_append, digits_len, PG.mid_len hf (Nat.le_refl _)]
/-- The page's bytes: what stands ahead of the slots, the slots, what is free, the items. -/
theorem pageL_parts (m : PG) : pageL m = (digits (crcSum m.body) 4 ++ m.head ++ slotsL m.items 512) ++ List.replicate (494 - 2 * m.items.length - sumTo m.items m.items.length) 0 ++ tailL m.items := by
  unfold pageL
  conv => lhs; arg 2; unfold PG.body PG.mid
  rw [List.take_length]
  simp only [List.append_assoc]
theorem front_len (m : PG) : (digits (crcSum m.body) 4 ++ m.head ++ slotsL m.items 512).length = 18 + 2 * m.items.length := by
  rw [List.length_append, List.length_append, digits_len, PG.head_len, slotsL_len]
theorem pg_sum (m : PG) : (pageL m).take 4 = digits (crcSum m.body) 4 ∧ (pageL m).drop 4 = m.body := by
  unfold pageL
  exact ⟨List.take_left' (digits_len _ _), List.drop_left' (digits_len _ _)⟩
theorem pg_lsn (m : PG) : ((pageL m).drop 4).take 8 = digits m.lsn.toNat 8 := by
  rw [(pg_sum m).2]
  unfold PG.body PG.mid PG.head
  simp only [List.append_assoc]
  exact List.take_left' (digits_len _ _)
theorem pg_kind (m : PG) : (pageL m)[12]? = some m.kind := by
  unfold pageL PG.body PG.mid PG.head
  simp only [List.append_assoc]
  rw [List.getElem?_append_right (by rw [digits_len]; omega), digits_len, List.getElem?_append_right (by rw [digits_len]; omega), digits_len]
  rfl
theorem pg_extra (m : PG) : ((pageL m).drop 13).take 4 = digits m.extra 4 := by
  have e : pageL m = (digits (crcSum m.body) 4 ++ digits m.lsn.toNat 8 ++ [m.kind]) ++ digits m.extra 4 ++ ([m.items.length] ++ slotsL m.items 512 ++ List.replicate (494 - 2 * m.items.length - sumTo m.items m.items.length) 0 ++ tailL m.items) := by
    rw [pageL_parts]; unfold PG.head; simp only [List.append_assoc]
  rw [e]
  exact seg_mid (by rw [List.length_append, List.length_append, digits_len, digits_len]; rfl) (digits_len _ _)
theorem pg_count (m : PG) : (pageL m)[17]? = some m.items.length := by
  have e : pageL m = (digits (crcSum m.body) 4 ++ digits m.lsn.toNat 8 ++ [m.kind] ++ digits m.extra 4) ++ (m.items.length :: (slotsL m.items 512 ++ List.replicate (494 - 2 * m.items.length - sumTo m.items m.items.length) 0 ++ tailL m.items)) := by
    rw [pageL_parts]; unfold PG.head; simp only [List.append_assoc, List.cons_append, List.nil_append]
  have hl : (digits (crcSum m.body) 4 ++ digits m.lsn.toNat 8 ++ [m.kind] ++ digits m.extra 4).length = 17 := by
    rw [List.length_append, List.length_append, List.length_append, digits_len, digits_len, digits_len]; rfl
  rw [e, List.getElem?_append_right (by omega), hl]
  rfl
theorem items_split {k : Nat} (hk : k < m.items.length) : m.items = m.items.take k ++ [m.items[k]] ++ m.items.drop (k + 1) := by
  rw [List.append_assoc, List.singleton_append, ← List.drop_eq_getElem_cons hk, List.take_append_drop]
theorem slotsL_app : ∀ (a b : List (List Nat)) (e : Nat), slotsL (a ++ b) e = slotsL a e ++ slotsL b (e - (a.map List.length).sum)
  | [], b, e => by simp [slotsL]
  | x :: a, b, e => by
    rw [List.cons_append]
    simp only [slotsL]
    rw [slotsL_app a b, List.append_assoc, List.map_cons, List.sum_cons, Nat.sub_add_eq]
theorem pg_slot {k : Nat} (hk : k < m.items.length) : ((pageL m).drop (18 + 2 * k)).take 2 = digits (512 - sumTo m.items (k + 1)) 2 := by
  have hs : slotsL m.items 512 = slotsL (m.items.take k) 512 ++ digits (512 - sumTo m.items (k + 1)) 2 ++ slotsL (m.items.drop (k + 1)) (512 - sumTo m.items (k + 1)) := by
    have h := items_split hk
    have e1 : slotsL m.items 512 = slotsL (m.items.take (k + 1) ++ m.items.drop (k + 1)) 512 := by rw [List.take_append_drop]
    rw [e1, slotsL_app, List.take_succ_eq_append_getElem hk, slotsL_snoc, ← List.take_succ_eq_append_getElem hk]
    have e2 : ((m.items.take k).map List.length).sum = sumTo m.items k := rfl
    have e3 : ((m.items.take (k + 1)).map List.length).sum = sumTo m.items (k + 1) := rfl
    rw [e2, e3, Nat.sub_sub, ← sumTo_succ hk]
  have h3 : (m.items.take k).length = k := by rw [List.length_take]; omega
  have e : pageL m = (digits (crcSum m.body) 4 ++ m.head ++ slotsL (m.items.take k) 512) ++ digits (512 - sumTo m.items (k + 1)) 2 ++ (slotsL (m.items.drop (k + 1)) (512 - sumTo m.items (k + 1)) ++ List.replicate (494 - 2 * m.items.length - sumTo m.items m.items.length) 0 ++ tailL m.items) := by
    rw [pageL_parts, hs]; simp only [List.append_assoc]
  rw [e]
  exact seg_mid (by rw [List.length_append, List.length_append, digits_len, PG.head_len, slotsL_len, h3]) (digits_len _ _)
theorem tailL_app (a b : List (List Nat)) : tailL (a ++ b) = tailL b ++ tailL a := by unfold tailL; rw [List.reverse_append, List.flatten_append]
theorem pg_item (hf : m.Fit) {k : Nat} (hk : k < m.items.length) : ((pageL m).drop (512 - sumTo m.items (k + 1))).take m.items[k].length = m.items[k] := by
  have ht : tailL m.items = tailL (m.items.drop (k + 1)) ++ m.items[k] ++ tailL (m.items.take k) := by
    conv => lhs; rw [items_split hk]
    rw [tailL_app, tailL_snoc, List.append_assoc]
  have e : pageL m = ((digits (crcSum m.body) 4 ++ m.head ++ slotsL m.items 512) ++ List.replicate (494 - 2 * m.items.length - sumTo m.items m.items.length) 0 ++ tailL (m.items.drop (k + 1))) ++ m.items[k] ++ tailL (m.items.take k) := by
    rw [pageL_parts, ht]; simp only [List.append_assoc]
  have hl := pageL_len hf
  have hs := sumTo_succ hk
  have h1 := hf.at_ (k := k + 1) (by omega)
  have h2 : (tailL (m.items.take k)).length = sumTo m.items k := tailL_len _
  rw [e, List.length_append, List.length_append, h2] at hl
  rw [e]
  exact seg_mid (by omega) rfl
theorem pg_gap (hf : m.Fit) {j : Nat} (h1 : 18 + 2 * m.items.length ≤ j) (h2 : j < 512 - sumTo m.items m.items.length) : (pageL m)[j]? = some 0 := by
  have h3 := hf.at_ (Nat.le_refl m.items.length)
  rw [pageL_parts, List.getElem?_append_left (by rw [List.length_append, front_len, List.length_replicate]; omega), List.getElem?_append_right (by rw [front_len]; omega), front_len, List.getElem?_replicate, if_pos (by omega)]
end
end Go.Proofs.Ytdghanhpeekbhaa
