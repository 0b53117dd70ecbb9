/-
  The walks of keys' small functions: isId, isTime, isWeight, Name, addId, getId; and of the reference's Name, class, four, value4.
-/
import Derived.Test.YtbmjiheclagfiaaH3
import Derived.Test.YtbmjiheclagfiaaN7
import Derived.Test.YtbmjiheclagfiaaL2
import Derived.BigQuiet
import Derived.Deep.QuietTactic
import Derived.Outline
namespace Go.Proofs.Ytbmjiheclagfiaa
open Go.RowKit
set_option linter.unusedVariables false

/-- Within bounds. -/
def inB (lo hi n : Int) : Bool := decide (lo ≤ n ∧ n ≤ hi)
theorem inB_yes {lo hi n : Int} (h1 : lo ≤ n) (h2 : n ≤ hi) : inB lo hi n = true := decide_eq_true ⟨h1, h2⟩
theorem inB_no {lo hi n : Int} (h : ¬ (lo ≤ n ∧ n ≤ hi)) : inB lo hi n = false := decide_eq_false h
theorem inB_iff {lo hi n : Int} : inB lo hi n = true ↔ lo ≤ n ∧ n ≤ hi := decide_eq_true_iff
def idB (n : Int) : Bool := inB 1 2147483647 n
def timeB (n : Int) : Bool := inB 0 1099511627776 n
theorem ret_bool {a b : Bool} (h : a = b) : Ending.returned (.bool a) = .returned (.bool b) := by rw [h]

set_option maxHeartbeats 400000 in
theorem isId_any (n : Int) (w : World) : Calls Try.prog 38 #[.int .i64 n] w fun e w' => e = .returned (.bool (idB n)) ∧ w = w' := by
  by_cases h1 : 1 ≤ n
  · by_cases h2 : n ≤ 2147483647
    · have hd : Hid (idB n = true) := inB_yes h1 h2
      go_enter Try.func38, Try.ntmps38
      go_wp2
      go_ret
      exact ⟨ret_bool hd.out.symm, rfl⟩
    · have hd : Hid (idB n = false) := inB_no (by omega)
      have h3 : decide (n ≤ 2147483647) = false := decide_eq_false h2
      go_enter Try.func38, Try.ntmps38
      go_wp2
      go_ret
      exact ⟨ret_bool hd.out.symm, rfl⟩
  · have hd : Hid (idB n = false) := inB_no (by omega)
    have h3 : decide (1 ≤ n) = false := decide_eq_false h1
    go_enter Try.func38, Try.ntmps38
    go_wp2
    go_ret
    exact ⟨ret_bool hd.out.symm, rfl⟩

set_option maxHeartbeats 400000 in
theorem isTime_any (n : Int) (w : World) : Calls Try.prog 48 #[.int .i64 n] w fun e w' => e = .returned (.bool (timeB n)) ∧ w = w' := by
  by_cases h1 : 0 ≤ n
  · by_cases h2 : n ≤ 1099511627776
    · have hd : Hid (timeB n = true) := inB_yes h1 h2
      go_enter Try.func48, Try.ntmps48
      go_wp2
      go_ret
      exact ⟨ret_bool hd.out.symm, rfl⟩
    · have hd : Hid (timeB n = false) := inB_no (by omega)
      have h3 : decide (n ≤ 1099511627776) = false := decide_eq_false h2
      go_enter Try.func48, Try.ntmps48
      go_wp2
      go_ret
      exact ⟨ret_bool hd.out.symm, rfl⟩
  · have hd : Hid (timeB n = false) := inB_no (by omega)
    have h3 : decide (0 ≤ n) = false := decide_eq_false h1
    go_enter Try.func48, Try.ntmps48
    go_wp2
    go_ret
    exact ⟨ret_bool hd.out.symm, rfl⟩

set_option maxHeartbeats 400000 in
theorem isWeight_any (n : Int) (w : World) : Calls Try.prog 65 #[.int .i64 n] w fun e w' => e = .returned (.bool (timeB n)) ∧ w = w' := by
  by_cases h1 : 0 ≤ n
  · by_cases h2 : n ≤ 1099511627776
    · have hd : Hid (timeB n = true) := inB_yes h1 h2
      go_enter Try.func65, Try.ntmps65
      go_wp2
      go_ret
      exact ⟨ret_bool hd.out.symm, rfl⟩
    · have hd : Hid (timeB n = false) := inB_no (by omega)
      have h3 : decide (n ≤ 1099511627776) = false := decide_eq_false h2
      go_enter Try.func65, Try.ntmps65
      go_wp2
      go_ret
      exact ⟨ret_bool hd.out.symm, rfl⟩
  · have hd : Hid (timeB n = false) := inB_no (by omega)
    have h3 : decide (0 ≤ n) = false := decide_eq_false h1
    go_enter Try.func65, Try.ntmps65
    go_wp2
    go_ret
    exact ⟨ret_bool hd.out.symm, rfl⟩

/-- A name's letters. -/
def letterB (c : UInt8) : Bool := decide (97 ≤ c.toNat ∧ c.toNat ≤ 122)
def nameB (s : ByteArray) : Bool := decide (1 ≤ s.size ∧ s.size ≤ 16) && s.data.toList.all letterB
theorem nameB_short {s : ByteArray} (h : ¬ (1 ≤ s.size ∧ s.size ≤ 16)) : nameB s = false := by unfold nameB; rw [decide_eq_false h]; rfl
theorem nameB_bad {s : ByteArray} (k : Nat) (hk : k < s.size) (h : letterB s[k] = false) : nameB s = false := by
  unfold nameB
  have : s.data.toList.all letterB = false := by
    rw [List.all_eq_false]
    exact ⟨s[k], by rw [Array.mem_toList_iff]; exact Array.getElem_mem hk, by rw [h]; simp⟩
  rw [this, Bool.and_false]
theorem nameB_good {s : ByteArray} (h1 : 1 ≤ s.size) (h2 : s.size ≤ 16) (h : ∀ k (hk : k < s.size), letterB s[k] = true) : nameB s = true := by
  unfold nameB
  rw [decide_eq_true ⟨h1, h2⟩, Bool.true_and, List.all_eq_true]
  intro c hc
  rw [Array.mem_toList_iff] at hc
  obtain ⟨i, hi, rfl⟩ := Array.getElem_of_mem hc
  exact h i hi

set_option maxHeartbeats 400000 in
theorem name_any (s : ByteArray) (w : World) (hs : s.size ≤ 9223372036854775807) : Calls Try.prog 17 #[.string s] w fun e w' => e = .returned (.bool (nameB s)) ∧ w = w' := by
  by_cases h0 : 1 ≤ s.size
  · by_cases h1 : s.size ≤ 16
    · have d1 : decide ((s.size : Int) < 1) = false := decide_eq_false (by omega)
      have d2 : decide (16 < (s.size : Int)) = false := decide_eq_false (by omega)
      have d1' : decide (s.size < 1) = false := decide_eq_false (by omega)
      have d2' : decide (16 < s.size) = false := decide_eq_false (by omega)
      go_enter Try.func17, Try.ntmps17
      go_wp2
      go_loop [14] (fun i => ∃ k : Nat, k ≤ s.size ∧ i = .int .i64 k ∧ Hid (∀ j (hj : j < s.size), j < k → letterB s[j] = true)) (fun i => s.size - (intOf i).toNat)
      case atStart => exact ⟨0, Nat.zero_le _, rfl, fun j hj h => absurd h (by omega)⟩
      case round =>
        obtain ⟨k, hk, rfl, HK⟩ := hrel
        by_cases hlt : k < s.size
        · have hc : s[k].toNat < 256 := UInt8.toNat_lt _
          by_cases hl : letterB s[k] = true
          · have hl1 : 97 ≤ s[k].toNat := (of_decide_eq_true hl).1
            have hl2 : s[k].toNat ≤ 122 := (of_decide_eq_true hl).2
            have HL := Lib.hid hl
            clear hl
            go_wp2
            go_round
            case rel =>
              refine ⟨k + 1, by omega, by go_num, fun j hj h => ?_⟩
              by_cases e : j = k
              · subst e; exact HL.out
              · exact HK.out j hj (by omega)
            case measure => simp [intOf]; omega
          · have hn : Hid (nameB s = false) := nameB_bad k hlt (by simpa using hl)
            have hl' : ¬ (97 ≤ s[k].toNat ∧ s[k].toNat ≤ 122) := fun h => hl (decide_eq_true h)
            clear hl
            by_cases h3 : s[k].toNat < 97
            · clear hl'
              go_wp2
              go_ret
              exact ⟨ret_bool hn.out.symm, rfl⟩
            · have h4 : 122 < s[k].toNat := by omega
              clear hl'
              go_wp2
              go_ret
              exact ⟨ret_bool hn.out.symm, rfl⟩
        · obtain rfl : k = s.size := by omega
          have hn : Hid (nameB s = true) := nameB_good h0 h1 (fun j hj => HK.out j hj hj)
          go_wp2
          go_ret
          exact ⟨ret_bool hn.out.symm, rfl⟩
    · have hn : Hid (nameB s = false) := nameB_short (by omega)
      have d1 : decide ((s.size : Int) < 1) = false := decide_eq_false (by omega)
      have d2 : decide (16 < (s.size : Int)) = true := decide_eq_true (by omega)
      have d1' : decide (s.size < 1) = false := decide_eq_false (by omega)
      have d2' : decide (16 < s.size) = true := decide_eq_true (by omega)
      go_enter Try.func17, Try.ntmps17
      go_wp2
      go_ret
      exact ⟨ret_bool hn.out.symm, rfl⟩
  · have hn : Hid (nameB s = false) := nameB_short (by omega)
    have d1 : decide ((s.size : Int) < 1) = true := decide_eq_true (by omega)
    have d1' : decide (s.size < 1) = true := decide_eq_true (by omega)
    go_enter Try.func17, Try.ntmps17
    go_wp2
    go_ret
    exact ⟨ret_bool hn.out.symm, rfl⟩
end Go.Proofs.Ytbmjiheclagfiaa
