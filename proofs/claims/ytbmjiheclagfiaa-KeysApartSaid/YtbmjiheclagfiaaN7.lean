/-
  The walks of num.Big, skeinref01.Big, num.UnBig, Order; what eight bytes say.
-/
import Derived.Test.YtbmjiheclagfiaaN6
namespace Go.Proofs.Ytbmjiheclagfiaa
open Go.RowKit
set_option linter.unusedVariables false

/-- The number's place among all: v + 2^63. -/
def place (v : Int) : Nat := (v + 9223372036854775808).toNat
def bigL (u : Nat) : List Nat := [u / 72057594037927936 % 256, u / 281474976710656 % 256, u / 1099511627776 % 256, u / 4294967296 % 256, u / 16777216 % 256, u / 65536 % 256, u / 256 % 256, u % 256]
theorem bigL_lt (u : Nat) : ∀ x ∈ bigL u, x < 256 := by
  intro x hx
  simp [bigL] at hx
  omega

theorem place_wrap (v : Int) (h1 : -9223372036854775808 ≤ v) (h2 : v ≤ 9223372036854775807) : IntKind.u64.wrap (IntKind.u64.wrap v + 9223372036854775808) = (place v : Int) := by
  rw [IntKind.wrap_u64, IntKind.wrap_u64]
  unfold place
  omega

/-- Eight bytes as a value. -/
def aggB (x0 x1 x2 x3 x4 x5 x6 x7 : Nat) : Value := .agg #[.int .u8 (x0 : Int), .int .u8 (x1 : Int), .int .u8 (x2 : Int), .int .u8 (x3 : Int), .int .u8 (x4 : Int), .int .u8 (x5 : Int), .int .u8 (x6 : Int), .int .u8 (x7 : Int)]

set_option maxRecDepth 100000 in
set_option maxHeartbeats 1000000 in
theorem big_any (v : Int) (w : World) (h1 : -9223372036854775808 ≤ v) (h2 : v ≤ 9223372036854775807) (u : Nat) (hu : Hid (place v = u)) :
    Calls Try.prog 49 #[.int .i64 v] w fun e w' => e = .returned (.agg #[.int .u8 ((u / 72057594037927936 % 256 : Nat) : Int), .int .u8 ((u / 281474976710656 % 256 : Nat) : Int), .int .u8 ((u / 1099511627776 % 256 : Nat) : Int), .int .u8 ((u / 4294967296 % 256 : Nat) : Int), .int .u8 ((u / 16777216 % 256 : Nat) : Int), .int .u8 ((u / 65536 % 256 : Nat) : Int), .int .u8 ((u / 256 % 256 : Nat) : Int), .int .u8 ((u % 256 : Nat) : Int)]) ∧ ∃ o, w' = w.alloc o := by
  have HW : Hid (IntKind.u64.wrap (IntKind.u64.wrap v + 9223372036854775808) = (u : Int)) := by rw [← hu.out]; exact place_wrap v h1 h2
  clear h1 h2 hu
  go_enter Try.func49, Try.ntmps49
  go_wp2
  rw [HW.out]
  refine wp_loop_rounds 9 ?_
  repeat any_goals (rw [rounds_succ]; go_wp2)
  refine bodyPost_ret (v := .agg #[.int .u8 ((u / 72057594037927936 % 256 : Nat) : Int), .int .u8 ((u / 281474976710656 % 256 : Nat) : Int), .int .u8 ((u / 1099511627776 % 256 : Nat) : Int), .int .u8 ((u / 4294967296 % 256 : Nat) : Int), .int .u8 ((u / 16777216 % 256 : Nat) : Int), .int .u8 ((u / 65536 % 256 : Nat) : Int), .int .u8 ((u / 256 % 256 : Nat) : Int), .int .u8 ((u % 256 : Nat) : Int)]) (by simp [results, Try.results49, go_sem]) rfl ?_
  exact ⟨rfl, _, rfl⟩

set_option maxRecDepth 100000 in
set_option maxHeartbeats 1000000 in
theorem rbig_any (v : Int) (w : World) (h1 : -9223372036854775808 ≤ v) (h2 : v ≤ 9223372036854775807) (u : Nat) (hu : Hid (place v = u)) :
    Calls Try.prog 50 #[.int .i64 v] w fun e w' => ∃ v', e = .returned v' ∧ OB w' w.heap.size v' (bigL u) ∧ Below w.heap.size w w' := by
  have HW : Hid (IntKind.u64.wrap (IntKind.u64.wrap v + 9223372036854775808) = (u : Int)) := by rw [← hu.out]; exact place_wrap v h1 h2
  have hub : u ≤ 18446744073709551615 := by have := hu.out; rw [← this]; unfold place; omega
  clear h1 h2 hu
  go_enter Try.func50, Try.ntmps50
  go_wp2
  rw [HW.out]
  refine wp_loop_rounds 9 ?_
  repeat any_goals (rw [rounds_succ]; go_wp2)
  go_ret
  refine ⟨_, rfl, OB.ofRow (heap_alloc_new w _) ?_ rfl (Nat.le_refl _) (bigL_lt _) (by omega), (Below.refl _ _).alloc (Nat.le_refl _) _⟩
  simp [bigL, bcell]
  refine ⟨?_, ?_, ?_, ?_, ?_, ?_⟩ <;> omega

def val : List Nat → Nat
  | [] => 0
  | a :: l => a * 256 ^ l.length + val l
theorem val_lt : ∀ l : List Nat, (∀ x ∈ l, x < 256) → val l < 256 ^ l.length
  | [], _ => by simp [val]
  | a :: l, h => by
    have h1 := val_lt l (fun x hx => h x (by simp [hx]))
    have h2 := h a (by simp)
    rw [val, List.length_cons, Nat.pow_succ]
    have : a * 256 ^ l.length ≤ 255 * 256 ^ l.length := Nat.mul_le_mul_right _ (by omega)
    omega
def acc (l : List Nat) : Nat := l.foldl (fun a x => a * 256 + x) 0
theorem foldl_val : ∀ (l : List Nat) (a : Nat), l.foldl (fun a x => a * 256 + x) a = a * 256 ^ l.length + val l
  | [], a => by simp [val]
  | x :: l, a => by
    rw [List.foldl_cons, foldl_val l, val, List.length_cons, Nat.pow_succ, Nat.add_mul, Nat.mul_assoc, Nat.mul_comm 256, Nat.add_assoc]
theorem acc_val (l : List Nat) : acc l = val l := by unfold acc; rw [foldl_val]; simp
theorem acc_snoc (l : List Nat) (x : Nat) : acc (l ++ [x]) = acc l * 256 + x := by unfold acc; rw [List.foldl_append]; rfl
theorem acc_lt (l : List Nat) (h : ∀ x ∈ l, x < 256) (hl : l.length ≤ 7) : acc l < 72057594037927936 := by
  rw [acc_val]
  exact Nat.lt_of_lt_of_le (val_lt l h) (Nat.le_trans (Nat.pow_le_pow_right (by omega) hl) (by decide))
theorem orByte (a x : Nat) (ha : a < 72057594037927936) (hx : x < 256) : bits BinOp.or IntKind.u64 (IntKind.u64.wrap ((a : Int) * 256)) (x : Int) = ((a * 256 + x : Nat) : Int) := by
  have e : IntKind.u64.wrap ((a : Int) * 256) = ((a * 256 : Nat) : Int) := by rw [IntKind.wrap_u64]; omega
  rw [e]
  refine (u64_or_nat (a * 256) x (by omega) (by omega)).trans ?_
  rw [nat_join 8 (a * 256) x (by omega) (by omega)]
theorem val_bigL (u : Nat) (h : u < 18446744073709551616) : val (bigL u) = u := by
  simp [val, bigL]
  omega
theorem bigL_val (x0 x1 x2 x3 x4 x5 x6 x7 : Nat) (h : ∀ x ∈ [x0, x1, x2, x3, x4, x5, x6, x7], x < 256) : bigL (val [x0, x1, x2, x3, x4, x5, x6, x7]) = [x0, x1, x2, x3, x4, x5, x6, x7] := by
  simp at h
  obtain ⟨h0, h1, h2, h3, h4, h5, h6, h7⟩ := h
  simp [val, bigL]
  refine ⟨?_, ?_, ?_, ?_, ?_, ?_, ?_, ?_⟩ <;> omega
end Go.Proofs.Ytbmjiheclagfiaa
