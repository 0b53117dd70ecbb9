/-
  Plain words for layer 14: all transactions that there ever were; a table in memory that stands for them. No walk.
-/
import Derived.Test.YtgahkloldpjnkaaMV2
namespace Go.Proofs.Ytgahkloldpjnkaa
open Go.RowKit Go.Maps
set_option linter.unusedVariables false

/-- A transaction: its start, what it has touched, is it under way; when it was committed, -1 if it wasn't. -/
structure Tx where
  start : Int
  refs : List Rf
  live : Bool
  at_ : Int

/-- The transactions, and the last time. -/
structure MV where
  txns : List Tx
  last : Int

instance : Inhabited Tx := ⟨⟨0, [], false, -1⟩⟩

/-- The n-th, if it is under way. -/
def MV.live? (M : MV) (n : Int) : Option Tx := if 1 ≤ n then (M.txns[(n - 1).toNat]?).filter (·.live) else none

def MV.nums (M : MV) : List Int := ((List.range M.txns.length).filter fun i : Nat => (M.live? ((i : Int) + 1)).isSome).map fun i : Nat => (i : Int) + 1

/-- The least start of those under way. -/
def MV.hor (M : MV) : Int := M.txns.foldl (fun h x => if x.live = true ∧ x.start < h then x.start else h) M.last

def MV.new (last : Int) : MV := ⟨[], min (max last 0) 1099511627776⟩

def MV.add (M : MV) : MV := ⟨M.txns ++ [⟨M.last, [], true, -1⟩], M.last⟩

def MV.put (M : MV) (n : Int) (x : Tx) : MV := ⟨M.txns.set (n - 1).toNat x, M.last⟩

def common (a b : List Rf) : Bool := a.any fun r => decide (r ∈ b)

def MV.clash (M : MV) (x : Tx) : Bool := M.txns.any fun y => decide (x.start < y.at_) && common y.refs x.refs

def MV.tryE (M : MV) (n : Int) : Int := match M.live? n with
  | none => 141
  | some x => if M.clash x = true then 140 else if x.refs ≠ [] ∧ M.last = 1099511627776 then 4 else 0

def MV.touch (M : MV) (n : Int) (rs : List Rf) : MV := match M.live? n with
  | none => M
  | some x => M.put n { x with refs := x.refs ++ rs }

def MV.over (M : MV) (n : Int) : MV := match M.live? n with
  | none => M
  | some x => M.put n { x with live := false }

def MV.win (M : MV) (n : Int) : MV := match M.live? n with
  | none => M
  | some x => ⟨M.txns.set (n - 1).toNat { x with at_ := M.last + 1 }, M.last + 1⟩

def MV.refsOf (M : MV) (n : Int) : List Rf := match M.live? n with
  | none => []
  | some x => x.refs

def MV.commit (M : MV) (n : Int) : MV := if M.tryE n = 0 ∧ M.refsOf n ≠ [] then (M.win n).over n else M.over n

def MV.startOf (M : MV) (n : Int) : Int := match M.live? n with
  | none => 0
  | some x => x.start

def MV.commitT (M : MV) (n : Int) : Int := if M.tryE n = 0 then (if M.refsOf n = [] then M.startOf n else M.last + 1) else 0

structure MV.Ok (M : MV) : Prop where
  last : 0 ≤ M.last ∧ M.last ≤ 1099511627776
  tx : ∀ x ∈ M.txns, 0 ≤ x.start ∧ x.start ≤ M.last ∧ x.at_ ≤ M.last ∧ -1 ≤ x.at_
  refs : ∀ x ∈ M.txns, ∀ r ∈ x.refs, I64 r.snd
  few : M.nums.length ≤ 8
  count : M.txns.length ≤ 4611686018427387904

/-! ### Live ones -/

theorem live_iff {M : MV} {n : Int} {x : Tx} : M.live? n = some x ↔ 1 ≤ n ∧ M.txns[(n - 1).toNat]? = some x ∧ x.live = true := by
  unfold MV.live?
  by_cases h : 1 ≤ n
  · rw [if_pos h, Option.filter_eq_some_iff]; simp [h]
  · rw [if_neg h]; simp [h]

theorem live_lt {M : MV} {n : Int} {x : Tx} (h : M.live? n = some x) : 1 ≤ n ∧ n ≤ M.txns.length := by
  obtain ⟨h1, h2, _⟩ := live_iff.1 h
  have := (List.getElem?_eq_some_iff.1 h2).1
  exact ⟨h1, by omega⟩

theorem live_64 {M : MV} (hk : M.Ok) {n : Int} {x : Tx} (h : M.live? n = some x) : I64 n := by
  have := live_lt h
  have := hk.count
  unfold I64; omega

theorem live_mem {M : MV} {n : Int} {x : Tx} (h : M.live? n = some x) : x ∈ M.txns := List.mem_of_getElem? (live_iff.1 h).2.1

theorem mem_nums {M : MV} {n : Int} : n ∈ M.nums ↔ (M.live? n).isSome = true := by
  unfold MV.nums
  rw [List.mem_map]
  constructor
  · rintro ⟨i, hi, rfl⟩
    exact (List.mem_filter.1 hi).2
  · intro h
    obtain ⟨x, hx⟩ := Option.isSome_iff_exists.1 h
    have hl := live_lt hx
    refine ⟨(n - 1).toNat, List.mem_filter.2 ⟨List.mem_range.2 (by omega), ?_⟩, by omega⟩
    rw [show (((n - 1).toNat : Nat) : Int) + 1 = n by omega]; exact h

theorem nums_up (M : MV) : M.nums.Pairwise (· < ·) := by
  unfold MV.nums
  rw [List.pairwise_map]
  exact (List.Pairwise.filter _ (List.pairwise_lt_range)).imp (fun {a b} h => by omega)

theorem nums_nodup (M : MV) : M.nums.Nodup := (nums_up M).imp (fun {a b} h => by omega)

theorem nums_in (M : MV) (h : M.txns.length ≤ 9223372036854775807) (n : Int) (g : Int → Option Value) (hg : ∀ n, (g n).isSome = (M.live? n).isSome) : n ∈ M.nums ↔ I64 n ∧ (g n).isSome = true := by
  rw [mem_nums, hg]
  constructor
  · intro h1
    obtain ⟨x, hx⟩ := Option.isSome_iff_exists.1 h1
    have := live_lt hx
    exact ⟨by unfold I64; omega, h1⟩
  · exact fun h => h.2

/-! ### The horizon -/

theorem hor_fold (l : List Tx) (h : Int) : (∀ x ∈ l, x.live = true → l.foldl (fun h x => if x.live = true ∧ x.start < h then x.start else h) h ≤ x.start) ∧ l.foldl (fun h x => if x.live = true ∧ x.start < h then x.start else h) h ≤ h ∧
    (l.foldl (fun h x => if x.live = true ∧ x.start < h then x.start else h) h = h ∨ ∃ x ∈ l, x.live = true ∧ l.foldl (fun h x => if x.live = true ∧ x.start < h then x.start else h) h = x.start) := by
  induction l generalizing h with
  | nil => simp
  | cons y r ih =>
    rw [List.foldl_cons]
    obtain ⟨h1, h2, h3⟩ := ih (if y.live = true ∧ y.start < h then y.start else h)
    refine ⟨fun x hx hl => ?_, ?_, ?_⟩
    · rcases List.mem_cons.1 hx with rfl | hx
      · refine Int.le_trans h2 ?_
        split
        · omega
        · rename_i hn; have : ¬ x.start < h := fun e => hn ⟨hl, e⟩; omega
      · exact h1 x hx hl
    · refine Int.le_trans h2 ?_
      split <;> omega
    · rcases h3 with h3 | ⟨x, hx, hl, h3⟩
      · rw [h3]
        split
        · rename_i hc; exact .inr ⟨y, by simp, hc.1, rfl⟩
        · exact .inl rfl
      · exact .inr ⟨x, by simp [hx], hl, h3⟩

theorem hor_le_last (M : MV) : M.hor ≤ M.last := (hor_fold M.txns M.last).2.1

theorem hor_le {M : MV} {n : Int} {x : Tx} (h : M.live? n = some x) : M.hor ≤ x.start := (hor_fold M.txns M.last).1 x (live_mem h) (live_iff.1 h).2.2

theorem hor_get (M : MV) : M.hor = M.last ∨ ∃ n x, M.live? n = some x ∧ M.hor = x.start := by
  rcases (hor_fold M.txns M.last).2.2 with h | ⟨x, hx, hl, h⟩
  · exact .inl h
  · obtain ⟨i, hi⟩ := List.getElem?_of_mem hx
    exact .inr ⟨(i : Int) + 1, x, live_iff.2 ⟨by omega, by rw [show ((i : Int) + 1 - 1).toNat = i by omega]; exact hi, hl⟩, h⟩

/-- Whatever is below all starts and is one of them is the horizon. -/
theorem hor_unique {M : MV} {h : Int} (h1 : h ≤ M.last) (h2 : ∀ n x, M.live? n = some x → h ≤ x.start) (h3 : h = M.last ∨ ∃ n x, M.live? n = some x ∧ h = x.start) : h = M.hor := by
  have a : h ≤ M.hor := by
    rcases hor_get M with e | ⟨n, x, hx, e⟩
    · rw [e]; exact h1
    · rw [e]; exact h2 n x hx
  have b : M.hor ≤ h := by
    rcases h3 with e | ⟨n, x, hx, e⟩
    · rw [e]; exact hor_le_last M
    · rw [e]; exact hor_le hx
  omega

theorem hor_ok {M : MV} (h : M.Ok) : 0 ≤ M.hor ∧ M.hor ≤ 1099511627776 := by
  have := h.last
  have h1 := hor_le_last M
  rcases hor_get M with e | ⟨n, x, hx, e⟩
  · omega
  · have := h.tx x (live_mem hx); omega

/-! ### What becomes of the live ones -/

theorem live_put {M : MV} {n : Int} {x y : Tx} (h : M.live? n = some x) (k : Int) : (M.put n y).live? k = if k = n then (if y.live = true then some y else none) else M.live? k := by
  obtain ⟨h1, h2, h3⟩ := live_iff.1 h
  have hl := (List.getElem?_eq_some_iff.1 h2).1
  unfold MV.live? MV.put
  by_cases hk : k = n
  · subst hk
    rw [if_pos h1, if_pos rfl, List.getElem?_set_self hl]
    by_cases hy : y.live = true <;> simp [Option.filter, hy]
  · rw [if_neg hk]
    by_cases h4 : 1 ≤ k
    · rw [if_pos h4, if_pos h4, List.getElem?_set_ne (by omega)]
    · rw [if_neg h4, if_neg h4]

theorem live_add (M : MV) (k : Int) : M.add.live? k = if k = (M.txns.length : Int) + 1 then some ⟨M.last, [], true, -1⟩ else M.live? k := by
  unfold MV.live? MV.add
  by_cases hk : k = (M.txns.length : Int) + 1
  · subst hk
    rw [if_pos (by omega), if_pos rfl, show ((M.txns.length : Int) + 1 - 1).toNat = M.txns.length by omega, List.getElem?_append_right (Nat.le_refl _)]
    simp [Option.filter]
  · rw [if_neg hk]
    by_cases h4 : 1 ≤ k
    · rw [if_pos h4, if_pos h4]
      by_cases h5 : (k - 1).toNat < M.txns.length
      · rw [List.getElem?_append_left h5]
      · rw [List.getElem?_append_right (by omega), List.getElem?_eq_none (by simp; omega), List.getElem?_eq_none (by omega)]
    · rw [if_neg h4, if_neg h4]

end Go.Proofs.Ytgahkloldpjnkaa
