/-
  The walk of skeinlaw02.CrcBehind.
-/
import Derived.Test.YtbmjiheclagfiaaL2
import Derived.Test.YtbmjiheclagfiaaLin
import Derived.Test.YtbmjiheclagfiaaReg
namespace Go.Proofs.Ytbmjiheclagfiaa
open Go.RowKit
set_option linter.unusedVariables false

theorem RB.first {w : World} {B : Nat} {A : Option Addr} {n c k : Nat} {l : List Nat} (h : RB w B (.slice A n c) l) (hk : k ≤ l.length) : RB w B (.slice A k c) (l.take k) := by
  have e : l.take k ++ l.drop k = l := List.take_append_drop k l
  rw [← e] at h
  have := h.pre
  rwa [List.length_take, Nat.min_eq_left hk] at this
theorem RP.two' {w : World} {B p : Nat} {u v : Value} {l m : List Nat} (h1 : w.cell? ⟨p, 0, none⟩ = some u) (h2 : w.cell? ⟨p, 1, none⟩ = some v) (hu : RB w B u l) (hv : RB w B v m) : RP w B p 0 [l, m] := by
  intro i hi
  match i, hi with
  | 0, _ => exact ⟨u, h1, hu⟩
  | 1, _ => exact ⟨v, h2, hv⟩


def S8 (w1 : World) (A1 A2 A3 A4 : Option Addr) (c1 c2 c3 c4 n m s1 s2 s3 s4 t : Nat) (l1 l2 l3 l4 qA qB qC qD : List Nat) (i : Nat) (v : Value) (w : World) : Prop := match i with
  | 0 => v = .slice A1 l1.length c1
  | 1 => v = .int .i64 (n : Int)
  | 2 => v = .slice A1 n c1
  | 3 => v = .slice A3 l3.length c3
  | 4 => v = .int .i64 (m : Int)
  | 5 => v = .slice A3 m c3
  | 6 => ∃ p, v = .slice (some ⟨p, 0, none⟩) 2 2 ∧ p < w.heap.size ∧ RP w w1.heap.size p 0 [qA, qC]
  | 7 => v = .int .u32 (s1 : Int)
  | 8 => v = .slice A2 l2.length c2
  | 9 => v = .int .i64 (n : Int)
  | 10 => v = .slice A2 n c2
  | 11 => v = .slice A3 l3.length c3
  | 12 => v = .int .i64 (m : Int)
  | 13 => v = .slice A3 m c3
  | 14 => ∃ p, v = .slice (some ⟨p, 0, none⟩) 2 2 ∧ p < w.heap.size ∧ RP w w1.heap.size p 0 [qB, qC]
  | 15 => v = .int .u32 (s2 : Int)
  | 16 => v = .int .u32 (t : Int)
  | 17 => v = .slice A1 l1.length c1
  | 18 => v = .int .i64 (n : Int)
  | 19 => v = .slice A1 n c1
  | 20 => v = .slice A4 l4.length c4
  | 21 => v = .int .i64 (m : Int)
  | 22 => v = .slice A4 m c4
  | 23 => ∃ p, v = .slice (some ⟨p, 0, none⟩) 2 2 ∧ p < w.heap.size ∧ RP w w1.heap.size p 0 [qA, qD]
  | 24 => v = .int .u32 (s3 : Int)
  | 25 => v = .slice A2 l2.length c2
  | 26 => v = .int .i64 (n : Int)
  | 27 => v = .slice A2 n c2
  | 28 => v = .slice A4 l4.length c4
  | 29 => v = .int .i64 (m : Int)
  | 30 => v = .slice A4 m c4
  | 31 => ∃ p, v = .slice (some ⟨p, 0, none⟩) 2 2 ∧ p < w.heap.size ∧ RP w w1.heap.size p 0 [qB, qD]
  | 32 => v = .int .u32 (s4 : Int)
  | 33 => v = .int .u32 (t : Int)
  | 34 => v = .bool true
  | 35 => v = .bool true
  | _ => True

theorem S8_below {w1 : World} {A1 A2 A3 A4 : Option Addr} {c1 c2 c3 c4 n m s1 s2 s3 s4 t : Nat} {l1 l2 l3 l4 qA qB qC qD : List Nat} {w w' : World} (i : Nat) (v : Value) (hb : Below w.heap.size w w') (hB : w1.heap.size ≤ w.heap.size)
    (h : S8 w1 A1 A2 A3 A4 c1 c2 c3 c4 n m s1 s2 s3 s4 t l1 l2 l3 l4 qA qB qC qD i v w) : S8 w1 A1 A2 A3 A4 c1 c2 c3 c4 n m s1 s2 s3 s4 t l1 l2 l3 l4 qA qB qC qD i v w' := by
  have key : ∀ (p : Nat) (ps : List (List Nat)), p < w.heap.size → RP w w1.heap.size p 0 ps → RP w' w1.heap.size p 0 ps := by
    intro p ps hp hr j hj
    obtain ⟨u, h1, h2⟩ := hr j hj
    exact ⟨u, (hb.cell (p := ⟨p, 0 + j, none⟩) hp).trans h1, h2.below (hb.mono hB)⟩
  unfold S8 at h ⊢
  split at h
  all_goals first
    | exact h
    | (obtain ⟨p, h1, h2, h3⟩ := h; exact ⟨p, h1, Nat.lt_of_lt_of_le h2 hb.size, key _ _ h2 h3⟩)

section
variable {a : Act}
theorem run_move {x : Tmp} {v : Value} {ty : TypeId} {pos : String} {d : Option Tmp} {af : Array Edge} {g : Option (Nat × Bool)} {w : World} (hx : a.tmps.getD x undef = v) :
    (execOp a.eval { dst := d, op := .move (.tmp x), type := ty, pos := pos, after := af, guard := g }).run Try.prog w = .ok (.value v) w := by
  simp only [execOp, Act.eval, hx]; rfl
theorem run_assign {x : Tmp} {v : Value} {ty : TypeId} {pos : String} {d : Option Tmp} {af : Array Edge} {g : Option (Nat × Bool)} (w : World) (hx : a.tmps.getD x undef = v) :
    (execOp a.eval { dst := d, op := .assign (.tmp x), type := ty, pos := pos, after := af, guard := g }).run Try.prog w = .ok (.value v) w := by
  simp only [execOp, Act.eval, hx]; rfl
theorem run_cut {x y : Tmp} {A : Option Addr} {len c k : Nat} {ty : TypeId} {pos : String} {d : Option Tmp} {af : Array Edge} {g : Option (Nat × Bool)} (w : World) (hx : a.tmps.getD x undef = .slice A len c) (hy : a.tmps.getD y undef = .int .i64 (k : Int)) (h1 : (0 : Int) ≤ k) (h2 : (k : Int) ≤ c) :
    (execOp a.eval { dst := d, op := .slice 22 (.tmp x) none (some (.tmp y)) none, type := ty, pos := pos, after := af, guard := g }).run Try.prog w = .ok (.value (.slice A k c)) w := by
  simp only [execOp, Act.eval, hx, hy, Option.map]
  go_simp
theorem run_pair {x y : Tmp} {A1 A2 : Option Addr} {n1 n2 c1 c2 : Nat} {ty : TypeId} {pos : String} {d : Option Tmp} {af : Array Edge} {g : Option (Nat × Bool)} (w : World) (hx : a.tmps.getD x undef = .slice A1 n1 c1) (hy : a.tmps.getD y undef = .slice A2 n2 c2) :
    (execOp a.eval { dst := d, op := .buildSlice 56 2 #[(0, .tmp x), (1, .tmp y)], type := ty, pos := pos, after := af, guard := g }).run Try.prog w = .ok (.value (.slice (some ⟨w.heap.size, 0, none⟩) 2 2)) (w.alloc (.cells #[.slice A1 n1 c1, .slice A2 n2 c2] 22)) := by
  simp only [execOp, Act.eval, hx, hy, List.map_toArray, List.map]
  go_simp
theorem run_call1 {x : Tmp} {u : Value} {ts : Array TypeId} {ty : TypeId} {pos : String} {d : Option Tmp} {af : Array Edge} {g : Option (Nat × Bool)} (w : World) (hx : a.tmps.getD x undef = u) :
    (execOp a.eval { dst := d, op := .call { callee := .value (.func 10), args := #[.tmp x], argTypes := ts }, type := ty, pos := pos, after := af, guard := g }).run Try.prog w = .ok (.enter 10 #[u]) w := by
  simp only [execOp, resolve, Act.eval, hx, List.map_toArray, List.map]
  go_simp
theorem run_xor {x y : Tmp} {r s q : Nat} {tx ty' ty : TypeId} {pos : String} {d : Option Tmp} {af : Array Edge} {g : Option (Nat × Bool)} (w : World) (hx : a.tmps.getD x undef = .int .u32 (r : Int)) (hy : a.tmps.getD y undef = .int .u32 (s : Int)) (hb : bits BinOp.xor IntKind.u32 (r : Int) (s : Int) = (q : Int)) :
    (execOp a.eval { dst := d, op := .binOp .xor tx (.tmp x) (.tmp y) ty', type := ty, pos := pos, after := af, guard := g }).run Try.prog w = .ok (.value (.int .u32 (q : Int))) w := by
  simp only [execOp, Act.eval, hx, hy]
  go_simp
theorem run_eq {x y : Tmp} {q : Nat} {ty : TypeId} {pos : String} {d : Option Tmp} {af : Array Edge} {g : Option (Nat × Bool)} (w : World) (hx : a.tmps.getD x undef = .int .u32 (q : Int)) (hy : a.tmps.getD y undef = .int .u32 (q : Int)) :
    (execOp a.eval { dst := d, op := .binOp .eql 24 (.tmp x) (.tmp y) 24, type := ty, pos := pos, after := af, guard := g }).run Try.prog w = .ok (.value (.bool true)) w := by
  simp only [execOp, Act.eval, hx, hy]
  go_simp
end

set_option maxRecDepth 100000 in
set_option maxHeartbeats 20000000 in
theorem crcBehind_mid (a b c d : Value) (l1 l2 l3 l4 : List Nat) (w : World) (h1 : RB w w.heap.size a l1) (h2 : RB w w.heap.size b l2) (h3 : RB w w.heap.size c l3) (h4 : RB w w.heap.size d l4) :
    Calls Try.prog 4 #[a, b, c, d] w fun e w' => e = .returned (.bool true) ∧ Below w.heap.size w w' := by
  have HA := Lib.hid h1
  have HB := Lib.hid h2
  have HC := Lib.hid h3
  have HD := Lib.hid h4
  obtain ⟨A1, c1, rfl, ha1, ha2, ha3, _⟩ := h1.open_
  obtain ⟨A2, c2, rfl, hb1, hb2, hb3, _⟩ := h2.open_
  obtain ⟨A3, c3, rfl, hc1, hc2, hc3, _⟩ := h3.open_
  obtain ⟨A4, c4, rfl, hd1, hd2, hd3, _⟩ := h4.open_
  clear h1 h2 h3 h4
  go_enter Try.func4, Try.ntmps4
  go_wp2_with fail
  refine (alive2 w).mono ?_
  rintro e w1 ⟨rfl, hb⟩
  have HA1 := Lib.hid (RBn HA.out hb)
  have HB1 := Lib.hid (RBn HB.out hb)
  have HC1 := Lib.hid (RBn HC.out hb)
  have HD1 := Lib.hid (RBn HD.out hb)
  have HX1 := Lib.hid hb
  clear hb HA HB HC HD
  obtain ⟨n, hn, hn1, hn2⟩ : ∃ n : Nat, (if (l2.length : Int) < (l1.length : Int) then (l2.length : Int) else (l1.length : Int)) = (n : Int) ∧ n ≤ l1.length ∧ n ≤ l2.length := by
    split
    · exact ⟨l2.length, rfl, by omega, by omega⟩
    · exact ⟨l1.length, rfl, by omega, by omega⟩
  obtain ⟨m, hm, hm1, hm2⟩ : ∃ m : Nat, (if (l4.length : Int) < (l3.length : Int) then (l4.length : Int) else (l3.length : Int)) = (m : Int) ∧ m ≤ l3.length ∧ m ≤ l4.length := by
    split
    · exact ⟨l4.length, rfl, by omega, by omega⟩
    · exact ⟨l3.length, rfl, by omega, by omega⟩
  have r1 : ∀ (ts : Array TypeId) (t : TypeId) (W : World), (Builtin.min_ ts t #[.int .i64 (l1.length : Int), .int .i64 (l2.length : Int)]).run Try.prog W = .ok (.int .i64 (n : Int)) W := fun ts t W => by rw [run_min_int2, hn]
  have r2 : ∀ (ts : Array TypeId) (t : TypeId) (W : World), (Builtin.min_ ts t #[.int .i64 (l3.length : Int), .int .i64 (l4.length : Int)]).run Try.prog W = .ok (.int .i64 (m : Int)) W := fun ts t W => by rw [run_min_int2, hm]
  go_wp2_with fail
  have PA := Lib.hid (HA1.out.first (k := n) (by omega))
  have PB := Lib.hid (HB1.out.first (k := n) (by omega))
  have PC := Lib.hid (HC1.out.first (k := m) (by omega))
  have PD := Lib.hid (HD1.out.first (k := m) (by omega))
  obtain ⟨qA, hqA⟩ : ∃ q, q = l1.take n := ⟨_, rfl⟩
  obtain ⟨qB, hqB⟩ : ∃ q, q = l2.take n := ⟨_, rfl⟩
  obtain ⟨qC, hqC⟩ : ∃ q, q = l3.take m := ⟨_, rfl⟩
  obtain ⟨qD, hqD⟩ : ∃ q, q = l4.take m := ⟨_, rfl⟩
  have hCD : qC.length = qD.length := by rw [hqC, hqD, List.length_take, List.length_take]; omega
  rw [← hqA] at PA
  rw [← hqB] at PB
  rw [← hqC] at PC
  rw [← hqD] at PD
  clear hqA hqB hqC hqD
  have hlt : ∀ u v, (∀ x ∈ u, x < 256) → (∀ x ∈ v, x < 256) → crcSum [u, v].flatten < 4294967296 := by
    intro u v hu hv
    refine crcSum_lt _ ?_
    simp
    intro x hx
    rcases hx with hx | hx
    · exact hu x hx
    · exact hv x hx
  have hb := sumsBehind qA qB qC qD hCD
  obtain ⟨s1, h1⟩ : ∃ s, crcSum [qA, qC].flatten = s := ⟨_, rfl⟩
  obtain ⟨s2, h2⟩ : ∃ s, crcSum [qB, qC].flatten = s := ⟨_, rfl⟩
  obtain ⟨s3, h3⟩ : ∃ s, crcSum [qA, qD].flatten = s := ⟨_, rfl⟩
  obtain ⟨s4, h4⟩ : ∃ s, crcSum [qB, qD].flatten = s := ⟨_, rfl⟩
  have b1 : s1 < 4294967296 := by rw [← h1]; exact hlt _ _ PA.out.1 PC.out.1
  have b2 : s2 < 4294967296 := by rw [← h2]; exact hlt _ _ PB.out.1 PC.out.1
  have b3 : s3 < 4294967296 := by rw [← h3]; exact hlt _ _ PA.out.1 PD.out.1
  have b4 : s4 < 4294967296 := by rw [← h4]; exact hlt _ _ PB.out.1 PD.out.1
  have S1 := Lib.hid h1
  have S2 := Lib.hid h2
  have S3 := Lib.hid h3
  have S4 := Lib.hid h4
  have e12 : s1 ^^^ s2 = s3 ^^^ s4 := by
    rw [← h1, ← h2, ← h3, ← h4]
    simpa using hb
  obtain ⟨t, ht⟩ : ∃ t, t = s1 ^^^ s2 := ⟨_, rfl⟩
  have X1 : bits BinOp.xor IntKind.u32 (s1 : Int) (s2 : Int) = (t : Int) := by rw [u32xor _ _ b1 b2, ht]
  have X2 : bits BinOp.xor IntKind.u32 (s3 : Int) (s4 : Int) = (t : Int) := by rw [u32xor _ _ b3 b4, ht, e12]
  have i1 : (0 : Int) ≤ (n : Int) := by omega
  have i2 : (0 : Int) ≤ (m : Int) := by omega
  have j1 : (n : Int) ≤ (c1 : Int) := by omega
  have j2 : (n : Int) ≤ (c2 : Int) := by omega
  have j3 : (m : Int) ≤ (c3 : Int) := by omega
  have j4 : (m : Int) ≤ (c4 : Int) := by omega
  clear ht e12 b1 b2 b3 b4 h1 h2 h3 h4 hb hlt hCD HA1 HB1 HC1 HD1 r1 r2 hn hm
  rename_i K _ hK
  refine wp_region_slots (S8 w1 A1 A2 A3 A4 c1 c2 c3 c4 n m s1 s2 s3 s4 t l1 l2 l3 l4 qA qB qC qD) (fun w => Below w1.heap.size w1 w) (by kernel_rfl) (by kernel_rfl) (by kernel_rfl) ((Below.refl _ _).drew) ?_ ?_
  · intro L a w i o h ho hd
    revert L a w
    revert i o
    refine each_array ?_
    refine ⟨?_, ?_, ?_, ?_, ?_, ?_, ?_, ?_, ?_, ?_, ?_, ?_, ?_, ?_, ?_, ?_, ?_, ?_, ?_, ?_, ?_, ?_, ?_, ?_, ?_, ?_, ?_, ?_, ?_, ?_, ?_, ?_, ?_, ?_, ?_, ?_, trivial⟩
    · intro L a w h hd
      exact h.val rfl rfl (run_move (h.still 0 (by kernel_rfl))) rfl
    · intro L a w h hd
      exact h.val rfl rfl (run_move (h.still 9 (by kernel_rfl))) rfl
    · intro L a w h hd
      exact h.val rfl rfl (run_cut w (h.ran 0 _ 23 rfl rfl (hd ⟨0, .data⟩ (by simp) rfl)) (h.ran 1 _ 24 rfl rfl (hd ⟨1, .data⟩ (by simp) rfl)) (by omega) (by omega)) rfl
    · intro L a w h hd
      exact h.val rfl rfl (run_move (h.still 2 (by kernel_rfl))) rfl
    · intro L a w h hd
      exact h.val rfl rfl (run_move (h.still 10 (by kernel_rfl))) rfl
    · intro L a w h hd
      exact h.val rfl rfl (run_cut w (h.ran 3 _ 26 rfl rfl (hd ⟨3, .data⟩ (by simp) rfl)) (h.ran 4 _ 27 rfl rfl (hd ⟨4, .data⟩ (by simp) rfl)) (by omega) (by omega)) rfl
    · intro L a w h hd
      exact h.mem rfl rfl (run_pair w (h.ran 2 _ 25 rfl rfl (hd ⟨2, .data⟩ (by simp) rfl)) (h.ran 5 _ 28 rfl rfl (hd ⟨5, .data⟩ (by simp) rfl))) (fun k v hk => (S8_below k v (by exact (Below.refl _ _).alloc (Nat.le_refl _) _) h.world.size hk)) (h.world.alloc h.world.size _) ⟨_, rfl, by simp, RP.two rfl (PA.out.below h.world) (PC.out.below h.world) h.world.size⟩
    · intro L a w h hd
      obtain ⟨p, hp, hlt, hrp⟩ := h.ran 6 _ 29 rfl rfl (hd ⟨6, .data⟩ (by simp) rfl)
      refine h.call rfl rfl (run_call1 w hp) ((crcSum_any p 0 2 w1.heap.size [qA, qC] w hrp (by simp)).mono ?_)
      rintro e w' ⟨rfl, rfl⟩
      exact ⟨_, rfl, fun _ _ h => h, h.world, by rw [S1.out]; rfl⟩
    · intro L a w h hd
      exact h.val rfl rfl (run_move (h.still 1 (by kernel_rfl))) rfl
    · intro L a w h hd
      exact h.val rfl rfl (run_move (h.still 9 (by kernel_rfl))) rfl
    · intro L a w h hd
      exact h.val rfl rfl (run_cut w (h.ran 8 _ 31 rfl rfl (hd ⟨8, .data⟩ (by simp) rfl)) (h.ran 9 _ 32 rfl rfl (hd ⟨9, .data⟩ (by simp) rfl)) (by omega) (by omega)) rfl
    · intro L a w h hd
      exact h.val rfl rfl (run_move (h.still 2 (by kernel_rfl))) rfl
    · intro L a w h hd
      exact h.val rfl rfl (run_move (h.still 10 (by kernel_rfl))) rfl
    · intro L a w h hd
      exact h.val rfl rfl (run_cut w (h.ran 11 _ 34 rfl rfl (hd ⟨11, .data⟩ (by simp) rfl)) (h.ran 12 _ 35 rfl rfl (hd ⟨12, .data⟩ (by simp) rfl)) (by omega) (by omega)) rfl
    · intro L a w h hd
      exact h.mem rfl rfl (run_pair w (h.ran 10 _ 33 rfl rfl (hd ⟨10, .data⟩ (by simp) rfl)) (h.ran 13 _ 36 rfl rfl (hd ⟨13, .data⟩ (by simp) rfl))) (fun k v hk => (S8_below k v (by exact (Below.refl _ _).alloc (Nat.le_refl _) _) h.world.size hk)) (h.world.alloc h.world.size _) ⟨_, rfl, by simp, RP.two rfl (PB.out.below h.world) (PC.out.below h.world) h.world.size⟩
    · intro L a w h hd
      obtain ⟨p, hp, hlt, hrp⟩ := h.ran 14 _ 37 rfl rfl (hd ⟨14, .data⟩ (by simp) rfl)
      refine h.call rfl rfl (run_call1 w hp) ((crcSum_any p 0 2 w1.heap.size [qB, qC] w hrp (by simp)).mono ?_)
      rintro e w' ⟨rfl, rfl⟩
      exact ⟨_, rfl, fun _ _ h => h, h.world, by rw [S2.out]; rfl⟩
    · intro L a w h hd
      exact h.val rfl rfl (run_xor w (h.ran 7 _ 30 rfl rfl (hd ⟨7, .data⟩ (by simp) rfl)) (h.ran 15 _ 38 rfl rfl (hd ⟨15, .data⟩ (by simp) rfl)) X1) rfl
    · intro L a w h hd
      exact h.val rfl rfl (run_move (h.still 0 (by kernel_rfl))) rfl
    · intro L a w h hd
      exact h.val rfl rfl (run_move (h.still 9 (by kernel_rfl))) rfl
    · intro L a w h hd
      exact h.val rfl rfl (run_cut w (h.ran 17 _ 40 rfl rfl (hd ⟨17, .data⟩ (by simp) rfl)) (h.ran 18 _ 41 rfl rfl (hd ⟨18, .data⟩ (by simp) rfl)) (by omega) (by omega)) rfl
    · intro L a w h hd
      exact h.val rfl rfl (run_move (h.still 3 (by kernel_rfl))) rfl
    · intro L a w h hd
      exact h.val rfl rfl (run_move (h.still 10 (by kernel_rfl))) rfl
    · intro L a w h hd
      exact h.val rfl rfl (run_cut w (h.ran 20 _ 43 rfl rfl (hd ⟨20, .data⟩ (by simp) rfl)) (h.ran 21 _ 44 rfl rfl (hd ⟨21, .data⟩ (by simp) rfl)) (by omega) (by omega)) rfl
    · intro L a w h hd
      exact h.mem rfl rfl (run_pair w (h.ran 19 _ 42 rfl rfl (hd ⟨19, .data⟩ (by simp) rfl)) (h.ran 22 _ 45 rfl rfl (hd ⟨22, .data⟩ (by simp) rfl))) (fun k v hk => (S8_below k v (by exact (Below.refl _ _).alloc (Nat.le_refl _) _) h.world.size hk)) (h.world.alloc h.world.size _) ⟨_, rfl, by simp, RP.two rfl (PA.out.below h.world) (PD.out.below h.world) h.world.size⟩
    · intro L a w h hd
      obtain ⟨p, hp, hlt, hrp⟩ := h.ran 23 _ 46 rfl rfl (hd ⟨23, .data⟩ (by simp) rfl)
      refine h.call rfl rfl (run_call1 w hp) ((crcSum_any p 0 2 w1.heap.size [qA, qD] w hrp (by simp)).mono ?_)
      rintro e w' ⟨rfl, rfl⟩
      exact ⟨_, rfl, fun _ _ h => h, h.world, by rw [S3.out]; rfl⟩
    · intro L a w h hd
      exact h.val rfl rfl (run_move (h.still 1 (by kernel_rfl))) rfl
    · intro L a w h hd
      exact h.val rfl rfl (run_move (h.still 9 (by kernel_rfl))) rfl
    · intro L a w h hd
      exact h.val rfl rfl (run_cut w (h.ran 25 _ 48 rfl rfl (hd ⟨25, .data⟩ (by simp) rfl)) (h.ran 26 _ 49 rfl rfl (hd ⟨26, .data⟩ (by simp) rfl)) (by omega) (by omega)) rfl
    · intro L a w h hd
      exact h.val rfl rfl (run_move (h.still 3 (by kernel_rfl))) rfl
    · intro L a w h hd
      exact h.val rfl rfl (run_move (h.still 10 (by kernel_rfl))) rfl
    · intro L a w h hd
      exact h.val rfl rfl (run_cut w (h.ran 28 _ 51 rfl rfl (hd ⟨28, .data⟩ (by simp) rfl)) (h.ran 29 _ 52 rfl rfl (hd ⟨29, .data⟩ (by simp) rfl)) (by omega) (by omega)) rfl
    · intro L a w h hd
      exact h.mem rfl rfl (run_pair w (h.ran 27 _ 50 rfl rfl (hd ⟨27, .data⟩ (by simp) rfl)) (h.ran 30 _ 53 rfl rfl (hd ⟨30, .data⟩ (by simp) rfl))) (fun k v hk => (S8_below k v (by exact (Below.refl _ _).alloc (Nat.le_refl _) _) h.world.size hk)) (h.world.alloc h.world.size _) ⟨_, rfl, by simp, RP.two rfl (PB.out.below h.world) (PD.out.below h.world) h.world.size⟩
    · intro L a w h hd
      obtain ⟨p, hp, hlt, hrp⟩ := h.ran 31 _ 54 rfl rfl (hd ⟨31, .data⟩ (by simp) rfl)
      refine h.call rfl rfl (run_call1 w hp) ((crcSum_any p 0 2 w1.heap.size [qB, qD] w hrp (by simp)).mono ?_)
      rintro e w' ⟨rfl, rfl⟩
      exact ⟨_, rfl, fun _ _ h => h, h.world, by rw [S4.out]; rfl⟩
    · intro L a w h hd
      exact h.val rfl rfl (run_xor w (h.ran 24 _ 47 rfl rfl (hd ⟨24, .data⟩ (by simp) rfl)) (h.ran 32 _ 55 rfl rfl (hd ⟨32, .data⟩ (by simp) rfl)) X2) rfl
    · intro L a w h hd
      exact h.val rfl rfl (run_eq w (h.ran 16 _ 39 rfl rfl (hd ⟨16, .data⟩ (by simp) rfl)) (h.ran 33 _ 56 rfl rfl (hd ⟨33, .data⟩ (by simp) rfl))) rfl
    · intro L a w h hd
      exact h.val rfl rfl (run_assign w (h.ran 34 _ 57 rfl rfl (hd ⟨34, .data⟩ (by simp) rfl))) rfl
  · intro a w hdf hsz hw hother hall
    refine hK _ _ ?_
    refine wp_ret ?_
    have h8 : a.tmps.getD 8 undef = .bool true := hall 35 _ 8 rfl rfl
    exact bodyPost_ret (v := .bool true) ((results_tmp (t := 8) rfl _ _ _).trans (by rw [h8])) hdf ⟨rfl, HX1.out.trans (hw.mono HX1.out.size)⟩

theorem crcBehind_walk (a : Value) (l1 : List Nat) (b : Value) (l2 : List Nat) (c : Value) (l3 : List Nat) (d : Value) (l4 : List Nat) (w : World) (h1 : RB w w.heap.size a l1) (b1 : l1.length ≤ 140737488351232)
    (h2 : RB w w.heap.size b l2) (b2 : l2.length ≤ 140737488351232) (h3 : RB w w.heap.size c l3) (b3 : l3.length ≤ 140737488351232) (h4 : RB w w.heap.size d l4) (b4 : l4.length ≤ 140737488351232) :
    Calls Try.prog 4 #[a, b, c, d] w fun e w' => e = .returned (.bool true) ∧ Below w.heap.size w w' := crcBehind_mid a b c d l1 l2 l3 l4 w h1 h2 h3 h4
end Go.Proofs.Ytbmjiheclagfiaa
