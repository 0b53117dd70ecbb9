/-
  The walks of little's Get and Put, over a block of bytes known whole.
-/
import Derived.Test.YtdghanhpeekbhaaR1
import Derived.Test.YtdghanhpeekbhaaE10
namespace Go.Proofs.Ytdghanhpeekbhaa
open Go.RowKit Go.Maps
set_option linter.unusedVariables false

/-- A number's value, the lowest byte first. -/
def leV : List Nat → Nat
  | [] => 0
  | x :: r => x + 256 * leV r
theorem leV_lt : ∀ l : List Nat, (∀ x ∈ l, x < 256) → leV l < 256 ^ l.length
  | [], _ => by simp [leV]
  | x :: r, h => by
    have h1 := leV_lt r (fun y hy => h y (List.mem_cons_of_mem _ hy))
    have h2 := h x (List.mem_cons_self ..)
    rw [List.length_cons, Nat.pow_succ]
    simp only [leV]
    omega
theorem leV_snoc (x : Nat) : ∀ l : List Nat, leV (l ++ [x]) = leV l + x * 256 ^ l.length
  | [] => by simp [leV]
  | y :: r => by
    have h1 := leV_snoc x r
    rw [List.cons_append]
    simp only [leV, List.length_cons]
    rw [h1, Nat.pow_succ, Nat.mul_add, ← Nat.mul_assoc, Nat.add_assoc]
    congr 2
    rw [Nat.mul_comm 256 x, Nat.mul_assoc, Nat.mul_comm 256]
theorem pow256_le (k : Nat) (h : k ≤ 7) : 256 ^ k ≤ 72057594037927936 := Nat.le_trans (Nat.pow_le_pow_right (by omega) h) (by decide)
theorem or8 (u x k : Nat) (hk : k ≤ 7) (hx : x < 256) (hu : u < 256 ^ k) : bits BinOp.or IntKind.u64 (u : Int) (IntKind.u64.wrap ((x : Int) * 2 ^ (8 * k))) = ((u + x * 256 ^ k : Nat) : Int) := by
  have hp : (2 : Nat) ^ (8 * k) = 256 ^ k := by rw [Nat.pow_mul]
  have hl := pow256_le k hk
  have e : ((x : Int) * 2 ^ (8 * k)) = ((x * 256 ^ k : Nat) : Int) := by rw [← hp]; simp
  rw [e]
  have hm : (x * 256 ^ k) % 2 ^ (8 * k) = 0 := by rw [hp]; exact Nat.mul_mod_left _ _
  have h1 : x * 256 ^ k < 18446744073709551616 := by
    have := Nat.mul_le_mul (show x ≤ 255 by omega) hl
    omega
  generalize x * 256 ^ k = y at *
  rw [IntKind.wrap_u64, show ((y : Nat) : Int) % 18446744073709551616 = (y : Int) by omega]
  refine (u64_or_nat u y (by omega) (by omega)).trans ?_
  rw [Nat.or_comm, nat_join (8 * k) y u hm (by rw [hp]; exact hu), Nat.add_comm]
theorem leV_take {l : List Nat} (hl : ∀ x ∈ l, x < 256) (k : Nat) (hk : k < l.length) : leV (l.take k) < 256 ^ k ∧ leV (l.take (k + 1)) = leV (l.take k) + l[k] * 256 ^ k := by
  have h1 : (l.take k).length = k := by rw [List.length_take]; omega
  have h2 := leV_lt (l.take k) (fun x hx => hl x (List.mem_of_mem_take hx))
  rw [h1] at h2
  refine ⟨h2, ?_⟩
  rw [List.take_succ_eq_append_getElem hk, leV_snoc, h1]

set_option maxHeartbeats 400000 in
theorem leGet_any (w : World) (B : Nat) (v : Value) (l : List Nat) (hv : RB w B v l) (hl : l.length ≤ 8) :
    Calls Try.prog 27 #[v] w fun e w' => e = .returned (.int .u64 (leV l : Nat)) ∧ w = w' := by
  obtain ⟨A, c, rfl, ha1, ha2, ha3, HA⟩ := hv.open_
  have HL := Lib.hid hv.1
  clear hv
  go_enter Try.func27, Try.ntmps27
  go_wp2
  go_loop [3, 8] (fun n i => ∃ k : Nat, k ≤ l.length ∧ i = .int .i64 k ∧ n = .int .u64 (leV (l.take k) : Nat)) (fun _ i => l.length - (intOf i).toNat)
  case atStart => exact ⟨0, Nat.zero_le _, rfl, rfl⟩
  case round =>
    obtain ⟨k, hk, rfl, rfl⟩ := hrel
    by_cases hlt : k < l.length
    · obtain ⟨b1, o1, rfl, hb, hx, hx2⟩ := HA.out k hlt
      obtain ⟨h1, h2⟩ := leV_take HL.out k hlt
      have HS := Lib.hid h2
      obtain ⟨u, hu⟩ : ∃ u, u = leV (l.take k) := ⟨_, rfl⟩
      obtain ⟨x, hx0⟩ : ∃ x, x = l[k] := ⟨_, rfl⟩
      rw [← hx0] at hx hx2
      rw [← hu] at h1
      have HU := Lib.hid hu
      have HX := Lib.hid hx0
      have H1 := Lib.hid (or8 u x k (by omega) hx2 h1)
      rw [← hu]
      clear h1 h2 hu hx0
      go_wp2
      go_round
      case rel => exact ⟨k + 1, by omega, by go_num, by rw [HS.out, ← HU.out, ← HX.out]; first | exact congrArg _ H1.out | (rw [H1.out])⟩
      case measure => simp [intOf]; omega
    · obtain rfl : k = l.length := by omega
      rw [List.take_length]
      go_wp2
      go_ret
      exact ⟨rfl, rfl⟩

/-- A block that is just the bytes L. -/
structure BB (w : World) (g : Nat) (t : TypeId) (L : List Nat) : Prop where
  blk : Blk w g t (L.map bcell).toArray
  lt : ∀ x ∈ L, x < 256
  len : L.length ≤ 1000000
/-- L with d laid from off on. -/
def putAt (L : List Nat) (off : Nat) (d : List Nat) : List Nat := L.take off ++ d ++ L.drop (off + d.length)
theorem putAt_len {L d : List Nat} {off : Nat} (h : off + d.length ≤ L.length) : (putAt L off d).length = L.length := by
  unfold putAt; simp; omega
theorem putAt_nil (L : List Nat) (off : Nat) : putAt L off [] = L := by unfold putAt; simp
theorem putAt_mem {L d : List Nat} {off : Nat} (hL : ∀ x ∈ L, x < 256) (hd : ∀ x ∈ d, x < 256) : ∀ x ∈ putAt L off d, x < 256 := by
  intro x hx
  unfold putAt at hx
  rcases List.mem_append.1 hx with hx | hx
  · rcases List.mem_append.1 hx with hx | hx
    · exact hL x (List.mem_of_mem_take hx)
    · exact hd x hx
  · exact hL x (List.mem_of_mem_drop hx)
theorem putAt_step {L d : List Nat} {off y : Nat} (h : off + d.length < L.length) : (putAt L off d).set (off + d.length) y = putAt L off (d ++ [y]) := by
  unfold putAt
  have h1 : (L.take off ++ d).length = off + d.length := by rw [List.length_append, List.length_take]; omega
  rw [List.set_append_right _ _ (by omega), h1, Nat.sub_self]
  have h2 : L.drop (off + d.length) = L[off + d.length] :: L.drop (off + d.length + 1) := List.drop_eq_getElem_cons h
  rw [h2, List.set_cons_zero, List.length_append, List.length_singleton]
  simp [Nat.add_assoc]
section
variable {w w' : World} {g : Nat} {t : TypeId} {L : List Nat}
theorem BB.cell (h : BB w g t L) {i : Nat} (hi : i < L.length) : w.cell? ⟨g, i, none⟩ = some (.int .u8 (L[i] : Nat)) := by
  rw [h.blk.cell]; simp [hi, bcell]
theorem BB.set_ (h : BB w g t L) {i y : Nat} (hi : i < L.length) (hy : y < 256) : BB (w.setCell ⟨g, i, none⟩ (.int .u8 (y : Nat))) g t (L.set i y) := by
  refine ⟨?_, ?_, by rw [List.length_set]; exact h.len⟩
  · have h1 := h.blk.set_ i (.int .u8 (y : Nat))
    have e : ((L.map bcell).toArray.setIfInBounds i (.int .u8 (y : Nat))) = ((L.set i y).map bcell).toArray := by
      rw [List.setIfInBounds_toArray, List.map_set]; rfl
    rw [e] at h1
    exact h1
  · intro x hx
    rcases List.mem_or_eq_of_mem_set hx with hx | hx
    · exact h.lt x hx
    · omega
theorem BB.mod {S : Nat → Prop} (h : BB w g t L) (hm : Mod S w w') (hn : ¬ S g) : BB w' g t L := ⟨h.blk.mod hm hn, h.lt, h.len⟩
theorem BB.below {B : Nat} (h : BB w g t L) (hb : Below B w w') (hg : g < B) : BB w' g t L := ⟨h.blk.below hb hg, h.lt, h.len⟩
/-- A part of it as a slice. -/
theorem BB.rb (h : BB w g t L) {lo m c : Nat} (hlo : lo + m ≤ L.length) (hc : m ≤ c) (hc2 : c ≤ 9223372036854775807) {B : Nat} (hB : g < B) : RB w B (.slice (some ⟨g, lo, none⟩) m c) ((L.drop lo).take m) := by
  have hl : ((L.drop lo).take m).length = m := by rw [List.length_take, List.length_drop]; omega
  have := h.len
  refine ⟨fun x hx => h.lt x (List.mem_of_mem_drop (List.mem_of_mem_take hx)), by omega, some ⟨g, lo, none⟩, c, by rw [hl], by omega, hc2, .inr ⟨g, lo, rfl, hB, fun j x hx => ?_⟩⟩
  rw [List.getElem?_take] at hx
  split at hx
  · rw [List.getElem?_drop] at hx
    rw [h.blk.cell]
    simp [hx, bcell]
  · cases hx
end
theorem div256 (n k : Nat) : ((n : Int) / 2 ^ (8 * k)) % 256 = ((n / 256 ^ k % 256 : Nat) : Int) := by
  have hp : (2 : Nat) ^ (8 * k) = 256 ^ k := by rw [Nat.pow_mul]
  rw [← hp]; simp
theorem digits_len (s k : Nat) : (digits s k).length = k := by simp [digits]
theorem digits_lt (s k : Nat) : ∀ x ∈ digits s k, x < 256 := by
  intro x hx
  simp [digits] at hx
  obtain ⟨i, _, rfl⟩ := hx
  omega

set_option maxHeartbeats 1000000 in
theorem lePut_any (w : World) (g off m c n : Nat) (t : TypeId) (L : List Nat) (h : BB w g t L) (hm : off + m ≤ L.length) (hc : m ≤ c) (hc2 : c ≤ 9223372036854775807) (h8 : m ≤ 8) (hn : n < 18446744073709551616) :
    Calls Try.prog 37 #[.slice (some ⟨g, off, none⟩) m c, .int .u64 (n : Int)] w fun e w' => e = .returned (.tuple #[]) ∧ BB w' g t (putAt L off (digits n m)) ∧ Mod (fun k => k = g) w w' ∧ w'.heap.size = w.heap.size := by
  have HB := Lib.hid h
  clear h
  go_enter Try.func37, Try.ntmps37
  go_wp2
  go_loopw [7] (fun i wr => ∃ k : Nat, k ≤ m ∧ i = .int .i64 k ∧ Hid (BB wr g t (putAt L off (digits n k))) ∧ Hid (Mod (fun k => k = g) w wr) ∧ wr.heap.size = w.heap.size) (fun i wr => m - (intOf i).toNat)
  case atStart => exact ⟨0, Nat.zero_le _, rfl, by rw [show digits n 0 = [] from rfl, putAt_nil]; exact HB, Mod.refl _ _, rfl⟩
  case round =>
    obtain ⟨k, hk, rfl, HK, HM, hz⟩ := hrel
    by_cases hlt : k < m
    · have hl1 : (putAt L off (digits n k)).length = L.length := putAt_len (by rw [digits_len]; omega)
      have hcl := HK.out.cell (i := off + k) (by omega)
      have hfz := HK.out.blk.frozen (off + k)
      have hd := div256 n k
      have HD := Lib.hid hd
      clear hd
      go_wp2
      go_roundw
      case rel =>
        refine ⟨k + 1, by omega, by go_num, ?_, ?_, ?_⟩
        · have h1 := HK.out.set_ (i := off + k) (y := n / 256 ^ k % 256) (by omega) (by omega)
          have h2 := putAt_step (L := L) (d := digits n k) (off := off) (y := n / 256 ^ k % 256) (by rw [digits_len]; omega)
          rw [digits_len] at h2
          rw [h2, ← digits_succ] at h1
          rw [← HD.out] at h1
          exact h1
        · exact HM.out.setCell (p := ⟨g, off + k, none⟩) (fun _ => rfl) _
        · simpa using hz
      case measure => simp [intOf]; omega
    · obtain rfl : k = m := by omega
      go_wp2
      go_end0
      exact ⟨by first | rfl | trivial, HK.out, HM.out, hz⟩
end Go.Proofs.Ytdghanhpeekbhaa
