/-
  The walks of crc.moveOn and crc.Sum.
-/
import Derived.Test.YtdghanhpeekbhaaRows
import Derived.Test.YtdghanhpeekbhaaBase
import Derived.WalkSpells
import Derived.WalkLawsBesides
import Derived.Lib.Hide
namespace Go.Proofs.Ytdghanhpeekbhaa
open Go.RowKit
set_option linter.unusedVariables false

set_option maxHeartbeats 400000 in
theorem moveOn_any (n : Nat) (w : World) (hn : n < 4294967296) :
    Calls Try.prog 63 #[.int .u32 (n : Int)] w fun e w' => e = .returned (.int .u32 (crcSteps 8 n : Nat)) ∧ w = w' := by
  go_enter Try.func63, Try.ntmps63
  go_wp2
  go_loop [0, 3] (fun t i => ∃ k : Nat, k ≤ 8 ∧ i = .int .i64 k ∧ t = .int .u32 (crcSteps k n : Nat)) (fun _ i => 8 - (intOf i).toNat)
  case atStart => exact ⟨0, Nat.zero_le _, rfl, rfl⟩
  case round =>
    obtain ⟨k, hk, rfl, rfl⟩ := hrel
    have hl := crcSteps_lt k n hn
    by_cases hlt : k < 8
    · go_wp2
      go_round
      case rel => exact ⟨k + 1, by omega, by go_num, by rw [crcSteps, crcStep_bits _ hl]⟩
      case measure => simp [intOf]; omega
    · obtain rfl : k = 8 := by omega
      go_wp2
      go_ret
      exact ⟨rfl, rfl⟩

theorem moveOn_xor (r x : Nat) (w : World) (hr : r < 4294967296) (hx : x < 256) :
    Calls Try.prog 63 #[.int .u32 (bits BinOp.xor IntKind.u32 (r : Int) (x : Int))] w fun e w' => e = .returned (.int .u32 (crcByte r x : Nat)) ∧ w = w' := by
  rw [u32_xor_nat r x hr (by omega)]
  exact moveOn_any _ w (xor32_lt _ _ hr (by omega))

/-- Parts: a row of slices' headers at block p from off on, each reading as its bytes. -/
def RP (w : World) (B p off : Nat) (ps : List (List Nat)) : Prop := ∀ i (h : i < ps.length), ∃ v, w.cell? ⟨p, off + i, none⟩ = some v ∧ RB w B v ps[i]

set_option maxHeartbeats 1000000 in
theorem crcSum_any (p off c B : Nat) (ps : List (List Nat)) (w : World) (hp : RP w B p off ps) (hn : ps.length ≤ 9223372036854775807) :
    Calls Try.prog 28 #[.slice (some ⟨p, off, none⟩) ps.length c] w fun e w' => e = .returned (.int .u32 (crcSum ps.flatten : Nat)) ∧ w = w' := by
  have hall : ∀ i (h : i < ps.length), ∀ x ∈ ps[i], x < 256 := fun i h => by obtain ⟨v, _, hv⟩ := hp i h; exact hv.1
  have hreg : ∀ k ≤ ps.length, crcReg 4294967295 (ps.take k).flatten < 4294967296 := by
    intro k hk
    refine crcReg_lt _ _ (by omega) ?_
    intro x hx
    rw [List.mem_flatten] at hx
    obtain ⟨l, hl, hx⟩ := hx
    obtain ⟨i, hi, rfl⟩ := List.getElem_of_mem (List.mem_of_mem_take hl)
    exact hall i hi x hx
  have HR := Lib.hid hreg
  have HA := Lib.hid hall
  have HP := Lib.hid hp
  clear hreg hall hp
  go_enter Try.func28, Try.ntmps28
  go_wp2
  go_loop [3, 10] (fun r i => ∃ k : Nat, k ≤ ps.length ∧ i = .int .i64 k ∧ r = .int .u32 (crcReg 4294967295 (ps.take k).flatten : Nat)) (fun _ i => ps.length - (intOf i).toNat)
  case atStart => exact ⟨0, Nat.zero_le _, rfl, rfl⟩
  case round =>
    obtain ⟨k, hk, rfl, rfl⟩ := hrel
    by_cases hlt : k < ps.length
    · obtain ⟨v, hv, hb⟩ := HP.out k hlt
      have hr := HR.out k hk
      obtain ⟨r, hr0⟩ : ∃ r, r = crcReg 4294967295 (ps.take k).flatten := ⟨_, rfl⟩
      rw [← hr0] at hr ⊢
      have HR0 := Lib.hid hr0
      clear hr0
      obtain ⟨l, hl0⟩ : ∃ l, l = ps[k] := ⟨_, rfl⟩
      rw [← hl0] at hb
      have HL0 := Lib.hid hl0
      clear hl0
      have hlen := hb.len
      obtain ⟨h1, h2, A, c', rfl, h3, h4, h5⟩ := hb
      have HC : Hid (∀ j, (h : j < l.length) → ∃ b off, A = some ⟨b, off, none⟩ ∧ w.cell? ⟨b, off + j, none⟩ = some (.int .u8 (l[j] : Nat)) ∧ l[j] < 256) := by
        intro j h
        rcases h5 with rfl | ⟨b, off, rfl, _, hc⟩
        · simp at h
        · exact ⟨b, off, rfl, hc j _ (List.getElem?_eq_getElem h), h1 _ (List.getElem_mem h)⟩
      have HG : Hid (∀ j ≤ l.length, crcReg r (l.take j) < 4294967296) := fun j hj => crcReg_lt _ _ hr (fun x hx => h1 x (List.mem_of_mem_take hx))
      clear h5 h1
      go_wp2
      go_loop [3, 16] (fun r' i => ∃ j : Nat, j ≤ l.length ∧ i = .int .i64 j ∧ r' = .int .u32 (crcReg r (l.take j) : Nat)) (fun _ i => l.length - (intOf i).toNat)
      case atStart => exact ⟨0, Nat.zero_le _, rfl, rfl⟩
      case round =>
        obtain ⟨j, hj, rfl, rfl⟩ := hrel
        by_cases hlt' : j < l.length
        · obtain ⟨b, off, hA, hcell, hx⟩ := HC.out j hlt'
          subst hA
          have hg := HG.out j (by omega)
          have hs : crcReg r (l.take (j + 1)) = crcByte (crcReg r (l.take j)) l[j] := by
            rw [List.take_succ_eq_append_getElem hlt', crcReg_append]; rfl
          have HS := Lib.hid hs
          obtain ⟨x, hx0⟩ : ∃ x, x = l[j] := ⟨_, rfl⟩
          rw [← hx0] at hcell hx HS
          clear hs hx0
          obtain ⟨y, hy0⟩ : ∃ y, y = crcReg r (l.take j) := ⟨_, rfl⟩
          rw [← hy0] at hg HS ⊢
          clear hy0
          go_wp2_with (go_at_call 63; refine (moveOn_xor _ _ _ (by omega) (by omega)).mono ?_; rintro e w' ⟨rfl, rfl⟩)
          go_round
          case rel => exact ⟨j + 1, by omega, by go_num, by rw [HS.out]⟩
          case measure => simp [intOf]; omega
        · obtain rfl : j = l.length := by omega
          rw [List.take_length]
          go_wp2
          go_round
          case rel => exact ⟨k + 1, by omega, by go_num, by rw [List.take_succ_eq_append_getElem hlt, List.flatten_append, crcReg_append, ← HR0.out, List.flatten_cons, List.flatten_nil, List.append_nil, ← HL0.out]⟩
          case measure => simp [intOf]; omega
    · obtain rfl : k = ps.length := by omega
      rw [List.take_length]
      have hg := HR.out ps.length (Nat.le_refl _)
      rw [List.take_length] at hg
      go_wp2
      go_ret
      refine ⟨?_, rfl⟩
      unfold crcSum
      have := u32_xor_nat _ 4294967295 hg (by omega)
      rw [← this]; rfl
end Go.Proofs.Ytdghanhpeekbhaa
