/-
  The walks of crc.lowestFirst and crc.Seal.
-/
import Derived.Test.YtknhlbbgjfcjaaaC1
import Derived.Deep.RegionLaw
import Derived.Deep.RegionHeld3
import Derived.BigQuiet
import Derived.Deep.QuietTactic
namespace Go.Proofs.Ytknhlbbgjfcjaaa
open Go.RowKit
set_option linter.unusedVariables false

set_option maxHeartbeats 400000 in
theorem lowestFirst_any (n : Nat) (w : World) (hn : n < 4294967296) :
    Calls Try.prog 161 #[.int .u32 (n : Int)] w fun e w' => e = .returned (.agg #[.int .u8 ((n % 256 : Nat) : Int), .int .u8 ((n / 256 % 256 : Nat) : Int), .int .u8 ((n / 65536 % 256 : Nat) : Int), .int .u8 ((n / 16777216 : Nat) : Int)]) ∧ ∃ o, w' = w.alloc o := by
  go_enter Try.func161, Try.ntmps161
  go_wp2
  refine bodyPost_ret (v := .agg #[.int .u8 ((n % 256 : Nat) : Int), .int .u8 ((n / 256 % 256 : Nat) : Int), .int .u8 ((n / 65536 % 256 : Nat) : Int), .int .u8 ((n / 16777216 : Nat) : Int)]) (by simp [results, Try.results161, go_sem]) rfl ?_
  exact ⟨rfl, _, rfl⟩


def sumBytes (n : Nat) : List Nat := [n % 256, n / 256 % 256, n / 65536 % 256, n / 16777216]
theorem sumBytes_lt (n : Nat) (hn : n < 4294967296) : ∀ x ∈ sumBytes n, x < 256 := by
  intro x hx
  simp [sumBytes] at hx
  rcases hx with rfl | rfl | rfl | rfl <;> omega

theorem run_mk (n : Nat) (hn : n ≤ 140737488355328) (W : World) : (Instr.makeSlice 22 (.int .i64 0) (.int .i64 (n : Int))).run Try.prog W =
    .ok (.slice (some ⟨W.heap.size, 0, none⟩) 0 n) (W.alloc (.cells (madeCells #[.int .u8 0] n) 5)) := by
  obtain ⟨i0, hi, hz0, hz1, hz2⟩ := info_parts info5
  have := run_make (P := Try.prog) W 22 5 i0 _ Try.underlying22 hi hz0 .i64 .i64 0 n (by omega) (by omega) (by rw [hz2]; omega) (by omega)
  simpa [hz1, Value.cells] using this

set_option maxHeartbeats 400000 in
theorem seal_any (v : Value) (l : List Nat) (w : World) (hv : RB w w.heap.size v l) (hl : l.length ≤ 140737488355000) :
    Calls Try.prog 153 #[v] w fun e w' => ∃ v', e = .returned v' ∧ OB w' w.heap.size v' (sumBytes (crcSum l) ++ l) ∧ Below w.heap.size w w' := by
  have hv0 := hv
  have hs := crcSum_lt l hv.1
  obtain ⟨h1, h2, A, c, rfl, h3, h4, h5⟩ := hv
  have hp : RP (w.alloc (.cells #[.slice A l.length c] 22)) w.heap.size w.heap.size 0 [l] := by
    intro i hi
    have : i = 0 := by simp at hi; omega
    subst this
    exact ⟨.slice A l.length c, by simp, hv0.alloc (Nat.le_refl _) _⟩
  have HP := Lib.hid hp
  have HV := Lib.hid hv0
  have H5 := Lib.hid h5
  have H1 := Lib.hid h1
  clear hp hv0 h5 h1
  go_enter Try.func153, Try.ntmps153
  go_wp2_with (first
    | (go_at_call 83; refine (crcSum_any w.heap.size 0 1 w.heap.size [l] _ HP.out (by simp)).mono ?_; rintro e w' ⟨rfl, rfl⟩; simp only [List.flatten_cons, List.flatten_nil, List.append_nil])
    | (go_at_call 161; refine (lowestFirst_any _ _ hs).mono ?_; rintro e w' ⟨rfl, o, rfl⟩))
  have hmk : ∀ W, (Instr.makeSlice 22 (.int .i64 0) (.int .i64 (4 + (l.length : Int)))).run Try.prog W = .ok (.slice (some ⟨W.heap.size, 0, none⟩) 0 (4 + l.length)) (W.alloc (.cells (madeCells #[.int .u8 0] (4 + l.length)) 5)) := by
    intro W
    have := run_mk (4 + l.length) (by omega) W
    rw [← this]
    congr 3
  generalize hW : ((w.alloc (Obj.cells #[Value.slice A l.length c] 22)).alloc o).alloc (Obj.cells #[Value.int IntKind.u8 ((crcSum l : Int) % 256), Value.int IntKind.u8 ((crcSum l : Int) / 256 % 256), Value.int IntKind.u8 ((crcSum l : Int) / 65536 % 256), Value.int IntKind.u8 ((crcSum l : Int) / 16777216)] 203) = W
  have hV : RB W w.heap.size (.slice A l.length c) l := by rw [← hW]; exact ((HV.out.alloc (Nat.le_refl _) _).alloc (by simp) _).alloc (by simp; omega) _
  have hB : Below w.heap.size w W := by rw [← hW]; exact (((Below.refl _ _).alloc (Nat.le_refl _) _).alloc (by simp) _).alloc (by simp; omega) _
  have hS : RB W W.heap.size (.slice (some ⟨w.heap.size + 1 + 1, 0, none⟩) 4 4) (sumBytes (crcSum l)) := by
    rw [← hW]
    exact RB.newRow _ _ _ _ _ (sumBytes (crcSum l)) 4 (by simp) (by simp [bcell, sumBytes]) (sumBytes_lt _ hs) (by simp [sumBytes]) (by simp [sumBytes]) (by simp) (by simp)
  have hz : W.heap.size = w.heap.size + 3 := by rw [← hW]; simp
  have HV2 := Lib.hid hV
  have HB := Lib.hid hB
  have HS := Lib.hid hS
  have HZ := Lib.hid hz
  clear HV hV hB hS hz hW hs HP
  have hw4 : IntKind.i64.wrap (4 + (l.length : Int)) = 4 + (l.length : Int) := IntWalk.i64_in _ (by omega)
  have HM : Hid (∀ n, OB (W.alloc (.cells (madeCells #[Value.int IntKind.u8 0] n) 5)) W.heap.size (.slice (some ⟨W.heap.size, 0, none⟩) 0 n) [] ∨ 9223372036854775807 < n) := by
    intro n
    by_cases hn : n ≤ 9223372036854775807
    · exact .inl (OB.made W W.heap.size _ n (Nat.le_refl _) hn (by simp [madeCells]))
    · exact .inr (by omega)
  have HM4 : Hid (OB (W.alloc (.cells (madeCells #[Value.int IntKind.u8 0] (4 + l.length)) 5)) W.heap.size (.slice (some ⟨W.heap.size, 0, none⟩) 0 (4 + l.length)) []) := by
    rcases HM.out (4 + l.length) with h | h
    · exact h
    · omega
  have HS2 : Hid (RB (W.alloc (.cells (madeCells #[Value.int IntKind.u8 0] (4 + l.length)) 5)) W.heap.size (.slice (some ⟨w.heap.size + 1 + 1, 0, none⟩) 4 4) (sumBytes (crcSum l))) := HS.out.alloc (Nat.le_refl _) _
  have HV3 : Hid (RB (W.alloc (.cells (madeCells #[Value.int IntKind.u8 0] (4 + l.length)) 5)) w.heap.size (.slice A l.length c) l) := HV2.out.alloc (by have := HZ.out; omega) _
  have HV4 : Hid (∀ w1, (W.alloc (.cells (madeCells #[Value.int IntKind.u8 0] (4 + l.length)) 5)).drew.grownBy w1 (some W.heap.size) → RB w1 w.heap.size (.slice A l.length c) l ∧ Below w.heap.size w w1 ∧ W.heap.size ≤ w1.heap.size) := by
    intro w1 hg
    have hz := HZ.out
    have hb : Below w.heap.size (W.alloc (.cells (madeCells #[Value.int IntKind.u8 0] (4 + l.length)) 5)).drew w1 := (Below.refl _ _).grown hg (by simp; omega) (by intro k hk; injection hk with hk; omega)
    refine ⟨HV3.out.drew.below hb, ?_, ?_⟩
    · exact (((HB.out.alloc (by omega) _).drew).trans hb)
    · have := hb.size; simp at this; omega
  clear HM
  go_region_law (first
    | (refine step_app rfl (.tmp 11) (.tmp 12) rfl W.heap.size _ [] rfl (by exact HM4.out.drew) W.heap.size _ (sumBytes (crcSum l)) rfl (by exact HS2.out.drew) (by simp) (by simp [sumBytes]) ?_; rintro v1 w1 hown1 hg1 hat1; have HW1 := Lib.hid (HV4.out w1 hg1); have HO1 := Lib.hid hown1; have HA1 := Lib.hid hat1; clear hown1 hg1 hat1)
    | (refine step_app rfl (.tmp 13) (.tmp 14) rfl W.heap.size _ _ rfl (by exact HO1.out) w.heap.size _ l rfl (by exact HW1.out.1) (by exact HW1.out.2.2) (by simp [sumBytes]; omega) ?_; rintro v2 w2 hown2 hg2 hat2; have HO2 := Lib.hid hown2; have HG2 := Lib.hid hg2; clear hown2 hg2 hat2))
  go_wp2
  go_ret
  have hz := HZ.out
  obtain ⟨r1, r2, r3⟩ := HW1.out
  refine ⟨v2, rfl, HO2.out.base (by omega), r2.trans ((Below.refl _ _).grown HG2.out (by omega) (fun k hk => ?_))⟩
  have := (HO1.out.lt k hk).1
  omega
end Go.Proofs.Ytknhlbbgjfcjaaa
