/-
  The walks of crc.moveOn and crc.Sum.
-/
import Derived.Test.YtbagmmncjmbboaaGreatRows
import Derived.WalkSpells
import Derived.WalkLawsBesides
import Derived.Lib.Hide
import Derived.Deep.RegionLaw
import Derived.Deep.RegionHeld3
import Derived.BigQuiet
import Derived.Deep.QuietTactic
import Derived.Handy
import Derived.Laws.Cover3
import Derived.Test.YtbagmmncjmbboaaGreatBase
import Derived.Test.YtbagmmncjmbboaaGreatH3
import Derived.Test.YtbagmmncjmbboaaGreatE10
namespace Go.Proofs.YtbagmmncjmbboaaGreat
open Go.RowKit
set_option linter.unusedVariables false

set_option maxHeartbeats 400000 in
theorem moveOn_any (n : Nat) (w : World) (hn : n < 4294967296) :
    Calls Tryz.prog 98 #[.int .u32 (n : Int)] w fun e w' => e = .returned (.int .u32 (crcSteps 8 n : Nat)) ∧ w = w' := by
  go_enter Tryz.func98, Tryz.ntmps98
  go_wp2
  go_loop [0, 3] (fun t i => ∃ k : Nat, k ≤ 8 ∧ i = .int .i64 k ∧ t = .int .u32 (crcSteps k n : Nat)) (fun _ i => 8 - (intOf i).toNat)
  case atStart => exact ⟨0, Nat.zero_le _, rfl, rfl⟩
  case round =>
    obtain ⟨k, hk, rfl, rfl⟩ := hrel
    have hl := crcSteps_lt k n hn
    by_cases hlt : k < 8
    · go_wp2
      go_round
      case rel => exact ⟨k + 1, by omega, by go_num, by rw [crcSteps, crcStep_bits _ hl]⟩
      case measure => simp [intOf]; omega
    · obtain rfl : k = 8 := by omega
      go_wp2
      go_ret
      exact ⟨rfl, rfl⟩

theorem moveOn_xor (r x : Nat) (w : World) (hr : r < 4294967296) (hx : x < 256) :
    Calls Tryz.prog 98 #[.int .u32 (bits BinOp.xor IntKind.u32 (r : Int) (x : Int))] w fun e w' => e = .returned (.int .u32 (crcByte r x : Nat)) ∧ w = w' := by
  rw [u32_xor_nat r x hr (by omega)]
  exact moveOn_any _ w (xor32_lt _ _ hr (by omega))

/-- Parts: a row of slices' headers at block p from off on, each reading as its bytes. -/
def RP (w : World) (B p off : Nat) (ps : List (List Nat)) : Prop := ∀ i (h : i < ps.length), ∃ v, w.cell? ⟨p, off + i, none⟩ = some v ∧ RB w B v ps[i]

set_option maxHeartbeats 1000000 in
theorem crcSum_any (p off c B : Nat) (ps : List (List Nat)) (w : World) (hp : RP w B p off ps) (hn : ps.length ≤ 9223372036854775807) :
    Calls Tryz.prog 68 #[.slice (some ⟨p, off, none⟩) ps.length c] w fun e w' => e = .returned (.int .u32 (crcSum ps.flatten : Nat)) ∧ w = w' := by
  have hall : ∀ i (h : i < ps.length), ∀ x ∈ ps[i], x < 256 := fun i h => by obtain ⟨v, _, hv⟩ := hp i h; exact hv.1
  have hreg : ∀ k ≤ ps.length, crcReg 4294967295 (ps.take k).flatten < 4294967296 := by
    intro k hk
    refine crcReg_lt _ _ (by omega) ?_
    intro x hx
    rw [List.mem_flatten] at hx
    obtain ⟨l, hl, hx⟩ := hx
    obtain ⟨i, hi, rfl⟩ := List.getElem_of_mem (List.mem_of_mem_take hl)
    exact hall i hi x hx
  have HR := Lib.hid hreg
  have HA := Lib.hid hall
  have HP := Lib.hid hp
  clear hreg hall hp
  go_enter Tryz.func68, Tryz.ntmps68
  go_wp2
  go_loop [3, 10] (fun r i => ∃ k : Nat, k ≤ ps.length ∧ i = .int .i64 k ∧ r = .int .u32 (crcReg 4294967295 (ps.take k).flatten : Nat)) (fun _ i => ps.length - (intOf i).toNat)
  case atStart => exact ⟨0, Nat.zero_le _, rfl, rfl⟩
  case round =>
    obtain ⟨k, hk, rfl, rfl⟩ := hrel
    by_cases hlt : k < ps.length
    · obtain ⟨v, hv, hb⟩ := HP.out k hlt
      have hr := HR.out k hk
      obtain ⟨r, hr0⟩ : ∃ r, r = crcReg 4294967295 (ps.take k).flatten := ⟨_, rfl⟩
      rw [← hr0] at hr ⊢
      have HR0 := Lib.hid hr0
      clear hr0
      obtain ⟨l, hl0⟩ : ∃ l, l = ps[k] := ⟨_, rfl⟩
      rw [← hl0] at hb
      have HL0 := Lib.hid hl0
      clear hl0
      have hlen := hb.len
      obtain ⟨h1, h2, A, c', rfl, h3, h4, h5⟩ := hb
      have HC : Hid (∀ j, (h : j < l.length) → ∃ b off, A = some ⟨b, off, none⟩ ∧ w.cell? ⟨b, off + j, none⟩ = some (.int .u8 (l[j] : Nat)) ∧ l[j] < 256) := by
        intro j h
        rcases h5 with rfl | ⟨b, off, rfl, _, hc⟩
        · simp at h
        · exact ⟨b, off, rfl, hc j _ (List.getElem?_eq_getElem h), h1 _ (List.getElem_mem h)⟩
      have HG : Hid (∀ j ≤ l.length, crcReg r (l.take j) < 4294967296) := fun j hj => crcReg_lt _ _ hr (fun x hx => h1 x (List.mem_of_mem_take hx))
      clear h5 h1
      go_wp2
      go_loop [3, 16] (fun r' i => ∃ j : Nat, j ≤ l.length ∧ i = .int .i64 j ∧ r' = .int .u32 (crcReg r (l.take j) : Nat)) (fun _ i => l.length - (intOf i).toNat)
      case atStart => exact ⟨0, Nat.zero_le _, rfl, rfl⟩
      case round =>
        obtain ⟨j, hj, rfl, rfl⟩ := hrel
        by_cases hlt' : j < l.length
        · obtain ⟨b, off, hA, hcell, hx⟩ := HC.out j hlt'
          subst hA
          have hg := HG.out j (by omega)
          have hs : crcReg r (l.take (j + 1)) = crcByte (crcReg r (l.take j)) l[j] := by
            rw [List.take_succ_eq_append_getElem hlt', crcReg_append]; rfl
          have HS := Lib.hid hs
          obtain ⟨x, hx0⟩ : ∃ x, x = l[j] := ⟨_, rfl⟩
          rw [← hx0] at hcell hx HS
          clear hs hx0
          obtain ⟨y, hy0⟩ : ∃ y, y = crcReg r (l.take j) := ⟨_, rfl⟩
          rw [← hy0] at hg HS ⊢
          clear hy0
          go_wp2_with (go_at_call 98; refine (moveOn_xor _ _ _ (by omega) (by omega)).mono ?_; rintro e w' ⟨rfl, rfl⟩)
          go_round
          case rel => exact ⟨j + 1, by omega, by go_num, by rw [HS.out]⟩
          case measure => simp [intOf]; omega
        · obtain rfl : j = l.length := by omega
          rw [List.take_length]
          go_wp2
          go_round
          case rel => exact ⟨k + 1, by omega, by go_num, by rw [List.take_succ_eq_append_getElem hlt, List.flatten_append, crcReg_append, ← HR0.out, List.flatten_cons, List.flatten_nil, List.append_nil, ← HL0.out]⟩
          case measure => simp [intOf]; omega
    · obtain rfl : k = ps.length := by omega
      rw [List.take_length]
      have hg := HR.out ps.length (Nat.le_refl _)
      rw [List.take_length] at hg
      go_wp2
      go_ret
      refine ⟨?_, rfl⟩
      unfold crcSum
      have := u32_xor_nat _ 4294967295 hg (by omega)
      rw [← this]; rfl
end Go.Proofs.YtbagmmncjmbboaaGreat

/-
  The walks of crc.lowestFirst and crc.Seal.
-/
namespace Go.Proofs.YtbagmmncjmbboaaGreat
open Go.RowKit
set_option linter.unusedVariables false

set_option maxHeartbeats 400000 in
theorem lowestFirst_any (n : Nat) (w : World) (hn : n < 4294967296) :
    Calls Tryz.prog 128 #[.int .u32 (n : Int)] w fun e w' => e = .returned (.agg #[.int .u8 ((n % 256 : Nat) : Int), .int .u8 ((n / 256 % 256 : Nat) : Int), .int .u8 ((n / 65536 % 256 : Nat) : Int), .int .u8 ((n / 16777216 : Nat) : Int)]) ∧ ∃ o, w' = w.alloc o := by
  go_enter Tryz.func128, Tryz.ntmps128
  go_wp2
  refine bodyPost_ret (v := .agg #[.int .u8 ((n % 256 : Nat) : Int), .int .u8 ((n / 256 % 256 : Nat) : Int), .int .u8 ((n / 65536 % 256 : Nat) : Int), .int .u8 ((n / 16777216 : Nat) : Int)]) (by simp [results, Tryz.results128, go_sem]) rfl ?_
  exact ⟨rfl, _, rfl⟩


def sumBytes (n : Nat) : List Nat := [n % 256, n / 256 % 256, n / 65536 % 256, n / 16777216]
theorem sumBytes_lt (n : Nat) (hn : n < 4294967296) : ∀ x ∈ sumBytes n, x < 256 := by
  intro x hx
  simp [sumBytes] at hx
  rcases hx with rfl | rfl | rfl | rfl <;> omega

theorem run_mk (n : Nat) (hn : n ≤ 140737488355328) (W : World) : (Instr.makeSlice 22 (.int .i64 0) (.int .i64 (n : Int))).run Tryz.prog W =
    .ok (.slice (some ⟨W.heap.size, 0, none⟩) 0 n) (W.alloc (.cells (madeCells #[.int .u8 0] n) 5)) := by
  obtain ⟨i0, hi, hz0, hz1, hz2⟩ := info_parts info5
  have := run_make (P := Tryz.prog) W 22 5 i0 _ Tryz.underlying22 hi hz0 .i64 .i64 0 n (by omega) (by omega) (by rw [hz2]; omega) (by omega)
  simpa [hz1, Value.cells] using this

set_option maxHeartbeats 400000 in
theorem seal_any (v : Value) (l : List Nat) (w : World) (hv : RB w w.heap.size v l) (hl : l.length ≤ 140737488355000) :
    Calls Tryz.prog 120 #[v] w fun e w' => ∃ v', e = .returned v' ∧ OB w' w.heap.size v' (sumBytes (crcSum l) ++ l) ∧ Below w.heap.size w w' := by
  have hv0 := hv
  have hs := crcSum_lt l hv.1
  obtain ⟨h1, h2, A, c, rfl, h3, h4, h5⟩ := hv
  have hp : RP (w.alloc (.cells #[.slice A l.length c] 22)) w.heap.size w.heap.size 0 [l] := by
    intro i hi
    have : i = 0 := by simp at hi; omega
    subst this
    exact ⟨.slice A l.length c, by simp, hv0.alloc (Nat.le_refl _) _⟩
  have HP := Lib.hid hp
  have HV := Lib.hid hv0
  have H5 := Lib.hid h5
  have H1 := Lib.hid h1
  clear hp hv0 h5 h1
  go_enter Tryz.func120, Tryz.ntmps120
  go_wp2_with (first
    | (go_at_call 68; refine (crcSum_any w.heap.size 0 1 w.heap.size [l] _ HP.out (by simp)).mono ?_; rintro e w' ⟨rfl, rfl⟩; simp only [List.flatten_cons, List.flatten_nil, List.append_nil])
    | (go_at_call 128; refine (lowestFirst_any _ _ hs).mono ?_; rintro e w' ⟨rfl, o, rfl⟩))
  have hmk : ∀ W, (Instr.makeSlice 22 (.int .i64 0) (.int .i64 (4 + (l.length : Int)))).run Tryz.prog W = .ok (.slice (some ⟨W.heap.size, 0, none⟩) 0 (4 + l.length)) (W.alloc (.cells (madeCells #[.int .u8 0] (4 + l.length)) 5)) := by
    intro W
    have := run_mk (4 + l.length) (by omega) W
    rw [← this]
    congr 3
  generalize hW : ((w.alloc (Obj.cells #[Value.slice A l.length c] 22)).alloc o).alloc (Obj.cells #[Value.int IntKind.u8 ((crcSum l : Int) % 256), Value.int IntKind.u8 ((crcSum l : Int) / 256 % 256), Value.int IntKind.u8 ((crcSum l : Int) / 65536 % 256), Value.int IntKind.u8 ((crcSum l : Int) / 16777216)] 182) = W
  have hV : RB W w.heap.size (.slice A l.length c) l := by rw [← hW]; exact ((HV.out.alloc (Nat.le_refl _) _).alloc (by simp) _).alloc (by simp; omega) _
  have hB : Below w.heap.size w W := by rw [← hW]; exact (((Below.refl _ _).alloc (Nat.le_refl _) _).alloc (by simp) _).alloc (by simp; omega) _
  have hS : RB W W.heap.size (.slice (some ⟨w.heap.size + 1 + 1, 0, none⟩) 4 4) (sumBytes (crcSum l)) := by
    rw [← hW]
    exact RB.newRow _ _ _ _ _ (sumBytes (crcSum l)) 4 (by simp) (by simp [bcell, sumBytes]) (sumBytes_lt _ hs) (by simp [sumBytes]) (by simp [sumBytes]) (by simp) (by simp)
  have hz : W.heap.size = w.heap.size + 3 := by rw [← hW]; simp
  have HV2 := Lib.hid hV
  have HB := Lib.hid hB
  have HS := Lib.hid hS
  have HZ := Lib.hid hz
  clear HV hV hB hS hz hW hs HP
  have hw4 : IntKind.i64.wrap (4 + (l.length : Int)) = 4 + (l.length : Int) := IntWalk.i64_in _ (by omega)
  have HM : Hid (∀ n, OB (W.alloc (.cells (madeCells #[Value.int IntKind.u8 0] n) 5)) W.heap.size (.slice (some ⟨W.heap.size, 0, none⟩) 0 n) [] ∨ 9223372036854775807 < n) := by
    intro n
    by_cases hn : n ≤ 9223372036854775807
    · exact .inl (OB.made W W.heap.size _ n (Nat.le_refl _) hn (by simp [madeCells]))
    · exact .inr (by omega)
  have HM4 : Hid (OB (W.alloc (.cells (madeCells #[Value.int IntKind.u8 0] (4 + l.length)) 5)) W.heap.size (.slice (some ⟨W.heap.size, 0, none⟩) 0 (4 + l.length)) []) := by
    rcases HM.out (4 + l.length) with h | h
    · exact h
    · omega
  have HS2 : Hid (RB (W.alloc (.cells (madeCells #[Value.int IntKind.u8 0] (4 + l.length)) 5)) W.heap.size (.slice (some ⟨w.heap.size + 1 + 1, 0, none⟩) 4 4) (sumBytes (crcSum l))) := HS.out.alloc (Nat.le_refl _) _
  have HV3 : Hid (RB (W.alloc (.cells (madeCells #[Value.int IntKind.u8 0] (4 + l.length)) 5)) w.heap.size (.slice A l.length c) l) := HV2.out.alloc (by have := HZ.out; omega) _
  have HV4 : Hid (∀ w1, (W.alloc (.cells (madeCells #[Value.int IntKind.u8 0] (4 + l.length)) 5)).drew.grownBy w1 (some W.heap.size) → RB w1 w.heap.size (.slice A l.length c) l ∧ Below w.heap.size w w1 ∧ W.heap.size ≤ w1.heap.size) := by
    intro w1 hg
    have hz := HZ.out
    have hb : Below w.heap.size (W.alloc (.cells (madeCells #[Value.int IntKind.u8 0] (4 + l.length)) 5)).drew w1 := (Below.refl _ _).grown hg (by simp; omega) (by intro k hk; injection hk with hk; omega)
    refine ⟨HV3.out.drew.below hb, ?_, ?_⟩
    · exact (((HB.out.alloc (by omega) _).drew).trans hb)
    · have := hb.size; simp at this; omega
  clear HM
  go_region_law (first
    | (refine step_app rfl (.tmp 11) (.tmp 12) rfl W.heap.size _ [] rfl (by exact HM4.out.drew) W.heap.size _ (sumBytes (crcSum l)) rfl (by exact HS2.out.drew) (by simp) (by simp [sumBytes]) ?_; rintro v1 w1 hown1 hg1 hat1; have HW1 := Lib.hid (HV4.out w1 hg1); have HO1 := Lib.hid hown1; have HA1 := Lib.hid hat1; clear hown1 hg1 hat1)
    | (refine step_app rfl (.tmp 13) (.tmp 14) rfl W.heap.size _ _ rfl (by exact HO1.out) w.heap.size _ l rfl (by exact HW1.out.1) (by exact HW1.out.2.2) (by simp [sumBytes]; omega) ?_; rintro v2 w2 hown2 hg2 hat2; have HO2 := Lib.hid hown2; have HG2 := Lib.hid hg2; clear hown2 hg2 hat2))
  go_wp2
  go_ret
  have hz := HZ.out
  obtain ⟨r1, r2, r3⟩ := HW1.out
  refine ⟨v2, rfl, HO2.out.base (by omega), r2.trans ((Below.refl _ _).grown HG2.out (by omega) (fun k hk => ?_))⟩
  have := (HO1.out.lt k hk).1
  omega
end Go.Proofs.YtbagmmncjmbboaaGreat

/-
  The walk of crc.Open.
-/
namespace Go.Proofs.YtbagmmncjmbboaaGreat
open Go.RowKit
set_option linter.unusedVariables false

def openOk (l : List Nat) : Bool := decide (4 ≤ l.length ∧ l.take 4 = sumBytes (crcSum (l.drop 4)))
def openL (l : List Nat) : List Nat := if openOk l then l.drop 4 else []

theorem RB.len_eq {w : World} {B : Nat} {A : Option Addr} {n c : Nat} {l : List Nat} (h : RB w B (.slice A n c) l) : n = l.length := by
  obtain ⟨_, _, A', c', hv, _⟩ := h
  injection hv

set_option maxHeartbeats 400000 in
theorem open_short (v : Value) (l : List Nat) (w : World) (hv : RB w w.heap.size v l) (hl : l.length < 4) :
    Calls Tryz.prog 121 #[v] w fun e w' => e = .returned (.tuple #[.slice none 0 0, .bool false]) ∧ w = w' := by
  obtain ⟨h1, h2, A, c, rfl, h3, h4, h5⟩ := hv
  clear h1 h5
  go_enter Tryz.func121, Tryz.ntmps121
  go_wp2
  go_ret2
  exact ⟨rfl, rfl⟩

theorem RP.one {w W : World} {u : Value} {t : List Nat} {g B : Nat} (hg : g = W.heap.size) (hw : Below B w W) (hu : RB w B u t) (hB : B ≤ W.heap.size) : RP (W.alloc (.cells #[u] 22)) B g 0 [t] := by
  intro i hi
  have : i = 0 := by simp at hi; omega
  subst this
  subst hg
  exact ⟨u, by simp, (hu.below hw).alloc hB _⟩
theorem RP.drew {w : World} {B p off : Nat} {ps : List (List Nat)} (h : RP w B p off ps) : RP w.drew B p off ps := h

theorem run_eq4 (W : World) (d : Nat) (a0 a1 a2 a3 b0 b1 b2 b3 : Int) : (Op.equalIn (d + 2) 182 (.agg #[.int .u8 a0, .int .u8 a1, .int .u8 a2, .int .u8 a3]) (.agg #[.int .u8 b0, .int .u8 b1, .int .u8 b2, .int .u8 b3])).run Tryz.prog W =
    .ok (a0 == b0 && (a1 == b1 && (a2 == b2 && a3 == b3))) W := by
  have h0 := fun (x y : Int) (w : World) => run_equalIn_int (P := Tryz.prog) w d 5 .u8 .u8 x y Tryz.underlying5
  rw [Op.equalIn]
  simp only [run_underlying Tryz.underlying182, Sem.run_bind, Result.andThen_ok]
  simp [go_sem, h0, Std.Legacy.Range.forIn_eq_forIn_range', List.range']
  by_cases e0 : a0 = b0 <;> by_cases e1 : a1 = b1 <;> by_cases e2 : a2 = b2 <;> by_cases e3 : a3 = b3 <;> simp [e0, e1, e2, e3]

theorem openOk_eq (x0 x1 x2 x3 : Nat) (t : List Nat) : openOk (x0 :: x1 :: x2 :: x3 :: t) =
    ((x0 : Int) == (crcSum t : Int) % 256 && ((x1 : Int) == (crcSum t : Int) / 256 % 256 && ((x2 : Int) == (crcSum t : Int) / 65536 % 256 && (x3 : Int) == (crcSum t : Int) / 16777216))) := by
  unfold openOk
  rw [Bool.eq_iff_iff]
  simp [sumBytes]
  omega

theorem run_eqOk (W : World) (x0 x1 x2 x3 : Nat) (t : List Nat) : (Op.equalIn 10000 182 (.agg #[.int .u8 (x0 : Int), .int .u8 (x1 : Int), .int .u8 (x2 : Int), .int .u8 (x3 : Int)])
    (.agg #[.int .u8 ((crcSum t : Int) % 256), .int .u8 ((crcSum t : Int) / 256 % 256), .int .u8 ((crcSum t : Int) / 65536 % 256), .int .u8 ((crcSum t : Int) / 16777216)])).run Tryz.prog W = .ok (openOk (x0 :: x1 :: x2 :: x3 :: t)) W := by
  rw [openOk_eq]; exact run_eq4 W 9998 _ _ _ _ _ _ _ _

theorem OB.madeAt (w : World) (B g : Nat) (cur : Array Value) (cap : Nat) (hg : g = w.heap.size) (hB : B ≤ w.heap.size) (hm : cap ≤ 9223372036854775807) (hs : cur.size = cap) :
    OB (w.alloc (.cells cur 5)) B (.slice (some ⟨g, 0, none⟩) 0 cap) [] := by subst hg; exact OB.made w B cur cap hB hm hs
def Cells4 (w : World) (b off x0 x1 x2 x3 : Nat) : Prop := w.cell? ⟨b, off, none⟩ = some (.int .u8 (x0 : Int)) ∧ w.cell? ⟨b, off + 1, none⟩ = some (.int .u8 (x1 : Int)) ∧ w.cell? ⟨b, off + 2, none⟩ = some (.int .u8 (x2 : Int)) ∧ w.cell? ⟨b, off + 3, none⟩ = some (.int .u8 (x3 : Int))
theorem keep4 {w w' : World} {b off x0 x1 x2 x3 : Nat} (h : Cells4 w b off x0 x1 x2 x3) (hb : b < w.heap.size) (hw : Below w.heap.size w w') :
    w'.cell? ⟨b, off, none⟩ = some (.int .u8 (x0 : Int)) ∧ w'.cell? ⟨b, off + 1, none⟩ = some (.int .u8 (x1 : Int)) ∧ w'.cell? ⟨b, off + 2, none⟩ = some (.int .u8 (x2 : Int)) ∧ w'.cell? ⟨b, off + 3, none⟩ = some (.int .u8 (x3 : Int)) := by
  obtain ⟨h0, h1, h2, h3⟩ := h
  exact ⟨(hw.cell (p := ⟨b, off, none⟩) hb).trans h0, (hw.cell (p := ⟨b, off + 1, none⟩) hb).trans h1, (hw.cell (p := ⟨b, off + 2, none⟩) hb).trans h2, (hw.cell (p := ⟨b, off + 3, none⟩) hb).trans h3⟩

set_option maxHeartbeats 400000 in
theorem open_long (v : Value) (l : List Nat) (w : World) (hv : RB w w.heap.size v l) (hl : 4 ≤ l.length) :
    Calls Tryz.prog 121 #[v] w fun e w' => ∃ v', e = .returned (.tuple #[v', .bool (openOk l)]) ∧ OB w' w.heap.size v' (openL l) ∧ Below w.heap.size w w' := by
  have hlt : ∀ x ∈ l.drop 4, x < 256 := fun x hx => hv.1 x (List.mem_of_mem_drop hx)
  have hs := crcSum_lt _ hlt
  obtain ⟨h1, h2, A, c, rfl, h3, h4, h5⟩ := hv
  rcases h5 with rfl | ⟨b, off, rfl, hb, hc⟩
  · simp at hl
  obtain ⟨x0, x1, x2, x3, t, rfl⟩ : ∃ x0 x1 x2 x3 t, l = x0 :: x1 :: x2 :: x3 :: t := by
    match l, hl with
    | x0 :: x1 :: x2 :: x3 :: t, _ => exact ⟨x0, x1, x2, x3, t, rfl⟩
  have c0 : w.cell? ⟨b, off, none⟩ = some (.int .u8 (x0 : Int)) := hc 0 x0 rfl
  have c1 : w.cell? ⟨b, off + 1, none⟩ = some (.int .u8 (x1 : Int)) := hc 1 x1 rfl
  have c2 : w.cell? ⟨b, off + 2, none⟩ = some (.int .u8 (x2 : Int)) := hc 2 x2 rfl
  have c3 : w.cell? ⟨b, off + 3, none⟩ = some (.int .u8 (x3 : Int)) := hc 3 x3 rfl
  simp only [List.drop_succ_cons, List.drop_zero] at hs
  obtain ⟨n, hn⟩ : ∃ n, n = (x0 :: x1 :: x2 :: x3 :: t).length := ⟨_, rfl⟩
  rw [← hn] at hl h2 h3 ⊢
  have HN := Lib.hid hn
  have HC := Lib.hid hc
  have H1 := Lib.hid h1
  clear hn hc h1 hlt
  have hT1 : c = 4 → RB w w.heap.size (.slice (some ⟨b, off, none⟩) (n - 4) 0) t := by
    intro h
    have hn := HN.out
    simp at hn
    have : t = [] := List.eq_nil_of_length_eq_zero (by omega)
    subst this
    have e0 : n - 4 = 0 := by omega
    exact ⟨by simp, by simp, some ⟨b, off, none⟩, 0, by rw [e0]; rfl, by simp, by simp, .inr ⟨b, off, rfl, hb, by simp⟩⟩
  have hT2 : ¬ c = 4 → RB w w.heap.size (.slice (some ⟨b, off + 4, none⟩) (n - 4) (c - 4)) t := by
    intro h
    have hn := HN.out
    simp at hn
    refine ⟨fun x hx => H1.out x (by simp [hx]), by omega, some ⟨b, off + 4, none⟩, c - 4, by congr 1; omega, by omega, by omega, .inr ⟨b, off + 4, rfl, hb, fun j x hx => ?_⟩⟩
    have := HC.out (j + 4) x (by simpa using hx)
    rw [← this]
    congr 2
    omega
  have HT1 := Lib.hid hT1
  have HT2 := Lib.hid hT2
  clear hT1 hT2
  have hblt : b < w.heap.size := hb
  have H4 : Hid (Cells4 w b off x0 x1 x2 x3) := ⟨c0, c1, c2, c3⟩
  have heq := fun W => run_eqOk W x0 x1 x2 x3 t
  have hL : openL (x0 :: x1 :: x2 :: x3 :: t) = if openOk (x0 :: x1 :: x2 :: x3 :: t) then t else [] := by simp [openL]
  have hat : ∀ (W : World) (cap : Nat), (Instr.arrayAt 182 (.slice (some ⟨b, off, none⟩) n cap)).run Tryz.prog W = .ok (.pointer (some ⟨b, off, none⟩)) W := fun W cap => run_arrayAt (P := Tryz.prog) W 182 5 4 _ n cap Tryz.underlying182 hl
  rw [hL]
  clear hL
  have ht : t.length ≤ 140737488355328 := by have := HN.out; simp at this; omega
  obtain ⟨ok, hok⟩ : ∃ ok, ok = openOk (x0 :: x1 :: x2 :: x3 :: t) := ⟨_, rfl⟩
  rw [← hok] at heq ⊢
  clear hok
  cases ok <;> (go_enter Tryz.func121, Tryz.ntmps121; go_wp2_with fail)
  all_goals
    first | have hu := HT1.out (by assumption) | have hu := HT2.out (by assumption)
    have HU := Lib.hid hu
    clear hu HT1 HT2
    go_region_held3 (fun w' => w'.cell? ⟨b, off, none⟩ = some (.int .u8 (x0 : Int)) ∧ w'.cell? ⟨b, off + 1, none⟩ = some (.int .u8 (x1 : Int)) ∧ w'.cell? ⟨b, off + 2, none⟩ = some (.int .u8 (x2 : Int)) ∧ w'.cell? ⟨b, off + 3, none⟩ = some (.int .u8 (x3 : Int)))
      ((refine keep4 H4.out hblt ?_; go_grown))
      (first
        | (go_at_call 68; refine (crcSum_any w.heap.size 0 1 w.heap.size [t] _ (by exact RP.one (w := w) rfl (Below.refl _ _) HU.out (Nat.le_refl _)) (by simp)).mono ?_; rintro e w' ⟨rfl, rfl⟩; simp only [List.flatten_cons, List.flatten_nil, List.append_nil])
        | (go_at_call 128; refine (lowestFirst_any _ _ hs).mono ?_; rintro e w' ⟨rfl, o, rfl⟩))
    all_goals
      go_wp2_with (at_builtin; go_must (refine wpList_app rfl (.tmp 18) (.tmp 19) rfl w.heap.size (.slice (some ⟨w.heap.size + 1 + 1, 0, none⟩) 0 0) [] rfl (by exact (OB.madeAt _ _ _ _ _ (by simp) (by simp; omega) (by simp) rfl).drew) w.heap.size _ t rfl (by exact (HU.out.below (by go_grown))) (by simp; omega) (by simpa using ht) ?_); intro v' w' ho hg hat'; have HO := Lib.hid ho; have HG := Lib.hid hg; clear ho hg hat')
      go_ret2
      first
        | exact ⟨_, rfl, OB.nil _ _, by go_grown⟩
        | exact ⟨_, rfl, HO.out, (Below.grown (by go_grown) HG.out (by simp; omega) (fun k hk => by simp [Value.ownBlock] at hk; omega))⟩
end Go.Proofs.YtbagmmncjmbboaaGreat

/-
  The walks of skeinref02: Sum, Seal, Open.
-/
namespace Go.Proofs.YtbagmmncjmbboaaGreat
open Go.RowKit
set_option linter.unusedVariables false

theorem crcReg_step (r x : Nat) : crcReg r [x] = crcSteps 8 (r ^^^ x) := rfl

set_option maxHeartbeats 1000000 in
theorem sum2_any (v : Value) (l : List Nat) (w : World) (B : Nat) (hv : RB w B v l) :
    Calls Tryz.prog 109 #[v] w fun e w' => e = .returned (.int .u32 (crcSum l : Nat)) ∧ w = w' := by
  have hreg : ∀ k, crcReg 4294967295 (l.take k) < 4294967296 := fun k => crcReg_lt _ _ (by omega) (fun x hx => hv.1 x (List.mem_of_mem_take hx))
  have HR := Lib.hid hreg
  obtain ⟨A, c, rfl, ha1, ha2, ha3, HA⟩ := hv.open_
  clear hv hreg
  go_enter Tryz.func109, Tryz.ntmps109
  go_wp2
  go_loop [3, 4] (fun r i => ∃ k : Nat, k ≤ l.length ∧ i = .int .i64 k ∧ r = .int .u32 (crcReg 4294967295 (l.take k) : Nat)) (fun r i => l.length - (intOf i).toNat)
  case atStart => exact ⟨0, Nat.zero_le _, rfl, rfl⟩
  case round =>
    obtain ⟨k, hk, rfl, rfl⟩ := hrel
    have hr := HR.out k
    by_cases hlt : k < l.length
    · obtain ⟨b1, o1, rfl, hb, hx, hx2⟩ := HA.out k hlt
      have hs : crcReg 4294967295 (l.take (k + 1)) = crcSteps 8 (crcReg 4294967295 (l.take k) ^^^ l[k]) := by
        rw [List.take_succ_eq_append_getElem hlt, crcReg_append, crcReg_step]
      have HS := Lib.hid hs
      obtain ⟨x, hx0⟩ : ∃ x, x = l[k] := ⟨_, rfl⟩
      rw [← hx0] at hx hx2 HS
      clear hs hx0
      obtain ⟨r, hr0⟩ : ∃ r, r = crcReg 4294967295 (l.take k) := ⟨_, rfl⟩
      rw [← hr0] at hr HS ⊢
      clear hr0
      have hxor : bits BinOp.xor IntKind.u32 (r : Int) (x : Int) = ((r ^^^ x : Nat) : Int) := u32_xor_nat r x hr (by omega)
      obtain ⟨q, hq0⟩ : ∃ q, q = r ^^^ x := ⟨_, rfl⟩
      rw [← hq0] at hxor HS
      have hq : q < 4294967296 := by rw [hq0]; exact xor32_lt _ _ hr (by omega)
      clear hq0
      go_wp2
      clear hxor
      go_loop [3, 5] (fun t i => ∃ j : Nat, j ≤ 8 ∧ i = .int .i64 j ∧ t = .int .u32 (crcSteps j q : Nat)) (fun _ i => 8 - (intOf i).toNat)
      case atStart => exact ⟨0, Nat.zero_le _, rfl, rfl⟩
      case round =>
        obtain ⟨j, hj, rfl, rfl⟩ := hrel
        by_cases hlt' : j < 8
        · have hl := crcSteps_lt j q hq
          have hst : crcSteps (j + 1) q = crcStep (crcSteps j q) := rfl
          have HST := Lib.hid hst
          clear hst
          obtain ⟨m, hm⟩ : ∃ m, m = crcSteps j q := ⟨_, rfl⟩
          rw [← hm] at hl HST ⊢
          clear hm
          rcases Nat.mod_two_eq_zero_or_one m with h2 | h2
          · have ht : ((m : Int) % 2 == 1) = false := by simp; omega
            have e : crcStep m = m / 2 := by simp [crcStep, h2]
            rw [e] at HST
            clear h2 e
            go_wp2
            go_round
            case rel => exact ⟨j + 1, by omega, by go_num, by rw [HST.out]; simp⟩
            case measure => simp [intOf]; omega
          · have ht : ((m : Int) % 2 == 1) = true := by simp; omega
            have e : crcStep m = (m / 2) ^^^ 3988292384 := by simp [crcStep, h2]
            rw [e] at HST
            clear h2 e
            go_wp2
            go_round
            case rel =>
              refine ⟨j + 1, by omega, by go_num, ?_⟩
              rw [HST.out]
              have := u32_xor_nat (m / 2) 3988292384 (by omega) (by omega)
              rw [← this]
              simp
            case measure => simp [intOf]; omega
        · obtain rfl : j = 8 := by omega
          go_wp2
          go_round
          case rel => exact ⟨k + 1, by omega, by go_num, by rw [HS.out]⟩
          case measure => simp [intOf]; omega
    · obtain rfl : k = l.length := by omega
      rw [List.take_length] at hr ⊢
      go_wp2
      go_ret
      refine ⟨?_, rfl⟩
      unfold crcSum
      have := u32_xor_nat _ 4294967295 hr (by omega)
      rw [← this]; rfl

theorem below_drewN {B : Nat} {w w' : World} (h : Below B w w') (n : Nat) : Below B w (w'.drewN n) := ⟨h.os, h.tape, h.output, h.size, h.block⟩

def digits (s k : Nat) : List Nat := (List.range k).map (fun i => s / 256 ^ i % 256)
theorem digits_succ (s k : Nat) : digits s (k + 1) = digits s k ++ [s / 256 ^ k % 256] := by simp [digits, List.range_succ]
theorem digits_four (s : Nat) (h : s < 4294967296) : digits s 4 = sumBytes s := by
  simp [digits, sumBytes, List.range_succ]
  omega

set_option maxHeartbeats 1000000 in
theorem seal2_any (v : Value) (l : List Nat) (w : World) (hv : RB w w.heap.size v l) (hl : l.length ≤ 140737488355000) :
    Calls Tryz.prog 86 #[v] w fun e w' => ∃ v', e = .returned v' ∧ OB w' w.heap.size v' (sumBytes (crcSum l) ++ l) ∧ Below w.heap.size w w' := by
  have hs := crcSum_lt l hv.1
  have HV := Lib.hid hv
  have hf := digits_four _ hs
  have HF := Lib.hid hf
  clear hv hf
  go_enter Tryz.func86, Tryz.ntmps86
  go_wp2_with fail
  refine (sum2_any v l _ w.heap.size (HV.out.alloc (Nat.le_refl _) _)).mono ?_
  rintro e w1 ⟨rfl, rfl⟩
  obtain ⟨s, hs0⟩ : ∃ s, s = crcSum l := ⟨_, rfl⟩
  rw [← hs0] at hs HF ⊢
  have HS0 := Lib.hid hs0
  clear hs0
  go_wp2
  go_loopw [3, 4, 5] (fun v t i wr => ∃ k m : Nat, k ≤ 4 ∧ i = .int .i64 k ∧ t = .int .u32 (m : Int) ∧ m < 4294967296 ∧ Hid (m = s / 256 ^ k) ∧ Hid (OB wr w.heap.size v (digits s k)) ∧ Hid (Below w.heap.size w wr)) (fun v t i wr => 4 - (intOf i).toNat)
  case atStart => exact ⟨0, s, Nat.zero_le _, rfl, rfl, hs, by show _ = _; simp, OB.made w w.heap.size _ 0 (Nat.le_refl _) (by omega) rfl, (Below.refl _ _).alloc (Nat.le_refl _) _⟩
  case round =>
    obtain ⟨k, m, hk, rfl, rfl, hm, HM, HO, HB⟩ := hrel
    by_cases hlt : k < 4
    · go_wp2_with (at_builtin; go_must (refine wpList_app1 (w0 := w) rfl (.tmp 13) (.tmp 17) rfl w.heap.size _ _ rfl HO.out HB.out (Nat.le_refl _) _ (m % 256) (by omega) (by omega) rfl (by simp [digits]; omega) ?_); intro v' w1 ho1 hb1 _; have HO1 := Lib.hid ho1; have HB1 := Lib.hid hb1; clear ho1 hb1)
      go_roundw
      case rel => exact ⟨k + 1, m / 256, by omega, by go_num, by go_num, by omega, by show _ = _; rw [HM.out, Nat.div_div_eq_div_mul, Nat.pow_succ], by rw [digits_succ, ← HM.out]; exact HO1, HB1⟩
      case measure => simp [intOf]; omega
    · obtain rfl : k = 4 := by omega
      rw [HF.out] at HO
      go_wp2_with fail
      refine (cat_any _ v (sumBytes s) l wr (HO.out.rb (Nat.le_refl _)) ((HV.out.below HB.out).more HB.out.size) (by simp [sumBytes]; omega)).mono ?_
      rintro e w2 ⟨v2, rfl, ho2, hb2⟩
      go_wp2
      go_ret
      exact ⟨_, rfl, by rw [← HS0.out]; exact ho2.base HB.out.size, HB.out.trans (hb2.mono HB.out.size)⟩

theorem openOk_same (l : List Nat) (h : 4 ≤ l.length) : sameB (sumBytes (crcSum (l.drop 4)) ++ l.drop 4) l = openOk l := by
  unfold sameB openOk
  rw [decide_eq_decide]
  constructor
  · intro e
    refine ⟨h, ?_⟩
    have := congrArg (List.take 4) e
    rw [List.take_append_of_le_length (by simp [sumBytes])] at this
    rw [← this, List.take_of_length_le (by simp [sumBytes])]
  · rintro ⟨_, e⟩
    rw [← e, List.take_append_drop]

theorem openL_eq (l : List Nat) : openL l = if openOk l then l.drop 4 else [] := rfl

set_option maxHeartbeats 1000000 in
theorem open2_any (v : Value) (l : List Nat) (w : World) (hv : RB w w.heap.size v l) (hl : l.length ≤ 140737488355000) :
    Calls Tryz.prog 107 #[v] w fun e w' => ∃ v', e = .returned (.tuple #[v', .bool (openOk l)]) ∧ OB w' w.heap.size v' (openL l) ∧ Below w.heap.size w w' := by
  have HV := Lib.hid hv
  obtain ⟨A, c, rfl, ha1, ha2, ha3, _⟩ := hv.open_
  clear hv
  by_cases h4 : 4 ≤ l.length
  · have hsame := openOk_same l h4
    have hp : piece l 4 l.length = l.drop 4 := by unfold piece; rw [List.take_length]
    rw [openL_eq]
    obtain ⟨ok, hok⟩ : ∃ ok, ok = openOk l := ⟨_, rfl⟩
    rw [← hok] at hsame ⊢
    have HSA := Lib.hid hsame
    have HP := Lib.hid hp
    clear hok hsame hp
    cases ok
    all_goals
      go_enter Tryz.func107, Tryz.ntmps107
      go_wp2_with fail
      refine (piece_any _ l 4 l.length w HV.out (by omega) (by omega)).mono ?_
      rintro e w1 ⟨v1, rfl, ho1, hb1⟩
      rw [HP.out] at ho1
      have HO1 := Lib.hid ho1
      have HB1 := Lib.hid hb1
      clear ho1 hb1
      go_wp2_with fail
      refine (seal2_any _ _ w1 (HO1.out.rb (Nat.le_refl _)) (by rw [List.length_drop]; omega)).mono ?_
      rintro e w2 ⟨v2, rfl, ho2, hb2⟩
      have HO2 := Lib.hid ho2
      have HB2 := Lib.hid hb2
      clear ho2 hb2
      go_wp2_with fail
      refine (same_any _ _ _ l w2 w2.heap.size (HO2.out.rb (Nat.le_refl _)) (((HV.out.below HB1.out).below (HB2.out.mono HB1.out.size)).more (Nat.le_trans HB1.out.size HB2.out.size))).mono ?_
      rw [HSA.out]
      rintro e w3 ⟨rfl, n, rfl⟩
      go_wp2
      go_ret2
      have hbb : Below w.heap.size w w2 := HB1.out.trans (HB2.out.mono HB1.out.size)
      have hdd : Below w.heap.size w (w2.drewN n) := below_drewN hbb n
      first
        | exact ⟨_, rfl, OB.nil _ _, hdd⟩
        | exact ⟨_, rfl, HO1.out.below (below_drewN HB2.out n), hdd⟩
  · have hok : openOk l = false := by unfold openOk; exact decide_eq_false (fun h => h4 h.1)
    rw [openL_eq, hok]
    clear hok
    go_enter Tryz.func107, Tryz.ntmps107
    go_wp2
    go_ret2
    exact ⟨_, rfl, OB.nil _ _, Below.refl _ _⟩
end Go.Proofs.YtbagmmncjmbboaaGreat

/-
  The walks of little's Get and Put, over a block of bytes known whole.
-/
namespace Go.Proofs.YtbagmmncjmbboaaGreat
open Go.RowKit Go.Maps
set_option linter.unusedVariables false

/-- A number's value, the lowest byte first. -/
def leV : List Nat → Nat
  | [] => 0
  | x :: r => x + 256 * leV r

theorem leV_lt : ∀ l : List Nat, (∀ x ∈ l, x < 256) → leV l < 256 ^ l.length
  | [], _ => by simp [leV]
  | x :: r, h => by
    have h1 := leV_lt r (fun y hy => h y (List.mem_cons_of_mem _ hy))
    have h2 := h x (List.mem_cons_self ..)
    rw [List.length_cons, Nat.pow_succ]
    simp only [leV]
    omega

theorem leV_snoc (x : Nat) : ∀ l : List Nat, leV (l ++ [x]) = leV l + x * 256 ^ l.length
  | [] => by simp [leV]
  | y :: r => by
    have h1 := leV_snoc x r
    rw [List.cons_append]
    simp only [leV, List.length_cons]
    rw [h1, Nat.pow_succ, Nat.mul_add, ← Nat.mul_assoc, Nat.add_assoc]
    congr 2
    rw [Nat.mul_comm 256 x, Nat.mul_assoc, Nat.mul_comm 256]

theorem pow256_le (k : Nat) (h : k ≤ 7) : 256 ^ k ≤ 72057594037927936 := Nat.le_trans (Nat.pow_le_pow_right (by omega) h) (by decide)

theorem or8 (u x k : Nat) (hk : k ≤ 7) (hx : x < 256) (hu : u < 256 ^ k) : bits BinOp.or IntKind.u64 (u : Int) (IntKind.u64.wrap ((x : Int) * 2 ^ (8 * k))) = ((u + x * 256 ^ k : Nat) : Int) := by
  have hp : (2 : Nat) ^ (8 * k) = 256 ^ k := by rw [Nat.pow_mul]
  have hl := pow256_le k hk
  have e : ((x : Int) * 2 ^ (8 * k)) = ((x * 256 ^ k : Nat) : Int) := by rw [← hp]; simp
  rw [e]
  have hm : (x * 256 ^ k) % 2 ^ (8 * k) = 0 := by rw [hp]; exact Nat.mul_mod_left _ _
  have h1 : x * 256 ^ k < 18446744073709551616 := by
    have := Nat.mul_le_mul (show x ≤ 255 by omega) hl
    omega
  generalize x * 256 ^ k = y at *
  rw [IntKind.wrap_u64, show ((y : Nat) : Int) % 18446744073709551616 = (y : Int) by omega]
  refine (u64_or_nat u y (by omega) (by omega)).trans ?_
  rw [Nat.or_comm, nat_join (8 * k) y u hm (by rw [hp]; exact hu), Nat.add_comm]

theorem leV_take {l : List Nat} (hl : ∀ x ∈ l, x < 256) (k : Nat) (hk : k < l.length) : leV (l.take k) < 256 ^ k ∧ leV (l.take (k + 1)) = leV (l.take k) + l[k] * 256 ^ k := by
  have h1 : (l.take k).length = k := by rw [List.length_take]; omega
  have h2 := leV_lt (l.take k) (fun x hx => hl x (List.mem_of_mem_take hx))
  rw [h1] at h2
  refine ⟨h2, ?_⟩
  rw [List.take_succ_eq_append_getElem hk, leV_snoc, h1]

set_option maxHeartbeats 400000 in
theorem leGet_any (w : World) (B : Nat) (v : Value) (l : List Nat) (hv : RB w B v l) (hl : l.length ≤ 8) :
    Calls Tryz.prog 72 #[v] w fun e w' => e = .returned (.int .u64 (leV l : Nat)) ∧ w = w' := by
  obtain ⟨A, c, rfl, ha1, ha2, ha3, HA⟩ := hv.open_
  have HL := Lib.hid hv.1
  clear hv
  go_enter Tryz.func72, Tryz.ntmps72
  go_wp2
  go_loop [3, 8] (fun n i => ∃ k : Nat, k ≤ l.length ∧ i = .int .i64 k ∧ n = .int .u64 (leV (l.take k) : Nat)) (fun _ i => l.length - (intOf i).toNat)
  case atStart => exact ⟨0, Nat.zero_le _, rfl, rfl⟩
  case round =>
    obtain ⟨k, hk, rfl, rfl⟩ := hrel
    by_cases hlt : k < l.length
    · obtain ⟨b1, o1, rfl, hb, hx, hx2⟩ := HA.out k hlt
      obtain ⟨h1, h2⟩ := leV_take HL.out k hlt
      have HS := Lib.hid h2
      obtain ⟨u, hu⟩ : ∃ u, u = leV (l.take k) := ⟨_, rfl⟩
      obtain ⟨x, hx0⟩ : ∃ x, x = l[k] := ⟨_, rfl⟩
      rw [← hx0] at hx hx2
      rw [← hu] at h1
      have HU := Lib.hid hu
      have HX := Lib.hid hx0
      have H1 := Lib.hid (or8 u x k (by omega) hx2 h1)
      rw [← hu]
      clear h1 h2 hu hx0
      go_wp2
      go_round
      case rel => exact ⟨k + 1, by omega, by go_num, by rw [HS.out, ← HU.out, ← HX.out]; first | exact congrArg _ H1.out | (rw [H1.out])⟩
      case measure => simp [intOf]; omega
    · obtain rfl : k = l.length := by omega
      rw [List.take_length]
      go_wp2
      go_ret
      exact ⟨rfl, rfl⟩

/-- A block that is just the bytes L. -/
structure BB (w : World) (g : Nat) (t : TypeId) (L : List Nat) : Prop where
  blk : Blk w g t (L.map bcell).toArray
  lt : ∀ x ∈ L, x < 256
  len : L.length ≤ 1000000

/-- L with d laid from off on. -/
def putAt (L : List Nat) (off : Nat) (d : List Nat) : List Nat := L.take off ++ d ++ L.drop (off + d.length)

theorem putAt_len {L d : List Nat} {off : Nat} (h : off + d.length ≤ L.length) : (putAt L off d).length = L.length := by
  unfold putAt; simp; omega

theorem putAt_nil (L : List Nat) (off : Nat) : putAt L off [] = L := by unfold putAt; simp

theorem putAt_mem {L d : List Nat} {off : Nat} (hL : ∀ x ∈ L, x < 256) (hd : ∀ x ∈ d, x < 256) : ∀ x ∈ putAt L off d, x < 256 := by
  intro x hx
  unfold putAt at hx
  rcases List.mem_append.1 hx with hx | hx
  · rcases List.mem_append.1 hx with hx | hx
    · exact hL x (List.mem_of_mem_take hx)
    · exact hd x hx
  · exact hL x (List.mem_of_mem_drop hx)

theorem putAt_step {L d : List Nat} {off y : Nat} (h : off + d.length < L.length) : (putAt L off d).set (off + d.length) y = putAt L off (d ++ [y]) := by
  unfold putAt
  have h1 : (L.take off ++ d).length = off + d.length := by rw [List.length_append, List.length_take]; omega
  rw [List.set_append_right _ _ (by omega), h1, Nat.sub_self]
  have h2 : L.drop (off + d.length) = L[off + d.length] :: L.drop (off + d.length + 1) := List.drop_eq_getElem_cons h
  rw [h2, List.set_cons_zero, List.length_append, List.length_singleton]
  simp [Nat.add_assoc]

section

variable {w w' : World} {g : Nat} {t : TypeId} {L : List Nat}

theorem BB.cell (h : BB w g t L) {i : Nat} (hi : i < L.length) : w.cell? ⟨g, i, none⟩ = some (.int .u8 (L[i] : Nat)) := by
  rw [h.blk.cell]; simp [hi, bcell]

theorem BB.set_ (h : BB w g t L) {i y : Nat} (hi : i < L.length) (hy : y < 256) : BB (w.setCell ⟨g, i, none⟩ (.int .u8 (y : Nat))) g t (L.set i y) := by
  refine ⟨?_, ?_, by rw [List.length_set]; exact h.len⟩
  · have h1 := h.blk.set_ i (.int .u8 (y : Nat))
    have e : ((L.map bcell).toArray.setIfInBounds i (.int .u8 (y : Nat))) = ((L.set i y).map bcell).toArray := by
      rw [List.setIfInBounds_toArray, List.map_set]; rfl
    rw [e] at h1
    exact h1
  · intro x hx
    rcases List.mem_or_eq_of_mem_set hx with hx | hx
    · exact h.lt x hx
    · omega

theorem BB.mod {S : Nat → Prop} (h : BB w g t L) (hm : Mod S w w') (hn : ¬ S g) : BB w' g t L := ⟨h.blk.mod hm hn, h.lt, h.len⟩

theorem BB.below {B : Nat} (h : BB w g t L) (hb : Below B w w') (hg : g < B) : BB w' g t L := ⟨h.blk.below hb hg, h.lt, h.len⟩

/-- A part of it as a slice. -/
theorem BB.rb (h : BB w g t L) {lo m c : Nat} (hlo : lo + m ≤ L.length) (hc : m ≤ c) (hc2 : c ≤ 9223372036854775807) {B : Nat} (hB : g < B) : RB w B (.slice (some ⟨g, lo, none⟩) m c) ((L.drop lo).take m) := by
  have hl : ((L.drop lo).take m).length = m := by rw [List.length_take, List.length_drop]; omega
  have := h.len
  refine ⟨fun x hx => h.lt x (List.mem_of_mem_drop (List.mem_of_mem_take hx)), by omega, some ⟨g, lo, none⟩, c, by rw [hl], by omega, hc2, .inr ⟨g, lo, rfl, hB, fun j x hx => ?_⟩⟩
  rw [List.getElem?_take] at hx
  split at hx
  · rw [List.getElem?_drop] at hx
    rw [h.blk.cell]
    simp [hx, bcell]
  · cases hx

end

theorem div256 (n k : Nat) : ((n : Int) / 2 ^ (8 * k)) % 256 = ((n / 256 ^ k % 256 : Nat) : Int) := by
  have hp : (2 : Nat) ^ (8 * k) = 256 ^ k := by rw [Nat.pow_mul]
  rw [← hp]; simp

theorem digits_len (s k : Nat) : (digits s k).length = k := by simp [digits]

theorem digits_lt (s k : Nat) : ∀ x ∈ digits s k, x < 256 := by
  intro x hx
  simp [digits] at hx
  obtain ⟨i, _, rfl⟩ := hx
  omega

set_option maxHeartbeats 1000000 in
theorem lePut_any (w : World) (g off m c n : Nat) (t : TypeId) (L : List Nat) (h : BB w g t L) (hm : off + m ≤ L.length) (hc : m ≤ c) (hc2 : c ≤ 9223372036854775807) (h8 : m ≤ 8) (hn : n < 18446744073709551616) :
    Calls Tryz.prog 66 #[.slice (some ⟨g, off, none⟩) m c, .int .u64 (n : Int)] w fun e w' => e = .returned (.tuple #[]) ∧ BB w' g t (putAt L off (digits n m)) ∧ Mod (fun k => k = g) w w' ∧ w'.heap.size = w.heap.size := by
  have HB := Lib.hid h
  clear h
  go_enter Tryz.func66, Tryz.ntmps66
  go_wp2
  go_loopw [7] (fun i wr => ∃ k : Nat, k ≤ m ∧ i = .int .i64 k ∧ Hid (BB wr g t (putAt L off (digits n k))) ∧ Hid (Mod (fun k => k = g) w wr) ∧ wr.heap.size = w.heap.size) (fun i wr => m - (intOf i).toNat)
  case atStart => exact ⟨0, Nat.zero_le _, rfl, by rw [show digits n 0 = [] from rfl, putAt_nil]; exact HB, Mod.refl _ _, rfl⟩
  case round =>
    obtain ⟨k, hk, rfl, HK, HM, hz⟩ := hrel
    by_cases hlt : k < m
    · have hl1 : (putAt L off (digits n k)).length = L.length := putAt_len (by rw [digits_len]; omega)
      have hcl := HK.out.cell (i := off + k) (by omega)
      have hfz := HK.out.blk.frozen (off + k)
      have hd := div256 n k
      have HD := Lib.hid hd
      clear hd
      go_wp2
      go_roundw
      case rel =>
        refine ⟨k + 1, by omega, by go_num, ?_, ?_, ?_⟩
        · have h1 := HK.out.set_ (i := off + k) (y := n / 256 ^ k % 256) (by omega) (by omega)
          have h2 := putAt_step (L := L) (d := digits n k) (off := off) (y := n / 256 ^ k % 256) (by rw [digits_len]; omega)
          rw [digits_len] at h2
          rw [h2, ← digits_succ] at h1
          rw [← HD.out] at h1
          exact h1
        · exact HM.out.setCell (p := ⟨g, off + k, none⟩) (fun _ => rfl) _
        · simpa using hz
      case measure => simp [intOf]; omega
    · obtain rfl : k = m := by omega
      go_wp2
      go_end0
      exact ⟨by first | rfl | trivial, HK.out, HM.out, hz⟩

end Go.Proofs.YtbagmmncjmbboaaGreat

/-
  A block of 512 bytes of a call's own: its making, copies into it.
-/
namespace Go.Proofs.YtbagmmncjmbboaaGreat
open Go.RowKit Go.Maps
set_option linter.unusedVariables false

theorem zeroArr (w : World) : (zeroValue 123).run Tryz.prog w = .ok secZ w := by kernel_rfl

theorem BB.new (w : World) : BB (w.alloc (.cells secZ.cells 123)) w.heap.size 123 sec0 :=
  ⟨by rw [secZ_cells]; exact Blk.new _ _ _, sec0_ok.2, by rw [sec0_ok.1]; omega⟩

section

variable {ops : Array Oper} {rest : List Oper} {o : Oper} {a : Act} {Q : Exit → Act → World → Prop} {w : World} {d : Option Tmp} {ty : TypeId} {pos : String} {af : Array Edge}

theorem wpList_allocA_ (hg : o.guard = none) (hop : o.op = .alloc 123) (n : Nat) (hn : w.heap.size = n)
    (h : ∀ w', BB w' n 123 sec0 → Below w.heap.size w w' → w'.heap.size = w.heap.size + 1 → wpList Tryz.prog ops Q rest (a.put o.dst (.pointer (some ⟨n, 0, none⟩))) w') : wpList Tryz.prog ops Q (o :: rest) a w := by
  subst hn
  refine wpList_plain hg fun K' hK' => ?_
  have hrun : (Instr.alloc 123 true (.tuple #[])).run Tryz.prog w = .ok (.pointer (some ⟨w.heap.size, 0, none⟩)) (w.alloc (.cells secZ.cells 123)) := by
    unfold Instr.alloc
    rw [Sem.run_bind, zeroArr, Result.andThen_ok]
    simp [newVar, newRow]
  unfold Oper.wp
  simp only [execOp, hop, Sem.run_bind, hrun, Result.andThen_ok, Sem.run_pure]
  exact hK' _ _ (h _ (BB.new w) ((Below.refl _ _).alloc (Nat.le_refl _) _) (by simp))

theorem wpList_allocA (n : Nat) (hn : w.heap.size = n)
    (h : ∀ w', BB w' n 123 sec0 → Below w.heap.size w w' → w'.heap.size = w.heap.size + 1 → wpList Tryz.prog ops Q rest (a.put d (.pointer (some ⟨n, 0, none⟩))) w') : wpList Tryz.prog ops Q ({ dst := d, op := .alloc 123, type := ty, pos := pos, after := af, guard := none } :: rest) a w :=
  wpList_allocA_ rfl rfl n hn h

end

theorem BB.copied {w : World} {g B off : Nat} {t : TypeId} {L l : List Nat} {v : Value} (h : BB w g t L) (hv : RB w B v l) (hfit : off + l.length ≤ L.length) (dl dc : Nat) (hdl : l.length ≤ dl) (ty : TypeId) :
    ∃ w' u, (Builtin.copy_ #[22, 22] ty #[.slice (some ⟨g, off, none⟩) dl dc, v]).run Tryz.prog w = .ok u w' ∧ BB w' g t (putAt L off l) ∧ Mod (fun k => k = g) w w' ∧ w'.heap.size = w.heap.size := by
  obtain ⟨r1, r2, A, c, rfl, r3, r4, r5⟩ := hv
  rcases Nat.eq_zero_or_pos l.length with hz | hz
  · have hl : l = [] := List.eq_nil_of_length_eq_zero hz
    subst hl
    obtain ⟨i0, hi0, hz0, hz1, hz2⟩ := info_parts info5
    refine ⟨w, goInt 0, ?_, by rw [putAt_nil]; exact h, Mod.refl _ _, rfl⟩
    cases A with
    | none => simp [Builtin.copy_, run_underlying Tryz.underlying22, Builtin.lenOf, Builtin.firstCells, sizeOf, typeInfo, hi0, storeCells]
    | some ad => simp [Builtin.copy_, run_underlying Tryz.underlying22, Builtin.lenOf, Builtin.firstCells, sizeOf, typeInfo, hi0, storeCells, loadCells, loadCellsFrom]
  · rcases r5 with rfl | ⟨b', off', rfl, hb, hc⟩
    · simp at hz
    have hmin : (l.map bcell).length = Nat.min l.length dl := by rw [List.length_map]; exact (Nat.min_eq_left hdl).symm
    have hrun := run_copy_row (P := Tryz.prog) w 22 22 ty 5 g off dl dc ⟨b', off', none⟩ l.length c (L.map bcell).toArray t (l.map bcell) Tryz.underlying22 (by kernel_rfl) h.blk hmin
      (fun j u hu => bcells_at hc j u hu) (by rw [List.length_map, List.size_toArray, List.length_map]; exact hfit) (by intro u hu; simp [bcell] at hu; obtain ⟨x, _, rfl⟩ := hu; rfl)
    refine ⟨_, _, hrun, ⟨?_, putAt_mem h.lt r1, by rw [putAt_len hfit]; exact h.len⟩, (Mod.refl (fun k => k = g) w).setRow (fun _ => rfl) _, by simp⟩
    have e : ((L.map bcell).toArray.toList.take off ++ l.map bcell ++ (L.map bcell).toArray.toList.drop (off + (l.map bcell).length)).toArray = ((putAt L off l).map bcell).toArray := by
      unfold putAt
      simp
    rw [e]
    exact setRow_heap w g _ _ _ _ h.blk

section

variable {ops : Array Oper} {rest : List Oper} {o : Oper} {a : Act} {Q : Exit → Act → World → Prop} {w : World}

theorem wpList_copyB (hgd : o.guard = none) (x y : Operand) (hop : o.op = .call { callee := .builtin .copy, args := #[x, y], argTypes := #[22, 22] }) (g B off dl dc : Nat) (t : TypeId) (L l : List Nat) (v : Value)
    (hx : a.eval x = .slice (some ⟨g, off, none⟩) dl dc) (hy : a.eval y = v) (hB : BB w g t L) (hv : RB w B v l) (hfit : off + l.length ≤ L.length) (hdl : l.length ≤ dl)
    (h : ∀ w' u, BB w' g t (putAt L off l) → Mod (fun k => k = g) w w' → w'.heap.size = w.heap.size → wpList Tryz.prog ops Q rest (a.put o.dst u) w') : wpList Tryz.prog ops Q (o :: rest) a w := by
  refine wpList_plain hgd fun K' hK' => ?_
  obtain ⟨w', u, hrun, h1, h2, h3⟩ := hB.copied hv hfit dl dc hdl o.type
  unfold Oper.wp
  simp only [execOp, hop, resolve, invoke, builtin, Sem.run_bind, Sem.run_pure, Result.andThen_ok, List.map_toArray, List.map_cons, List.map_nil, hx, hy, hrun]
  exact hK' _ _ (h w' u h1 h2 h3)

end

/-! ### Lists -/

theorem putAt_mid {P M T d : List Nat} (hd : d.length = M.length) : putAt (P ++ M ++ T) P.length d = P ++ d ++ T := by
  unfold putAt
  have h1 : (P ++ M ++ T).take P.length = P := by rw [List.append_assoc, List.take_left]
  rw [h1, hd, List.drop_left' (by simp)]

theorem zeros_split (a b : Nat) : List.replicate (a + b) (0 : Nat) = List.replicate a 0 ++ List.replicate b 0 := (List.replicate_append_replicate).symm

theorem putAt_zeros {X d T : List Nat} {z : Nat} (hd : d.length ≤ z) : putAt (X ++ List.replicate z 0 ++ T) X.length d = X ++ d ++ List.replicate (z - d.length) 0 ++ T := by
  obtain ⟨r, rfl⟩ : ∃ r, z = d.length + r := ⟨z - d.length, by omega⟩
  rw [zeros_split, show X ++ (List.replicate d.length 0 ++ List.replicate r 0) ++ T = X ++ List.replicate d.length 0 ++ (List.replicate r 0 ++ T) by simp only [List.append_assoc], putAt_mid (by simp), Nat.add_sub_cancel_left]
  simp only [List.append_assoc]

theorem putAt_zeros_end {X d T : List Nat} {z : Nat} (hd : d.length ≤ z) : putAt (X ++ List.replicate z 0 ++ T) (X.length + (z - d.length)) d = X ++ List.replicate (z - d.length) 0 ++ (d ++ T) := by
  obtain ⟨r, rfl⟩ : ∃ r, z = r + d.length := ⟨z - d.length, by omega⟩
  rw [zeros_split, Nat.add_sub_cancel]
  have h1 : X.length + r = (X ++ List.replicate r 0).length := by simp
  rw [h1, ← List.append_assoc, putAt_mid (by simp)]
  simp

theorem set_zeros {X T : List Nat} {z y : Nat} (hz : 1 ≤ z) : (X ++ List.replicate z 0 ++ T).set X.length y = X ++ [y] ++ List.replicate (z - 1) 0 ++ T := by
  obtain ⟨r, rfl⟩ : ∃ r, z = r + 1 := ⟨z - 1, by omega⟩
  rw [List.append_assoc, List.set_append_right _ _ (Nat.le_refl _), Nat.sub_self, List.replicate_succ, List.cons_append, List.set_cons_zero]
  simp

/-! ### Small words -/

theorem lePut_at {w : World} {g off m c n : Nat} {t : TypeId} {L : List Nat} (h : BB w g t L) (hm : off + m ≤ L.length) (hc : m ≤ c) (hc2 : c ≤ 9223372036854775807) (h8 : m ≤ 8) (hn : n < 18446744073709551616) :
    Calls Tryz.prog 66 #[.slice (some ⟨g, off, none⟩) m c, .int .u64 (n : Int)] w fun e w' => e = .returned (.tuple #[]) ∧ BB w' g t (putAt L off (digits n m)) ∧ Mod (fun k => k = g) w w' ∧ w'.heap.size = w.heap.size :=
  lePut_any w g off m c n t L h hm hc hc2 h8 hn

theorem size5 (W : World) : (sizeOf 5).run Tryz.prog W = .ok 1 W := by kernel_rfl

set_option maxRecDepth 100000 in
theorem sl512_l (g e : Nat) (he : e ≤ 512) (W : World) : (Instr.sliceAt 123 (.pointer (some ⟨g, 0, none⟩)) (some (.int .i64 (e : Int))) none none).run Tryz.prog W = .ok (.slice (some ⟨g, if 512 = e then 0 else e, none⟩) (512 - e) (512 - e)) W := by
  rw [run_sliceAt_array_l W 123 _ Tryz.underlying123 .i64 (e : Int) (by omega) (by show (e : Int) ≤ ((512 : Nat) : Int); omega)]
  show ((sizeOf 5).run Tryz.prog W).andThen _ = _
  rw [size5, Result.andThen_ok]
  show Result.ok (slicedAt ⟨g, 0, none⟩ (e : Int).toNat 512 512 1) W = _
  unfold slicedAt
  rw [Int.toNat_natCast, Nat.mul_one, add_none, Nat.zero_add]
  split <;> rfl

set_option maxRecDepth 100000 in
theorem sl512_lh (g l h : Nat) (i j : Int) (hi : i = (l : Int)) (hj : j = (h : Int)) (h1 : l ≤ h) (h2 : h ≤ 512) (h3 : l < 512) (W : World) : (Instr.sliceAt 123 (.pointer (some ⟨g, 0, none⟩)) (some (.int .i64 i)) (some (.int .i64 j)) none).run Tryz.prog W = .ok (.slice (some ⟨g, l, none⟩) (h - l) (512 - l)) W := by
  subst hi hj
  rw [run_sliceAt_array_lh W 123 _ Tryz.underlying123 .i64 .i64 (l : Int) (h : Int) (by omega) (by omega) (by show (h : Int) ≤ ((512 : Nat) : Int); omega)]
  show ((sizeOf 5).run Tryz.prog W).andThen _ = _
  rw [size5, Result.andThen_ok]
  show Result.ok (slicedAt ⟨g, 0, none⟩ (l : Int).toNat (h : Int).toNat 512 1) W = _
  unfold slicedAt
  rw [Int.toNat_natCast, Int.toNat_natCast, Nat.mul_one, add_none, Nat.zero_add, if_neg (by omega)]

/-- crc.Sum of one text. -/
theorem sum_one {W : World} {h B : Nat} {l : List Nat} (hp : RP W B h 0 [l]) {cs : Nat} (hcs : cs = crcSum l) : Calls Tryz.prog 68 #[.slice (some ⟨h, 0, none⟩) 1 1] W fun e w' => e = .returned (.int .u32 (cs : Int)) ∧ w' = W := by
  refine (crcSum_any h 0 1 B [l] W hp (by simp)).mono ?_
  rintro e w' ⟨rfl, rfl⟩
  rw [hcs]
  simp only [List.flatten_cons, List.flatten_nil, List.append_nil]
  exact ⟨by first | rfl | trivial, by first | rfl | trivial⟩

theorem BB.alloc {w : World} {g : Nat} {t : TypeId} {L : List Nat} (h : BB w g t L) (o : Obj) : BB (w.alloc o) g t L := ⟨h.blk.alloc o, h.lt, h.len⟩

theorem below_mod {g : Nat} {w W W' : World} (hb : Below g w W) (hg : g ≤ W.heap.size) (hm : Mod (fun k => k = g) W W') : Below g w W' := hb.trans (hm.below hg (fun k e => Nat.le_of_eq e.symm))

theorem BB.drew {w : World} {g : Nat} {t : TypeId} {L : List Nat} (h : BB w g t L) : BB w.drew g t L := ⟨h.blk.drew, h.lt, h.len⟩

theorem BB.size {w : World} {g : Nat} {t : TypeId} {L : List Nat} (h : BB w g t L) : g < w.heap.size := h.blk.lt

theorem mod_set {w : World} {g i : Nat} {u : Value} : Mod (fun k => k = g) w (w.setCell ⟨g, i, none⟩ u) := (Mod.refl (fun k => k = g) w).setCell (p := ⟨g, i, none⟩) (fun _ => rfl) _

theorem leV_digits (n : Nat) : ∀ k, leV (digits n k) = n % 256 ^ k
  | 0 => by simp [digits, leV, Nat.mod_one]
  | k + 1 => by
    rw [digits_succ, leV_snoc, digits_len, leV_digits n k, Nat.pow_succ, Nat.mod_mul, Nat.mul_comm]

theorem leV_digits_of {n k : Nat} (h : n < 256 ^ k) : leV (digits n k) = n := by rw [leV_digits, Nat.mod_eq_of_lt h]

theorem seg_mid {P M T : List Nat} {lo m : Nat} (h1 : P.length = lo) (h2 : M.length = m) : ((P ++ M ++ T).drop lo).take m = M := by
  subst h1 h2
  rw [List.append_assoc, List.drop_left, List.take_left]

theorem RB.sub {w : World} {B b o n c : Nat} {l : List Nat} (h : RB w B (.slice (some ⟨b, o, none⟩) n c) l) {lo m c' : Nat} (hm : lo + m ≤ l.length) (hc : m ≤ c') (hc2 : c' ≤ 9223372036854775807) : RB w B (.slice (some ⟨b, o + lo, none⟩) m c') ((l.drop lo).take m) := by
  obtain ⟨h1, h2, A, c0, e, h3, h4, h5⟩ := h
  injection e with e1 e2 e3
  have hl : ((l.drop lo).take m).length = m := by rw [List.length_take, List.length_drop]; omega
  refine ⟨fun x hx => h1 x (List.mem_of_mem_drop (List.mem_of_mem_take hx)), by omega, some ⟨b, o + lo, none⟩, c', by rw [hl], by omega, hc2, ?_⟩
  rcases h5 with rfl | ⟨b', off, e', hb, hx⟩
  · left
    rw [List.drop_nil, List.take_nil]
  · rw [← e1] at e'
    injection e' with e'
    injection e' with e4 e5
    subst e4 e5
    refine .inr ⟨b, o + lo, rfl, hb, fun j x hj => ?_⟩
    rw [List.getElem?_take] at hj
    split at hj
    · rw [List.getElem?_drop] at hj
      rw [Nat.add_assoc]; exact hx _ x hj
    · cases hj

theorem leGet_v {w : World} {B : Nat} {v : Value} {l : List Nat} (hv : RB w B v l) (hl : l.length ≤ 8) {n : Nat} (hn : leV l = n) :
    Calls Tryz.prog 72 #[v] w fun e w' => e = .returned (.int .u64 (n : Int)) ∧ w' = w := by
  rw [← hn]; exact (leGet_any w B v l hv hl).mono fun _ _ h => ⟨h.1, h.2.symm⟩

set_option maxRecDepth 100000 in
theorem slB_lh {b o n cap lo hi : Nat} {i j : Int} (hi1 : i = (lo : Int)) (hj : j = (hi : Int)) (h1 : lo ≤ hi) (h2 : hi ≤ cap) (W : World) : (Instr.slice 22 (.slice (some ⟨b, o, none⟩) n cap) (some (.int .i64 i)) (some (.int .i64 j)) none).run Tryz.prog W = .ok (.slice (some ⟨b, if cap = lo then o else o + lo, none⟩) (hi - lo) (cap - lo)) W := by
  subst hi1 hj
  rw [run_slice_lh W 22 (some ⟨b, o, none⟩) n cap Tryz.underlying22 .i64 .i64 (lo : Int) (hi : Int) (by omega) (by omega) (by omega)]
  show ((sizeOf 5).run Tryz.prog W).andThen _ = _
  rw [size5, Result.andThen_ok]
  show Result.ok (sliced (some ⟨b, o, none⟩) (lo : Int).toNat (hi : Int).toNat cap 1) W = _
  unfold sliced
  rw [Int.toNat_natCast, Int.toNat_natCast, Nat.mul_one]
  split
  · rfl
  · show Result.ok (Value.slice (some ((⟨b, o, none⟩ : Addr).add lo)) _ _) W = _
    rw [add_none]

theorem same_b {w : World} {B : Nat} {u v : Value} {a b : List Nat} (hu : RB w B u a) (hv : RB w B v b) : Calls Tryz.prog 29 #[u, v] w fun e w' => e = .returned (.bool (sameB a b)) ∧ Below w.heap.size w w' :=
  (same_any u v a b w B hu hv).mono fun _ _ ⟨h1, n, h2⟩ => ⟨h1, by rw [h2]; exact below_drewN (Below.refl _ _) n⟩

theorem BB.row512 {w : World} {g : Nat} {t : TypeId} {L : List Nat} (h : BB w g t L) (hl : L.length = 512) : RB w w.heap.size (.slice (some ⟨g, 0, none⟩) 512 512) L := by
  have h1 := h.rb (lo := 0) (m := 512) (c := 512) (by omega) (by omega) (by omega) h.size
  rw [List.drop_zero, List.take_of_length_le (by omega)] at h1
  exact h1

theorem sameB_self (l : List Nat) : sameB l l = true := by simp [sameB]

end Go.Proofs.YtbagmmncjmbboaaGreat
