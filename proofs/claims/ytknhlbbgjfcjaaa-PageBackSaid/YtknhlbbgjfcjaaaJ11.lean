/-
  The walks of skeinref08's Insert, Remove and Replace at a page without items.
-/
import Derived.Test.YtknhlbbgjfcjaaaJ10
namespace Go.Proofs.Ytknhlbbgjfcjaaa
open Go.RowKit Go.Maps
set_option linter.unusedVariables false

theorem ret_pg8 {fn : Func} {q r : Tmp} {a : Act} {w : World} {post : Ending → World → Prop} {b : Nat} {v0 v1 v2 v3 u : Value} (hr : fn.results = #[.cell q 49, .tmp r]) (hp : a.tmps.getD q undef = .pointer (some ⟨b, 0, none⟩)) (hu : a.tmps.getD r undef = u)
    (hB : Blk w b 49 #[v0, v1, v2, v3]) (hd : a.defers = []) (h : post (.returned (.tuple #[.agg #[v0, v1, v2, v3], u])) w) : bodyPost Try.prog fn post .ret a w := by
  refine bodyPost_ret (v := .tuple #[.agg #[v0, v1, v2, v3], u]) ?_ hd h
  have hp' : a.tmps[q]?.getD undef = .pointer (some ⟨b, 0, none⟩) := by simpa using hp
  have hu' : a.tmps[r]?.getD undef = u := by simpa using hu
  have e0 : w.cell? ⟨b, 0, none⟩ = some v0 := hB.cell 0
  have e1 : w.cell? ⟨b, 1, none⟩ = some v1 := hB.cell 1
  have e2 : w.cell? ⟨b, 2, none⟩ = some v2 := hB.cell 2
  have e3 : w.cell? ⟨b, 3, none⟩ = some v3 := hB.cell 3
  simp only [results, hr]
  go_simp
/-- skeinref08's page, its numbers 0. -/
def refP (A : Option Addr) (n c : Nat) : Value := .agg #[.int .i64 0, .int .u8 0, .int .u32 0, .slice A n c]
theorem refUsed_any (w : World) : Calls Try.prog 132 #[refP none 0 0] w fun e w' => e = .returned (.int .i64 18) ∧ Below w.heap.size w w' := by
  unfold refP
  go_enter Try.func132, Try.ntmps132
  go_wp2
  go_loopw [3, 4] (fun x i wr => x = .int .i64 18 ∧ i = .int .i64 0 ∧ wr = w.alloc (.cells #[.int .i64 0, .int .u8 0, .int .u32 0, .slice none 0 0] 49)) (fun _ _ _ => 0)
  case atStart => exact ⟨rfl, rfl, rfl⟩
  case round =>
    obtain ⟨rfl, rfl, rfl⟩ := hrel
    go_wp2
    go_ret
    exact ⟨rfl, (Below.refl _ _).alloc (Nat.le_refl _) _⟩
theorem refRoom_any (w : World) : Calls Try.prog 88 #[refP none 0 0] w fun e w' => e = .returned (.int .i64 200) ∧ Below w.heap.size w w' := by
  unfold refP
  go_enter Try.func88, Try.ntmps88
  go_wp2_with fail
  have hb := Blk.new w 49 #[.int .i64 0, .int .u8 0, .int .u32 0, .slice none 0 0]
  have hl := hb.lt
  refine (refUsed_any _).mono ?_
  rintro e w1 ⟨rfl, hb1⟩
  have c3 : w1.cell? ⟨w.heap.size, 3, none⟩ = some (.slice none 0 0) := (hb.below hb1 hl).cell 3
  have HB : Hid (Below w.heap.size w w1) := ((Below.refl _ w).alloc (Nat.le_refl _) _).trans (hb1.mono (by simp))
  clear hb1 hb hl
  go_wp2
  go_ret
  exact ⟨rfl, HB.out⟩
set_option maxHeartbeats 1000000 in
theorem refRemove_any (w : World) (i : Int) : Calls Try.prog 93 #[refP none 0 0, .int .i64 i] w fun e w' => e = .returned (.tuple #[refP none 0 0, .int .i64 82]) ∧ Below w.heap.size w w' := by
  unfold refP
  by_cases hi : i < 0
  · go_enter Try.func93, Try.ntmps93
    go_wp2
    refine bodyPost_ret (v := .tuple #[.agg #[.int .i64 0, .int .u8 0, .int .u32 0, .slice none 0 0], .int .i64 82]) (by simp [results, Try.results93, go_sem]; try rfl) rfl ⟨rfl, ?_⟩
    go_grown
  · have hi2 : ¬ i < 0 := hi
    have hi3 : decide (i < 0) = false := by simpa using hi
    have hi4 : 0 ≤ i := by omega
    go_enter Try.func93, Try.ntmps93
    go_wp2
    refine bodyPost_ret (v := .tuple #[.agg #[.int .i64 0, .int .u8 0, .int .u32 0, .slice none 0 0], .int .i64 82]) (by simp [results, Try.results93, go_sem]; try rfl) rfl ⟨rfl, ?_⟩
    go_grown
theorem refReplace_any (w : World) (i : Int) (iv : Value) : Calls Try.prog 92 #[refP none 0 0, .int .i64 i, iv] w fun e w' => e = .returned (.tuple #[refP none 0 0, .int .i64 82]) ∧ Below w.heap.size w w' := by
  unfold refP
  go_enter Try.func92, Try.ntmps92
  go_wp2_with fail
  have hb1 := (Blk.new w 49 #[.int .i64 0, .int .u8 0, .int .u32 0, .slice none 0 0]).alloc (.cells #[.int .i64 0, .int .u8 0, .int .u32 0, .slice none 0 0] 49)
  have hb2 := Blk.new (w.alloc (.cells #[.int .i64 0, .int .u8 0, .int .u32 0, .slice none 0 0] 49)) 49 #[.int .i64 0, .int .u8 0, .int .u32 0, .slice none 0 0]
  rw [size_alloc_] at hb2
  have hww : Below w.heap.size w ((w.alloc (.cells #[.int .i64 0, .int .u8 0, .int .u32 0, .slice none 0 0] 49)).alloc (.cells #[.int .i64 0, .int .u8 0, .int .u32 0, .slice none 0 0] 49)) := ((Below.refl _ w).alloc (Nat.le_refl _) _).alloc (by simp) _
  have hr := refRemove_any ((w.alloc (.cells #[.int .i64 0, .int .u8 0, .int .u32 0, .slice none 0 0] 49)).alloc (.cells #[.int .i64 0, .int .u8 0, .int .u32 0, .slice none 0 0] 49)) i
  unfold refP at hr
  refine hr.mono ?_
  rintro e w1 ⟨rfl, hb⟩
  have k1 := (hb1.below hb hb1.lt).alloc (.cells #[.int .i64 0, .int .u8 0, .int .u32 0, .slice none 0 0] 49)
  have k2 := (hb2.below hb hb2.lt).alloc (.cells #[.int .i64 0, .int .u8 0, .int .u32 0, .slice none 0 0] 49)
  have HB : Hid (Below w.heap.size w w1) := hww.trans (hb.mono (by simp; omega))
  have c0 : (w1.alloc (.cells #[.int .i64 0, .int .u8 0, .int .u32 0, .slice none 0 0] 49)).cell? ⟨w.heap.size, 0, none⟩ = some (.int .i64 0) := k1.cell 0
  have c1 : (w1.alloc (.cells #[.int .i64 0, .int .u8 0, .int .u32 0, .slice none 0 0] 49)).cell? ⟨w.heap.size, 1, none⟩ = some (.int .u8 0) := k1.cell 1
  have c2 : (w1.alloc (.cells #[.int .i64 0, .int .u8 0, .int .u32 0, .slice none 0 0] 49)).cell? ⟨w.heap.size, 2, none⟩ = some (.int .u32 0) := k1.cell 2
  have c3 : (w1.alloc (.cells #[.int .i64 0, .int .u8 0, .int .u32 0, .slice none 0 0] 49)).cell? ⟨w.heap.size, 3, none⟩ = some (.slice none 0 0) := k1.cell 3
  have d0 : (w1.alloc (.cells #[.int .i64 0, .int .u8 0, .int .u32 0, .slice none 0 0] 49)).cell? ⟨w.heap.size + 1, 0, none⟩ = some (.int .i64 0) := k2.cell 0
  have d1 : (w1.alloc (.cells #[.int .i64 0, .int .u8 0, .int .u32 0, .slice none 0 0] 49)).cell? ⟨w.heap.size + 1, 1, none⟩ = some (.int .u8 0) := k2.cell 1
  have d2 : (w1.alloc (.cells #[.int .i64 0, .int .u8 0, .int .u32 0, .slice none 0 0] 49)).cell? ⟨w.heap.size + 1, 2, none⟩ = some (.int .u32 0) := k2.cell 2
  have d3 : (w1.alloc (.cells #[.int .i64 0, .int .u8 0, .int .u32 0, .slice none 0 0] 49)).cell? ⟨w.heap.size + 1, 3, none⟩ = some (.slice none 0 0) := k2.cell 3
  have f0 := k2.frozen 0
  have f1 := k2.frozen 1
  have f2 := k2.frozen 2
  have f3 := k2.frozen 3
  have hz := k2.lt
  have hk5 := (((k2.set_ 0 (.int .i64 0)).set_ 1 (.int .u8 0)).set_ 2 (.int .u32 0)).set_ 3 (.slice none 0 0)
  have HK5 := Lib.hid hk5
  clear hb1 hb2 hww hr hb k1 k2 hk5
  go_wp2
  refine ret_pg8 Try.results92 rfl rfl HK5.out rfl ⟨rfl, ?_⟩
  exact ((((HB.out.alloc HB.out.size _).setCell (p := ⟨w.heap.size + 1, 0, none⟩) (Nat.le_succ _) _).setCell (p := ⟨w.heap.size + 1, 1, none⟩) (Nat.le_succ _) _).setCell (p := ⟨w.heap.size + 1, 2, none⟩) (Nat.le_succ _) _).setCell (p := ⟨w.heap.size + 1, 3, none⟩) (Nat.le_succ _) _
end Go.Proofs.Ytknhlbbgjfcjaaa
