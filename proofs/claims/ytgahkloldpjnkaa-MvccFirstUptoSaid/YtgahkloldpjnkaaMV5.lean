/-
  The walks of Start and Horizon.
-/
import Derived.Test.YtgahkloldpjnkaaMV4
namespace Go.Proofs.Ytgahkloldpjnkaa
open Go.RowKit Go.Maps
set_option linter.unusedVariables false

theorem Start_none (w : World) (g lb cb : Nat) (bl : Int → Nat) (M : MV) (h : MvAt w g lb cb bl M) (n : Int) (hn : I64 n) (hl : M.live? n = none) :
    Calls Try.prog 20 #[.pointer (some ⟨g, 0, none⟩), .int .i64 n] w fun e w' => e = .returned (.tuple #[.int .i64 0, .int .i64 141]) ∧ Below w.heap.size w w' := by
  have a2 : w.cell? ⟨g, 2, none⟩ = some (.map (some lb)) := h.blk.cell 2
  have hM := h.live
  have hv : ((M.live? n).map fun x => txV x.start (bl n)).getD (.agg #[.int .i64 0, .map none]) = .agg #[.int .i64 0, .map none] := by rw [hl]; rfl
  have hs : ((M.live? n).map fun x => txV x.start (bl n)).isSome = false := by rw [hl]; rfl
  have HM := Lib.hid hM
  have HV := Lib.hid hv
  have HS := Lib.hid hs
  clear h hM hv hs hl
  go_enter Try.func20, Try.ntmps20
  go_wp2_with (at_lookup; refine wpList_lookG (X := kI) rfl _ _ _ rfl _ Try.underlying57 (zeroT _) pT_zero lb 8 rfl HM.out n rfl hn _ _ HV.out HS.out ?_)
  go_ret2
  exact ⟨rfl, (Below.refl _ _).alloc (Nat.le_refl _) _⟩

theorem Start_some (w : World) (g lb cb : Nat) (bl : Int → Nat) (M : MV) (h : MvAt w g lb cb bl M) (n : Int) (hn : I64 n) (x : Tx) (hl : M.live? n = some x) :
    Calls Try.prog 20 #[.pointer (some ⟨g, 0, none⟩), .int .i64 n] w fun e w' => e = .returned (.tuple #[.int .i64 x.start, .int .i64 0]) ∧ Below w.heap.size w w' := by
  have a2 : w.cell? ⟨g, 2, none⟩ = some (.map (some lb)) := h.blk.cell 2
  have hM := h.live
  have hv : ((M.live? n).map fun x => txV x.start (bl n)).getD (.agg #[.int .i64 0, .map none]) = .agg #[.int .i64 x.start, .map (some (bl n))] := by rw [hl]; rfl
  have hs : ((M.live? n).map fun x => txV x.start (bl n)).isSome = true := by rw [hl]; rfl
  have HM := Lib.hid hM
  have HV := Lib.hid hv
  have HS := Lib.hid hs
  clear h hM hv hs hl
  go_enter Try.func20, Try.ntmps20
  go_wp2_with (at_lookup; refine wpList_lookG (X := kI) rfl _ _ _ rfl _ Try.underlying57 (zeroT _) pT_zero lb 8 rfl HM.out n rfl hn _ _ HV.out HS.out ?_)
  go_ret2
  exact ⟨rfl, (Below.refl _ _).alloc (Nat.le_refl _) _⟩

/-- What Horizon has found so far. -/
def HorSoFar (M : MV) (left : Int → Bool) (h : Int) : Prop :=
  h ≤ M.last ∧ -9223372036854775808 ≤ h ∧ (∀ n x, M.live? n = some x → left n = false → h ≤ x.start) ∧ (h = M.last ∨ ∃ n x, M.live? n = some x ∧ h = x.start)

theorem invT (v : Value) (h : pT v) : ∃ c : Int × Option Nat, v = .agg #[.int .i64 c.1, .map c.2] := h

theorem Horizon_any (w : World) (g lb cb : Nat) (bl : Int → Nat) (M : MV) (h : MvAt w g lb cb bl M) :
    Calls Try.prog 14 #[.pointer (some ⟨g, 0, none⟩)] w fun e w' => e = .returned (.int .i64 M.hor) ∧ Below w.heap.size w w' := by
  have a0 : w.cell? ⟨g, 0, none⟩ = some (.int .i64 M.last) := h.blk.cell 0
  have a2 : w.cell? ⟨g, 2, none⟩ = some (.map (some lb)) := h.blk.cell 2
  have hlt := h.live.lt
  have hok := h.ok
  have HM := Lib.hid h.live
  have HOK := Lib.hid hok
  clear h hok
  go_enter Try.func14, Try.ntmps14
  go_wp2_with (at_range; refine wpList_rangeG (X := kI) rfl _ _ rfl _ Try.underlying57 lb 8 rfl HM.out ?_; intro w0 cnt0 hrg0 hcl0 hg0 hs0)
  try go_frame
  have HR0 := Lib.hid hrg0
  have HG0 : Hid (Below w.heap.size w w0) := Lib.hid (below_grownBy hg0 (Nat.le_refl _) (by simp))
  clear hrg0 hg0 hcl0
  go_loopw [3] (fun t wr => ∃ (q : Int) (left : Int → Bool) (cnt : Nat), t = .int .i64 q ∧ Hid (RangeG kI pT wr lb w.heap.size 8 (fun n : Int => (M.live? n).map fun x => txV x.start (bl n)) left cnt) ∧ Hid (HorSoFar M left q) ∧ Hid (Below w.heap.size w wr)) (fun _ wr => wr.rangeLeft lb w.heap.size)
  case atStart => exact ⟨M.last, _, cnt0, rfl, HR0, Lib.hid ⟨by omega, by have := HOK.out.last; omega, (fun n x hx hl => by dsimp only at hl; rw [hx] at hl; cases hl), .inl rfl⟩, HG0⟩
  case round =>
    obtain ⟨q, left, cnt, rfl, HR, HQ, HB⟩ := hrel
    go_wp2_with (at_next; refine wpList_nextG (X := kI) rfl _ rfl (fun c : Int × Option Nat => .agg #[.int .i64 c.1, .map c.2]) invT lb w.heap.size 8 left cnt rfl HR.out ?_ ?_)
    · intro hdone
      have e : q = M.hor := by
        obtain ⟨h1, h2, h3, h4⟩ := HQ.out
        exact hor_unique h1 (fun n x hx => h3 n x hx (hdone n (live_64 HOK.out hx).1 (live_64 HOK.out hx).2)) h4
      have HE := Lib.hid e
      clear e hdone
      go_wp2
      go_ret
      exact ⟨by rw [HE.out]; rfl, HB.out⟩
    · intro k c m w1 cnt1 hnx hrg1 hlt1 hg1 hs1 hen
      have HR1 := Lib.hid hrg1
      have HNX := Lib.hid hnx
      have HB1 : Hid (Below w.heap.size w w1) := Lib.hid (HB.out.grown hg1 HB.out.size (fun _ h => by injection h with h; omega))
      clear hrg1 hnx
      have hz1 := HB1.out.size
      go_wp2
      go_roundw
      case rel =>
        refine ⟨_, _, cnt1, rfl, Lib.hid (HR1.out.mod ((Mod.refl (fun _ => False) _).alloc _) id id), ?_, Lib.hid (HB1.out.alloc hz1 _)⟩
        obtain ⟨h1, h2, h3, h4⟩ := HQ.out
        obtain ⟨o1, o2, o3, o4⟩ := HNX.out
        cases hk : M.live? k with
        | none => rw [hk] at o3; cases o3
        | some y =>
          rw [hk] at o3
          simp only [Option.map_some, Option.some.injEq, txV, Value.agg.injEq] at o3
          have o5 := congrArg Array.toList o3
          simp at o5
          obtain ⟨rfl, rfl⟩ := o5
          have hy := HOK.out.tx y (live_mem hk)
          refine Lib.hid ⟨by split <;> omega, by split <;> omega, fun n x hx hl => ?_, ?_⟩
          · simp only [Bool.and_eq_false_iff, Bool.not_eq_false', decide_eq_true_eq] at hl
            rcases hl with hl | rfl
            · have := h3 n x hx hl; split <;> omega
            · rw [hk] at hx; injection hx with hx; subst hx; split <;> omega
          · by_cases hc : y.start < q
            · rw [if_pos hc]; exact .inr ⟨k, y, hk, rfl⟩
            · rw [if_neg hc]; exact h4
      case measure => rw [(HR1.out.mod ((Mod.refl (fun _ => False) _).alloc _) id id).left_eq, HR.out.left_eq]; omega

end Go.Proofs.Ytgahkloldpjnkaa
