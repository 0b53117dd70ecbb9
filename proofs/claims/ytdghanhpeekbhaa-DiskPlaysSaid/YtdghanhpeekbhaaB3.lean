/-
  The walk of skeinref07's fate.
-/
import Derived.Test.YtdghanhpeekbhaaB2
import Derived.BigQuiet
namespace Go.Proofs.Ytdghanhpeekbhaa
open Go.RowKit Go.Maps
set_option linter.unusedVariables false

def goodFate (f : Int × Int) (st : Nat) : Prop := f.1 = (st : Int) ∧ 1 ≤ f.2 ∧ f.2 ≤ 3
theorem firstFate_cons (f : Int × Int) (r : List (Int × Int)) (st : Nat) : firstFate (f :: r) (st : Int) = if f.1 = (st : Int) ∧ 1 ≤ f.2 ∧ f.2 ≤ 3 then f.2 else firstFate r (st : Int) := rfl
set_option maxHeartbeats 2000000 in
theorem refFate_any (w : World) (A : Option Addr) (n c : Nat) (P : Option Addr) (pn pc st : Nat) (off : Bool) (fs : List (Int × Int)) (h : RF w w.heap.size (.slice P pn pc) fs) :
    Calls Try.prog 77 #[dkV A n c P pn pc st off] w fun e w' => e = .returned (.int .i64 (firstFate fs (st : Int))) ∧ Below w.heap.size w w' := by
  obtain ⟨A', c', e, hc1, hc2, hc3, HC⟩ := h.open_
  injection e with e1 e2 e3
  subst e1 e3
  have HN := Lib.hid e2
  obtain ⟨W0, hW0⟩ : ∃ W0, W0 = w.alloc (.cells #[.slice A n c, .slice P pn pc, .int .i64 (st : Int), .bool off] 46) := ⟨_, rfl⟩
  have hb0 : Below w.heap.size w W0 := by rw [hW0]; exact (Below.refl _ _).alloc (Nat.le_refl _) _
  have hB0 : Blk W0 w.heap.size 46 #[.slice A n c, .slice P pn pc, .int .i64 (st : Int), .bool off] := by rw [hW0]; exact Blk.new _ _ _
  have HB0 := Lib.hid hb0
  have HBL := Lib.hid hB0
  have HW0 := Lib.hid hW0
  obtain ⟨q, hq⟩ : ∃ q, q = firstFate fs (st : Int) := ⟨_, rfl⟩
  rw [← hq]
  have HQ : Hid (firstFate (fs.drop 0) (st : Int) = q) := Lib.hid hq.symm
  have hpn : pn ≤ 140737488355328 := by omega
  unfold dkV
  clear h hW0 hb0 hB0 hq e2 hc3
  go_enter Try.func77, Try.ntmps77
  go_wp2_with fail
  rw [← HW0.out]
  go_loopw [3] (fun i wr => ∃ k : Nat, k ≤ pn ∧ i = .int .i64 (k : Int) ∧ Hid (firstFate (fs.drop k) (st : Int) = q) ∧ Hid (Blk wr w.heap.size 46 #[.slice A n c, .slice P pn pc, .int .i64 (st : Int), .bool off]) ∧ Hid (Below w.heap.size w wr)) (fun i wr => pn - (intOf i).toNat)
  case atStart => exact ⟨0, Nat.zero_le _, rfl, HQ, HBL, HB0⟩
  case round =>
    obtain ⟨k, hk, rfl, HT, HL, HB⟩ := hrel
    have d1 : wr.cell? ⟨w.heap.size, 1, none⟩ = some (.slice P pn pc) := HL.out.cell 1
    have d2 : wr.cell? ⟨w.heap.size, 2, none⟩ = some (.int .i64 (st : Int)) := HL.out.cell 2
    by_cases hlt : k < pn
    · obtain ⟨b, o, rfl, hb, hx⟩ := HC.out k (by have := HN.out; omega)
      obtain ⟨x0, x1⟩ := cellF hx
      obtain ⟨⟨f1, f2⟩, hy⟩ : ∃ y, y = fs[k]'(by have := HN.out; omega) := ⟨_, rfl⟩
      rw [← hy] at x0 x1
      have y0 : wr.cell? ⟨b, o + k * 2, none⟩ = some (.int .i64 f1) := (HB.out.cell (p := ⟨b, o + k * 2, none⟩) hb).trans x0
      have y1 : wr.cell? ⟨b, o + k * 2 + 1, none⟩ = some (.int .i64 f2) := (HB.out.cell (p := ⟨b, o + k * 2 + 1, none⟩) hb).trans x1
      have HD : Hid (q = if f1 = (st : Int) ∧ 1 ≤ f2 ∧ f2 ≤ 3 then f2 else firstFate (fs.drop (k + 1)) (st : Int)) := by
        show _ = _
        rw [← HT.out, List.drop_eq_getElem_cons (by have := HN.out; omega), ← hy]; rfl
      clear hy hx x0 x1
      by_cases g1 : f1 = (st : Int)
      · have e1 : (f1 == (st : Int)) = true := by simpa using g1
        by_cases g2 : 1 ≤ f2
        · have e2 : decide (1 ≤ f2) = true := by simpa using g2
          by_cases g3 : f2 ≤ 3
          · have e3 : decide (f2 ≤ 3) = true := by simpa using g3
            have HF : Hid (q = f2) := by show _ = _; rw [HD.out, if_pos ⟨g1, g2, g3⟩]
            clear HD HT
            go_wp2_with fail
            go_quiet (fail)
            go_wp2_with fail
            go_ret
            exact ⟨by rw [HF.out]; rfl, below_drewN HB.out _⟩
          · have e3 : decide (f2 ≤ 3) = false := by simpa using g3
            have HF : Hid (firstFate (fs.drop (k + 1)) (st : Int) = q) := by show _ = _; rw [HD.out, if_neg (fun h => g3 h.2.2)]
            clear HD HT
            go_wp2_with fail
            go_quiet (fail)
            go_wp2_with fail
            go_roundw
            case rel => exact ⟨k + 1, by omega, by go_num, HF, Lib.hid HL.out, Lib.hid (below_drewN HB.out _)⟩
            case measure => simp [intOf]; omega
        · have e2 : decide (1 ≤ f2) = false := by simpa using g2
          have HF : Hid (firstFate (fs.drop (k + 1)) (st : Int) = q) := by show _ = _; rw [HD.out, if_neg (fun h => g2 h.2.1)]
          clear HD HT
          go_wp2_with fail
          go_quiet (fail)
          go_wp2_with fail
          go_roundw
          case rel => exact ⟨k + 1, by omega, by go_num, HF, Lib.hid HL.out, Lib.hid (below_drewN HB.out _)⟩
          case measure => simp [intOf]; omega
      · have e1 : (f1 == (st : Int)) = false := by simpa using g1
        have HF : Hid (firstFate (fs.drop (k + 1)) (st : Int) = q) := by show _ = _; rw [HD.out, if_neg (fun h => g1 h.1)]
        clear HD HT
        go_wp2_with fail
        go_quiet (fail)
        go_wp2_with fail
        go_roundw
        case rel => exact ⟨k + 1, by omega, by go_num, HF, Lib.hid HL.out, Lib.hid (below_drewN HB.out _)⟩
        case measure => simp [intOf]; omega
    · obtain rfl : k = pn := by omega
      have HF : Hid (q = 0) := by
        show _ = _
        rw [← HT.out, HN.out, List.drop_length]; rfl
      clear HT
      go_wp2_with fail
      go_ret
      exact ⟨by rw [HF.out]; rfl, HB.out⟩
end Go.Proofs.Ytdghanhpeekbhaa
