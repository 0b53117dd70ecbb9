/-
  The walks of the references' helpers that make memory: Copy, Cat, Piece, Wide, Spoil, Apart.
-/
import Derived.Test.YtbagmmncjmbboaaGreatH1
namespace Go.Proofs.YtbagmmncjmbboaaGreat
open Go.RowKit
set_option linter.unusedVariables false

set_option maxHeartbeats 400000 in
theorem copy_any (v : Value) (l : List Nat) (w : World) (hv : RB w w.heap.size v l) :
    Calls Tryz.prog 80 #[v] w fun e w' => ∃ v', e = .returned v' ∧ OB w' w.heap.size v' l ∧ Below w.heap.size w w' := by
  obtain ⟨A, c, rfl, ha1, ha2, ha3, HA⟩ := hv.open_
  clear hv
  go_enter Tryz.func80, Tryz.ntmps80
  go_wp2
  go_loopw [3, 4] (fun v i wr => ∃ k : Nat, k ≤ l.length ∧ i = .int .i64 k ∧ Hid (OB wr w.heap.size v (l.take k)) ∧ Hid (Below w.heap.size w wr)) (fun v i wr => l.length - (intOf i).toNat)
  case atStart => exact ⟨0, Nat.zero_le _, rfl, OB.made w w.heap.size _ 0 (Nat.le_refl _) (by omega) rfl, (Below.refl _ _).alloc (Nat.le_refl _) _⟩
  case round =>
    obtain ⟨k, hk, rfl, HO, HB⟩ := hrel
    by_cases hlt : k < l.length
    · obtain ⟨b1, o1, rfl, hb, hx, hx2⟩ := HA.out k hlt
      have hx' := (HB.out.cell (p := ⟨b1, o1 + k, none⟩) hb).trans hx
      clear hx
      obtain ⟨x, hx0⟩ : ∃ x, x = l[k] := ⟨_, rfl⟩
      rw [← hx0] at hx' hx2
      have HX := Lib.hid hx0
      clear hx0
      go_wp2_with (at_builtin; go_must (refine wpList_app1 (w0 := w) rfl (.tmp 12) (.tmp 17) rfl w.heap.size _ _ rfl HO.out HB.out (Nat.le_refl _) _ x rfl hx2 rfl (by rw [List.length_take]; omega) ?_); intro v' w1 ho1 hb1 _; have HO1 := Lib.hid ho1; have HB1 := Lib.hid hb1; clear ho1 hb1)
      go_roundw
      case rel => exact ⟨k + 1, by omega, by go_num, by rw [List.take_succ_eq_append_getElem hlt, ← HX.out]; exact HO1, HB1⟩
      case measure => simp [intOf]; omega
    · obtain rfl : k = l.length := by omega
      rw [List.take_length] at HO
      go_wp2
      go_ret
      exact ⟨_, rfl, HO.out, HB.out⟩

set_option maxHeartbeats 1000000 in
theorem cat_any (u v : Value) (a b : List Nat) (w : World) (hu : RB w w.heap.size u a) (hv : RB w w.heap.size v b) (hlen : a.length + b.length ≤ 140737488355328) :
    Calls Tryz.prog 84 #[u, v] w fun e w' => ∃ v', e = .returned v' ∧ OB w' w.heap.size v' (a ++ b) ∧ Below w.heap.size w w' := by
  obtain ⟨A, c, rfl, ha1, ha2, ha3, HA⟩ := hu.open_
  obtain ⟨A', c', rfl, hb1, hb2, hb3, HB'⟩ := hv.open_
  clear hu hv
  go_enter Tryz.func84, Tryz.ntmps84
  go_wp2
  go_loopw [5, 6] (fun v i wr => ∃ k : Nat, k ≤ a.length ∧ i = .int .i64 k ∧ Hid (OB wr w.heap.size v (a.take k)) ∧ Hid (Below w.heap.size w wr)) (fun v i wr => a.length - (intOf i).toNat)
  case atStart => exact ⟨0, Nat.zero_le _, rfl, OB.made w w.heap.size _ 0 (Nat.le_refl _) (by omega) rfl, (Below.refl _ _).alloc (Nat.le_refl _) _⟩
  case round =>
    obtain ⟨k, hk, rfl, HO, HB⟩ := hrel
    by_cases hlt : k < a.length
    · obtain ⟨b1, o1, rfl, hb, hx, hx2⟩ := HA.out k hlt
      have hx' := (HB.out.cell (p := ⟨b1, o1 + k, none⟩) hb).trans hx
      clear hx
      obtain ⟨x, hx0⟩ : ∃ x, x = a[k] := ⟨_, rfl⟩
      rw [← hx0] at hx' hx2
      have HX := Lib.hid hx0
      clear hx0
      go_wp2_with (at_builtin; go_must (refine wpList_app1 (w0 := w) rfl (.tmp 15) (.tmp 20) rfl w.heap.size _ _ rfl HO.out HB.out (Nat.le_refl _) _ x rfl hx2 rfl (by rw [List.length_take]; omega) ?_); intro v' w1 ho1 hb1 _; have HO1 := Lib.hid ho1; have HB1 := Lib.hid hb1; clear ho1 hb1)
      go_roundw
      case rel => exact ⟨k + 1, by omega, by go_num, by rw [List.take_succ_eq_append_getElem hlt, ← HX.out]; exact HO1, HB1⟩
      case measure => simp [intOf]; omega
    · obtain rfl : k = a.length := by omega
      rw [List.take_length] at HO
      go_wp2
      go_loopw [5, 7] (fun v i wr => ∃ k : Nat, k ≤ b.length ∧ i = .int .i64 k ∧ Hid (OB wr w.heap.size v (a ++ b.take k)) ∧ Hid (Below w.heap.size w wr)) (fun v i wr => b.length - (intOf i).toNat)
      case atStart => exact ⟨0, Nat.zero_le _, rfl, by simpa using HO, HB⟩
      case round =>
        clear HO HB
        obtain ⟨k, hk, rfl, HO, HB⟩ := hrel
        by_cases hlt : k < b.length
        · obtain ⟨b1, o1, rfl, hb, hx, hx2⟩ := HB'.out k hlt
          have hx' := (HB.out.cell (p := ⟨b1, o1 + k, none⟩) hb).trans hx
          clear hx
          obtain ⟨x, hx0⟩ : ∃ x, x = b[k] := ⟨_, rfl⟩
          rw [← hx0] at hx' hx2
          have HX := Lib.hid hx0
          clear hx0
          go_wp2_with (at_builtin; go_must (refine wpList_app1 (w0 := w) rfl (.tmp 28) (.tmp 33) rfl w.heap.size _ _ rfl HO.out HB.out (Nat.le_refl _) _ x rfl hx2 rfl (by rw [List.length_append, List.length_take]; omega) ?_); intro v' w1 ho1 hb1 _; have HO1 := Lib.hid ho1; have HB1 := Lib.hid hb1; clear ho1 hb1)
          go_roundw
          case rel => exact ⟨k + 1, by omega, by go_num, by rw [List.take_succ_eq_append_getElem hlt, ← HX.out, ← List.append_assoc]; exact HO1, HB1⟩
          case measure => simp [intOf]; omega
        · obtain rfl : k = b.length := by omega
          rw [List.take_length] at HO
          go_wp2
          go_ret
          exact ⟨_, rfl, HO.out, HB.out⟩

def piece (l : List Nat) (lo hi : Nat) : List Nat := (l.take hi).drop lo

set_option maxHeartbeats 1000000 in
theorem piece_any (v : Value) (l : List Nat) (lo hi : Nat) (w : World) (hv : RB w w.heap.size v l) (hlo : lo ≤ 9223372036854775806) (hhi : hi ≤ 9223372036854775807) :
    Calls Tryz.prog 9 #[v, .int .i64 (lo : Int), .int .i64 (hi : Int)] w fun e w' => ∃ v', e = .returned v' ∧ OB w' w.heap.size v' (piece l lo hi) ∧ Below w.heap.size w w' := by
  obtain ⟨A, c, rfl, ha1, ha2, ha3, HA⟩ := hv.open_
  clear hv
  go_enter Tryz.func9, Tryz.ntmps9
  go_wp2
  go_loopw [7, 8] (fun v i wr => ∃ k : Nat, lo ≤ k ∧ k ≤ max lo (min l.length hi) ∧ i = .int .i64 k ∧ Hid (OB wr w.heap.size v ((l.take k).drop lo)) ∧ Hid (Below w.heap.size w wr)) (fun v i wr => l.length - (intOf i).toNat)
  case atStart => exact ⟨lo, Nat.le_refl _, by omega, rfl, by rw [List.drop_of_length_le (by rw [List.length_take]; omega)]; exact OB.made w w.heap.size _ 0 (Nat.le_refl _) (by omega) rfl, (Below.refl _ _).alloc (Nat.le_refl _) _⟩
  case round =>
    obtain ⟨k, hk0, hk, rfl, HO, HB⟩ := hrel
    by_cases hlt : k < l.length
    · by_cases hlt2 : k < hi
      · obtain ⟨b1, o1, rfl, hb, hx, hx2⟩ := HA.out k hlt
        have hx' := (HB.out.cell (p := ⟨b1, o1 + k, none⟩) hb).trans hx
        clear hx
        obtain ⟨x, hx0⟩ : ∃ x, x = l[k] := ⟨_, rfl⟩
        rw [← hx0] at hx' hx2
        have HX := Lib.hid hx0
        have hk2 : k + 1 ≤ max lo (min l.length hi) := by omega
        clear hx0 hk
        go_wp2_with (at_builtin; go_must (refine wpList_app1 (w0 := w) rfl (.tmp 24) (.tmp 29) rfl w.heap.size _ _ rfl HO.out HB.out (Nat.le_refl _) _ x rfl hx2 rfl (by rw [List.length_drop, List.length_take]; omega) ?_); intro v' w1 ho1 hb1 _; have HO1 := Lib.hid ho1; have HB1 := Lib.hid hb1; clear ho1 hb1)
        go_roundw
        case rel => exact ⟨k + 1, by omega, hk2, by go_num, by rw [List.take_succ_eq_append_getElem hlt, ← HX.out, List.drop_append_of_le_length (by rw [List.length_take]; omega)]; exact HO1, HB1⟩
        case measure => simp [intOf]; omega
      · have e : piece l lo hi = (l.take k).drop lo := by
          unfold piece
          by_cases h : lo ≤ hi
          · obtain rfl : k = hi := by omega
            rfl
          · rw [List.drop_of_length_le (by rw [List.length_take]; omega), List.drop_of_length_le (by rw [List.length_take]; omega)]
        rw [← e] at HO
        clear e hk
        go_wp2
        go_ret
        exact ⟨_, rfl, HO.out, HB.out⟩
    · have e : piece l lo hi = (l.take k).drop lo := by
        unfold piece
        by_cases h : lo ≤ l.length
        · by_cases h2 : l.length ≤ hi
          · rw [List.take_of_length_le h2, List.take_of_length_le (by omega)]
          · rw [List.drop_of_length_le (by rw [List.length_take]; omega), List.drop_of_length_le (by rw [List.length_take]; omega)]
        · rw [List.drop_of_length_le (by rw [List.length_take]; omega), List.drop_of_length_le (by rw [List.length_take]; omega)]
      rw [← e] at HO
      clear e hk
      go_wp2
      go_ret
      exact ⟨_, rfl, HO.out, HB.out⟩

set_option maxHeartbeats 1000000 in
theorem wide_any (v : Value) (l : List Nat) (w : World) (hv : RB w w.heap.size v l) (hlen : l.length ≤ 140737488355000) :
    Calls Tryz.prog 52 #[v] w fun e w' => ∃ v', e = .returned v' ∧ OB w' w.heap.size v' (l ++ marks) ∧ Below w.heap.size w w' := by
  have HV := Lib.hid hv
  clear hv
  go_enter Tryz.func52, Tryz.ntmps52
  go_wp2_with fail
  refine (copy_any v l w HV.out).mono ?_
  rintro e w1 ⟨v1, rfl, ho, hb⟩
  have HO := Lib.hid ho
  have HB := Lib.hid hb
  clear ho hb
  go_wp2
  go_loopw [3, 4] (fun v i wr => ∃ k : Nat, k ≤ 64 ∧ i = .int .i64 k ∧ Hid (OB wr w.heap.size v (l ++ marks.take k)) ∧ Hid (Below w.heap.size w wr)) (fun v i wr => 64 - (intOf i).toNat)
  case atStart => exact ⟨0, Nat.zero_le _, rfl, by simpa using HO, HB⟩
  case round =>
    clear HO HB
    obtain ⟨k, hk, rfl, HO, HB⟩ := hrel
    by_cases hlt : k < 64
    · have hm : l ++ marks.take (k + 1) = l ++ marks.take k ++ [208 + k % 9] := by
        rw [List.take_succ_eq_append_getElem (by simpa [marks] using hlt), marks_at k hlt, List.append_assoc]
      have HM := Lib.hid hm
      clear hm
      go_wp2_with (at_builtin; go_must (refine wpList_app1 (w0 := w) rfl (.tmp 11) (.tmp 16) rfl w.heap.size _ _ rfl HO.out HB.out (Nat.le_refl _) _ (208 + k % 9) (by omega) (by omega) rfl (by rw [List.length_append, List.length_take]; omega) ?_); intro v' w1 ho1 hb1 _; have HO1 := Lib.hid ho1; have HB1 := Lib.hid hb1; clear ho1 hb1)
      go_roundw
      case rel => exact ⟨k + 1, by omega, by go_num, by rw [HM.out]; exact HO1, HB1⟩
      case measure => simp [intOf]; omega
    · obtain rfl : k = 64 := by omega
      have hm : l ++ marks.take 64 = l ++ marks := by rw [List.take_of_length_le (by simp [marks])]
      rw [hm] at HO
      clear hm
      go_wp2
      go_ret
      exact ⟨_, rfl, HO.out, HB.out⟩
end Go.Proofs.YtbagmmncjmbboaaGreat
