/-
  The walk of skeinref05.With.
-/
import Derived.Test.YtlakcldgolpaiaaZEL8
import Derived.Test.YtlakcldgolpaiaaAP
namespace Go.Proofs.Ytlakcldgolpaiaa
open Go.RowKit
set_option linter.unusedVariables false

/-- A number put into a list ahead of the first that is greater. -/
def insI (n : Int) : List Int → List Int
  | [] => [n]
  | x :: r => if n < x then n :: x :: r else x :: insI n r

theorem insI_cons (n x : Int) (r : List Int) : insI n (x :: r) = if n < x then n :: x :: r else x :: insI n r := rfl

def WitRel (w : World) (V : List Int) (x : Int) (n : Nat) (t d i : Value) (wr : World) : Prop :=
  ∃ (k : Nat) (q : Bool) (O : List Int), k ≤ n ∧ O.length ≤ 2 * k ∧ i = .int .i64 k ∧ d = .bool q ∧ Below w.heap.size w wr ∧ OK encI 1 3 wr w.heap.size t O ∧ O ++ (if q then V.drop k else insI x (V.drop k)) = insI x V
set_option maxRecDepth 100000 in
set_option maxHeartbeats 4000000 in
theorem With_any (v : Value) (V : List Int) (x : Int) (w : World) (B : Nat) (hv : RI w B v V) (hB : B ≤ w.heap.size) (hlen : V.length ≤ 100000) :
    Calls Try.prog 22 #[v, .int .i64 x] w fun e w' => ∃ v', e = .returned v' ∧ OK encI 1 3 w' w.heap.size v' (insI x V) ∧ Below w.heap.size w w' := by
  obtain ⟨A, c, rfl, hc1, hc2, hc3, HC⟩ := hv.open_
  clear hv
  obtain ⟨n, hn⟩ : ∃ n, n = V.length := ⟨_, rfl⟩
  rw [← hn] at hc1 hc3 hlen ⊢
  have HN := Lib.hid hn
  clear hn
  go_enter Try.func22, Try.ntmps22
  go_wp2
  go_loopw [5, 6, 7] (fun t d i wr => WitRel w V x n t d i wr) (fun _ _ i wr => n - (intOf i).toNat)
  case atStart =>
    refine ⟨0, false, [], Nat.zero_le _, by simp, rfl, rfl, (Below.refl _ _).alloc (Nat.le_refl _) _, ?_, rfl⟩
    exact ⟨by simp, World.ownsRow_lit w #[] 0 (by omega) (by decide) rfl⟩
  case round =>
    obtain ⟨k, q, O, hk, hol, rfl, rfl, hbel, ho, hins⟩ := hrel
    have HB := Lib.hid hbel
    have HO := Lib.hid ho
    have HI := Lib.hid hins
    have hz := hbel.size
    by_cases hlt : k < n
    · obtain ⟨b, o, rfl, hb, hx⟩ := HC.out k (by have := HN.out; omega)
      obtain ⟨y, hy⟩ : ∃ y, y = V[k]'(by have := HN.out; omega) := ⟨_, rfl⟩
      have hT : V.drop k = y :: V.drop (k + 1) := by rw [List.drop_eq_getElem_cons (by have := HN.out; omega), ← hy]
      rw [← hy] at hx
      have hx := cellI hx
      have HT := Lib.hid hT
      have HX0 := Lib.hid hx
      have hx := (hbel.cell (p := ⟨b, o + k, none⟩) (by show b < _; omega)).trans hx
      have HLo := Lib.hid HO.out.lt
      have hxy : (decide (x < y)) = (decide (x < y)) := rfl
      have HL := Lib.hid hol
      clear hy hT hbel ho hins hxy
      cases q with
      | true =>
        go_wp2_with (at_builtin; refine wpList_appE etInts encI_len encI_one (y := y) rfl (.tmp 29) (.tmp 34) rfl rfl (OK.alloc (w := wr) HO.out _) wr.heap.size rfl (oneI wr y _) (by have := HL.out; simp; omega) (by simp; omega) ?_; intro v5 w5 ho5 hg5 hb5; have HO5 := Lib.hid ho5; have HG5 := Lib.hid hg5; clear ho5 hg5 hb5)
        go_roundw
        case measure => simp [intOf]; omega
        case rel =>
          refine ⟨k + 1, true, O ++ [y], by omega, by simp; omega, by go_num, rfl, Below.grown (Below.alloc HB.out (by omega) _) HG5.out (by simp; omega) (fun q hq => (HLo.out q hq).1), HO5.out, ?_⟩
          have := HI.out
          rw [if_pos rfl, HT.out] at this
          rw [if_pos rfl, List.append_assoc]; exact this
      | false =>
        by_cases hxy : x < y
        · have hd := decide_eq_true hxy
          have HXY := Lib.hid hxy
          go_wp2_with (first | (at_builtin; refine wpList_appE etInts encI_len encI_one (y := x) rfl (.tmp 25) (.tmp 27) rfl rfl (OK.alloc (w := wr) HO.out _) wr.heap.size rfl (oneI wr x _) (by have := HL.out; simp; omega) (by simp; omega) ?_; intro v5 w5 ho5 hg5 hb5; have HO5 := Lib.hid ho5; have HG5 := Lib.hid hg5; clear ho5 hg5 hb5; have HB5 := Lib.hid (Below.grown (Below.alloc HB.out (by omega) _) HG5.out (by simp; omega) (fun q hq => (HLo.out q hq).1)); have hx := (HB5.out.cell (p := ⟨b, o + k, none⟩) (by show b < _; omega)).trans HX0.out; have HLo5 := Lib.hid HO5.out.lt; have hz5 := HB5.out.size) | (at_builtin; refine wpList_appE etInts encI_len encI_one (y := y) rfl (.tmp 29) (.tmp 34) rfl rfl (OK.alloc (w := w5) HO5.out _) w5.heap.size rfl (oneI w5 y _) (by have := HL.out; simp; omega) (by simp; omega) ?_; intro v6 w6 ho6 hg6 hb6; have HO6 := Lib.hid ho6; have HG6 := Lib.hid hg6; clear ho6 hg6 hb6))
          go_roundw
          case measure => simp [intOf]; omega
          case rel =>
            refine ⟨k + 1, true, O ++ [x] ++ [y], by omega, by simp; omega, by go_num, rfl, Below.grown (Below.alloc HB5.out (by omega) _) HG6.out (by simp; omega) (fun q hq => (HLo5.out q hq).1), HO6.out, ?_⟩
            have := HI.out
            rw [if_neg (by decide), HT.out] at this
            rw [insI_cons, if_pos HXY.out] at this
            rw [if_pos rfl, List.append_assoc, List.append_assoc]; exact this
        · have hd := decide_eq_false hxy
          have HXY := Lib.hid hxy
          go_wp2_with (at_builtin; refine wpList_appE etInts encI_len encI_one (y := y) rfl (.tmp 29) (.tmp 34) rfl rfl (OK.alloc (w := wr) HO.out _) wr.heap.size rfl (oneI wr y _) (by have := HL.out; simp; omega) (by simp; omega) ?_; intro v5 w5 ho5 hg5 hb5; have HO5 := Lib.hid ho5; have HG5 := Lib.hid hg5; clear ho5 hg5 hb5)
          go_roundw
          case measure => simp [intOf]; omega
          case rel =>
            refine ⟨k + 1, false, O ++ [y], by omega, by simp; omega, by go_num, rfl, Below.grown (Below.alloc HB.out (by omega) _) HG5.out (by simp; omega) (fun q hq => (HLo.out q hq).1), HO5.out, ?_⟩
            have := HI.out
            rw [if_neg (by decide), HT.out] at this
            rw [insI_cons, if_neg HXY.out] at this
            rw [if_neg (by decide), List.append_assoc]; exact this
    · obtain rfl : k = n := by omega
      have HL := Lib.hid hol
      have HLo := Lib.hid HO.out.lt
      clear hbel ho hins
      cases q with
      | true =>
        have HF : Hid (O = insI x V) := by
          have := HI.out
          rw [if_pos rfl, HN.out, List.drop_length, List.append_nil] at this
          exact this
        obtain ⟨At, ct, rfl, -, -, -, -⟩ := (HO.out.rk encI_len (Nat.le_refl _)).open_
        go_wp2
        go_ret
        exact ⟨_, rfl, by rw [← HF.out]; exact HO.out, HB.out⟩
      | false =>
        have HF : Hid (O ++ [x] = insI x V) := by
          have := HI.out
          rw [if_neg (by decide), HN.out, List.drop_length] at this
          exact this
        go_wp2_with (at_builtin; refine wpList_appE etInts encI_len encI_one (y := x) rfl (.tmp 38) (.tmp 40) rfl rfl (OK.alloc (w := wr) HO.out _) wr.heap.size rfl (oneI wr x _) (by have := HL.out; omega) (by simp; omega) ?_; intro v5 w5 ho5 hg5 hb5; have HO5 := Lib.hid ho5; have HG5 := Lib.hid hg5; clear ho5 hg5 hb5)
        go_ret
        exact ⟨_, rfl, by rw [← HF.out]; exact HO5.out, Below.grown (Below.alloc HB.out (by omega) _) HG5.out (by simp; omega) (fun q hq => (HLo.out q hq).1)⟩
end Go.Proofs.Ytlakcldgolpaiaa
