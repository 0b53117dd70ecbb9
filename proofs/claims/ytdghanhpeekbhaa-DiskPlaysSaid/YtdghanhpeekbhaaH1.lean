/-
  The walks of the references' helpers that only read: Same, Turned, Intact.
-/
import Derived.Test.YtdghanhpeekbhaaBase
import Derived.WalkSpells
import Derived.WalkLawsBesides
import Derived.Lib.Hide
import Derived.Deep.QuietTactic
import Derived.BigQuiet
namespace Go.Proofs.Ytdghanhpeekbhaa
open Go.RowKit
set_option linter.unusedVariables false

/-- Have two lists the same numbers? (Not reducible: the walk leaves it alone.) -/
def sameB (a b : List Nat) : Bool := decide (a = b)

set_option maxHeartbeats 400000 in
theorem same_any (u v : Value) (a b : List Nat) (w : World) (B : Nat) (hu : RB w B u a) (hv : RB w B v b) :
    Calls Try.prog 12 #[u, v] w fun e w' => e = .returned (.bool (sameB a b)) ∧ ∃ n, w' = w.drewN n := by
  obtain ⟨A, c, rfl, ha1, ha2, ha3, HA⟩ := hu.open_
  obtain ⟨A', c', rfl, hb1, hb2, hb3, HB⟩ := hv.open_
  clear hu hv
  by_cases hl : a.length = b.length
  · obtain ⟨r, hr⟩ : ∃ r, r = sameB a b := ⟨_, rfl⟩
    rw [← hr]
    have HR := Lib.hid hr
    clear hr
    obtain ⟨n, hn⟩ : ∃ n, n = a.length := ⟨_, rfl⟩
    have hn' : n = b.length := by omega
    rw [← hn] at ha1 ha3 ⊢
    rw [← hn'] at hb1 hb3 ⊢
    have HN := Lib.hid hn
    have HN' := Lib.hid hn'
    clear hl hn hn'
    go_enter Try.func12, Try.ntmps12
    go_wp2
    go_loopw [5] (fun i wr => ∃ k m : Nat, k ≤ n ∧ i = .int .i64 k ∧ wr = w.drewN m ∧ Hid (a.take k = b.take k)) (fun i wr => n - (intOf i).toNat)
    case atStart => exact ⟨0, 0, Nat.zero_le _, rfl, rfl, rfl⟩
    case round =>
      obtain ⟨k, m, hk, rfl, rfl, HT⟩ := hrel
      by_cases hlt : k < n
      · obtain ⟨b1, o1, rfl, hb, hx, hx2⟩ := HA.out k (by have := HN.out; omega)
        obtain ⟨b2, o2, rfl, hb', hy, hy2⟩ := HB.out k (by have := HN'.out; omega)
        obtain ⟨x, hx0⟩ : ∃ x, x = a[k]'(by have := HN.out; omega) := ⟨_, rfl⟩
        obtain ⟨y, hy0⟩ : ∃ y, y = b[k]'(by have := HN'.out; omega) := ⟨_, rfl⟩
        rw [← hx0] at hx hx2
        rw [← hy0] at hy hy2
        have HX := Lib.hid hx0
        have HY := Lib.hid hy0
        clear hx0 hy0
        by_cases hxy : x = y
        · subst hxy
          go_wp2
          go_quiet (fail)
          go_wp2
          go_roundw
          case rel =>
            refine ⟨k + 1, _, by omega, by go_num, rfl, ?_⟩
            show _ = _
            rw [List.take_succ_eq_append_getElem (by have := HN.out; omega), List.take_succ_eq_append_getElem (by have := HN'.out; omega), HT.out, ← HX.out, ← HY.out]
          case measure => simp [intOf]; omega
        · have hne : ((x : Int) != (y : Int)) = true := by simp; omega
          have hrf : r = false := by
            rw [HR.out]
            unfold sameB
            refine decide_eq_false ?_
            intro h
            apply hxy
            rw [HX.out, HY.out]
            simp [h]
          subst hrf
          go_wp2
          go_quiet (fail)
          go_wp2
          go_ret
          exact ⟨rfl, _, World.drewN_drewN ..⟩
      · obtain rfl : k = n := by omega
        have hrt : r = true := by
          rw [HR.out]
          unfold sameB
          refine decide_eq_true ?_
          have := HT.out
          rwa [List.take_of_length_le (by have := HN.out; omega), List.take_of_length_le (by have := HN'.out; omega)] at this
        subst hrt
        go_wp2
        go_ret
        exact ⟨rfl, _, rfl⟩
  · have hne : ((a.length : Int) != (b.length : Int)) = true := by simp; omega
    have hrf : sameB a b = false := by
      unfold sameB
      refine decide_eq_false ?_
      intro h
      exact hl (by rw [h])
    rw [hrf]
    clear hrf
    go_enter Try.func12, Try.ntmps12
    go_wp2
    go_ret
    exact ⟨rfl, 0, rfl⟩

def turn (l : List Nat) : List Nat := l.map (fun x => x ^^^ 90)
theorem xor90_lt (x : Nat) (h : x < 256) : x ^^^ 90 < 256 := Nat.xor_lt_two_pow (n := 8) h (by omega)

set_option maxHeartbeats 400000 in
/-- Turned: the bytes that Spoil makes of b. -/
theorem turned_yes (u v : Value) (b : List Nat) (w : World) (B : Nat) (hu : RB w B u (turn b)) (hv : RB w B v b) :
    Calls Try.prog 76 #[u, v] w fun e w' => e = .returned (.bool true) ∧ ∃ n, w' = w.drewN n := by
  obtain ⟨A, c, rfl, ha1, ha2, ha3, HA⟩ := hu.open_
  obtain ⟨A', c', rfl, hb1, hb2, hb3, HB⟩ := hv.open_
  clear hu hv
  have hl : (turn b).length = b.length := by simp [turn]
  rw [hl] at ha1 ha3 ⊢
  have HL := Lib.hid hl
  clear hl
  obtain ⟨n, hn⟩ : ∃ n, n = b.length := ⟨_, rfl⟩
  rw [← hn] at ha1 ha3 hb1 hb3 ⊢
  have HN := Lib.hid hn
  clear hn
  go_enter Try.func76, Try.ntmps76
  go_wp2
  go_loopw [5] (fun i wr => ∃ k m : Nat, k ≤ n ∧ i = .int .i64 k ∧ wr = w.drewN m) (fun i wr => n - (intOf i).toNat)
  case atStart => exact ⟨0, 0, Nat.zero_le _, rfl, rfl⟩
  case round =>
    obtain ⟨k, m, hk, rfl, rfl⟩ := hrel
    by_cases hlt : k < n
    · obtain ⟨b1, o1, rfl, hb, hx, hx2⟩ := HA.out k (by have := HN.out; have := HL.out; omega)
      obtain ⟨b2, o2, rfl, hb', hy, hy2⟩ := HB.out k (by have := HN.out; omega)
      obtain ⟨x, hx0⟩ : ∃ x, x = (turn b)[k]'(by have := HN.out; have := HL.out; omega) := ⟨_, rfl⟩
      obtain ⟨y, hy0⟩ : ∃ y, y = b[k]'(by have := HN.out; omega) := ⟨_, rfl⟩
      have hxy : x = y ^^^ 90 := by rw [hx0, hy0]; simp [turn]
      rw [← hx0] at hx hx2
      rw [← hy0] at hy hy2
      clear hx0 hy0
      have heq : ((x : Int) != bits BinOp.xor IntKind.u8 (y : Int) 90) = false := by
        have := u8_xor_nat y 90 hy2 (by omega)
        have e : bits BinOp.xor IntKind.u8 (y : Int) 90 = ((y ^^^ 90 : Nat) : Int) := this
        rw [e, hxy]
        simp
      clear hxy
      go_wp2
      go_quiet (fail)
      go_wp2
      go_roundw
      case rel => exact ⟨k + 1, _, by omega, by go_num, rfl⟩
      case measure => simp [intOf]; omega
    · obtain rfl : k = n := by omega
      go_wp2
      go_ret
      exact ⟨rfl, _, rfl⟩

def marks : List Nat := (List.range 64).map (fun i => 208 + i % 9)
theorem marks_at (j : Nat) (hj : j < 64) : marks[j]'(by simpa [marks] using hj) = 208 + j % 9 := by simp [marks]
theorem marks_lt : ∀ x ∈ marks, x < 256 := by
  intro x hx
  simp [marks] at hx
  obtain ⟨i, _, rfl⟩ := hx
  omega

set_option maxHeartbeats 1000000 in
/-- Intact: nothing was written. -/
theorem intact_yes (u v : Value) (b : List Nat) (w : World) (B : Nat) (hu : RB w B u (b ++ marks)) (hv : RB w B v b) :
    Calls Try.prog 9 #[u, v] w fun e w' => e = .returned (.bool true) ∧ ∃ n, w' = w.drewN n := by
  obtain ⟨A, c, rfl, ha1, ha2, ha3, HA⟩ := hu.open_
  obtain ⟨A', c', rfl, hb1, hb2, hb3, HB⟩ := hv.open_
  clear hu hv
  have hl : (b ++ marks).length = b.length + 64 := by simp [marks]
  rw [hl] at ha1 ha3 ⊢
  have HL := Lib.hid hl
  clear hl
  obtain ⟨n, hn⟩ : ∃ n, n = b.length := ⟨_, rfl⟩
  rw [← hn] at ha1 ha3 hb1 hb3 ⊢
  have HN := Lib.hid hn
  clear hn
  go_enter Try.func9, Try.ntmps9
  go_wp2
  go_loopw [5] (fun i wr => ∃ k m : Nat, k ≤ n ∧ i = .int .i64 k ∧ wr = w.drewN m) (fun i wr => n - (intOf i).toNat)
  case atStart => exact ⟨0, 0, Nat.zero_le _, rfl, rfl⟩
  case round =>
    obtain ⟨k, m, hk, rfl, rfl⟩ := hrel
    by_cases hlt : k < n
    · obtain ⟨b1, o1, rfl, hb, hx, hx2⟩ := HA.out k (by have := HN.out; have := HL.out; omega)
      obtain ⟨b2, o2, rfl, hb', hy, hy2⟩ := HB.out k (by have := HN.out; omega)
      have e : (b ++ marks)[k]'(by have := HN.out; have := HL.out; omega) = b[k]'(by have := HN.out; omega) := List.getElem_append_left (by have := HN.out; omega)
      rw [e] at hx hx2
      obtain ⟨y, hy0⟩ : ∃ y, y = b[k]'(by have := HN.out; omega) := ⟨_, rfl⟩
      rw [← hy0] at hy hy2 hx hx2
      clear hy0 e
      go_wp2
      go_quiet (fail)
      go_wp2
      go_roundw
      case rel => exact ⟨k + 1, _, by omega, by go_num, rfl⟩
      case measure => simp [intOf]; omega
    · obtain rfl : k = n := by omega
      go_wp2
      go_loopw [6] (fun i wr => ∃ j m : Nat, j ≤ 64 ∧ i = .int .i64 j ∧ wr = w.drewN m) (fun i wr => 64 - (intOf i).toNat)
      case atStart => exact ⟨0, m, Nat.zero_le _, rfl, rfl⟩
      case round =>
        obtain ⟨j, m, hj, rfl, rfl⟩ := hrel
        by_cases hlt' : j < 64
        · obtain ⟨b1, o1, rfl, hb, hx, hx2⟩ := HA.out (k + j) (by have := HN.out; have := HL.out; omega)
          have e : (b ++ marks)[k + j]'(by have := HN.out; have := HL.out; omega) = 208 + j % 9 := by
            rw [List.getElem_append_right (by have := HN.out; omega)]
            have hn := HN.out
            have := marks_at j hlt'
            simp only [hn]
            simpa using this
          rw [e] at hx hx2
          clear e
          go_wp2
          go_roundw
          case rel => exact ⟨j + 1, _, by omega, by go_num, rfl⟩
          case measure => simp [intOf]; omega
        · obtain rfl : j = 64 := by omega
          go_wp2
          go_ret
          exact ⟨rfl, _, rfl⟩
end Go.Proofs.Ytdghanhpeekbhaa
