/-
  The walks of the references' helpers that only read: Same, Turned, Intact.
-/
import Derived.Test.YtbagmmncjmbboaaGreatBase
import Derived.WalkSpells
import Derived.WalkLawsBesides
import Derived.Lib.Hide
import Derived.Deep.QuietTactic
import Derived.BigQuiet
namespace Go.Proofs.YtbagmmncjmbboaaGreat
open Go.RowKit
set_option linter.unusedVariables false

/-- Have two lists the same numbers? (Not reducible: the walk leaves it alone.) -/
def sameB (a b : List Nat) : Bool := decide (a = b)

set_option maxHeartbeats 400000 in
theorem same_any (u v : Value) (a b : List Nat) (w : World) (B : Nat) (hu : RB w B u a) (hv : RB w B v b) :
    Calls Tryz.prog 29 #[u, v] w fun e w' => e = .returned (.bool (sameB a b)) ∧ ∃ n, w' = w.drewN n := by
  obtain ⟨A, c, rfl, ha1, ha2, ha3, HA⟩ := hu.open_
  obtain ⟨A', c', rfl, hb1, hb2, hb3, HB⟩ := hv.open_
  clear hu hv
  by_cases hl : a.length = b.length
  · obtain ⟨r, hr⟩ : ∃ r, r = sameB a b := ⟨_, rfl⟩
    rw [← hr]
    have HR := Lib.hid hr
    clear hr
    obtain ⟨n, hn⟩ : ∃ n, n = a.length := ⟨_, rfl⟩
    have hn' : n = b.length := by omega
    rw [← hn] at ha1 ha3 ⊢
    rw [← hn'] at hb1 hb3 ⊢
    have HN := Lib.hid hn
    have HN' := Lib.hid hn'
    clear hl hn hn'
    go_enter Tryz.func29, Tryz.ntmps29
    go_wp2
    go_loopw [5] (fun i wr => ∃ k m : Nat, k ≤ n ∧ i = .int .i64 k ∧ wr = w.drewN m ∧ Hid (a.take k = b.take k)) (fun i wr => n - (intOf i).toNat)
    case atStart => exact ⟨0, 0, Nat.zero_le _, rfl, rfl, rfl⟩
    case round =>
      obtain ⟨k, m, hk, rfl, rfl, HT⟩ := hrel
      by_cases hlt : k < n
      · obtain ⟨b1, o1, rfl, hb, hx, hx2⟩ := HA.out k (by have := HN.out; omega)
        obtain ⟨b2, o2, rfl, hb', hy, hy2⟩ := HB.out k (by have := HN'.out; omega)
        obtain ⟨x, hx0⟩ : ∃ x, x = a[k]'(by have := HN.out; omega) := ⟨_, rfl⟩
        obtain ⟨y, hy0⟩ : ∃ y, y = b[k]'(by have := HN'.out; omega) := ⟨_, rfl⟩
        rw [← hx0] at hx hx2
        rw [← hy0] at hy hy2
        have HX := Lib.hid hx0
        have HY := Lib.hid hy0
        clear hx0 hy0
        by_cases hxy : x = y
        · subst hxy
          go_wp2
          go_quiet (fail)
          go_wp2
          go_roundw
          case rel =>
            refine ⟨k + 1, _, by omega, by go_num, rfl, ?_⟩
            show _ = _
            rw [List.take_succ_eq_append_getElem (by have := HN.out; omega), List.take_succ_eq_append_getElem (by have := HN'.out; omega), HT.out, ← HX.out, ← HY.out]
          case measure => simp [intOf]; omega
        · have hne : ((x : Int) != (y : Int)) = true := by simp; omega
          have hrf : r = false := by
            rw [HR.out]
            unfold sameB
            refine decide_eq_false ?_
            intro h
            apply hxy
            rw [HX.out, HY.out]
            simp [h]
          subst hrf
          go_wp2
          go_quiet (fail)
          go_wp2
          go_ret
          exact ⟨rfl, _, World.drewN_drewN ..⟩
      · obtain rfl : k = n := by omega
        have hrt : r = true := by
          rw [HR.out]
          unfold sameB
          refine decide_eq_true ?_
          have := HT.out
          rwa [List.take_of_length_le (by have := HN.out; omega), List.take_of_length_le (by have := HN'.out; omega)] at this
        subst hrt
        go_wp2
        go_ret
        exact ⟨rfl, _, rfl⟩
  · have hne : ((a.length : Int) != (b.length : Int)) = true := by simp; omega
    have hrf : sameB a b = false := by
      unfold sameB
      refine decide_eq_false ?_
      intro h
      exact hl (by rw [h])
    rw [hrf]
    clear hrf
    go_enter Tryz.func29, Tryz.ntmps29
    go_wp2
    go_ret
    exact ⟨rfl, 0, rfl⟩

def turn (l : List Nat) : List Nat := l.map (fun x => x ^^^ 90)
theorem xor90_lt (x : Nat) (h : x < 256) : x ^^^ 90 < 256 := Nat.xor_lt_two_pow (n := 8) h (by omega)

def marks : List Nat := (List.range 64).map (fun i => 208 + i % 9)
theorem marks_at (j : Nat) (hj : j < 64) : marks[j]'(by simpa [marks] using hj) = 208 + j % 9 := by simp [marks]
theorem marks_lt : ∀ x ∈ marks, x < 256 := by
  intro x hx
  simp [marks] at hx
  obtain ⟨i, _, rfl⟩ := hx
  omega
end Go.Proofs.YtbagmmncjmbboaaGreat
