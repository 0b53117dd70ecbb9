/-
  The walks of Get at whatever place, of GetS and Unfold.
-/
import Derived.Test.YtbmjiheclagfiaaN4
namespace Go.Proofs.Ytbmjiheclagfiaa
open Go.RowKit
set_option linter.unusedVariables false

def getA (l : List Nat) (at_ : Int) : Nat × Nat × Nat := if at_ < 0 ∨ (l.length : Int) < at_ then (0, 0, 1) else getR l at_.toNat

set_option maxHeartbeats 400000 in
theorem get_any (v : Value) (l : List Nat) (at_ : Int) (w : World) (B : Nat) (hv : RB w B v l) (ru rn re : Nat) (hr : getA l at_ = (ru, rn, re)) :
    Calls Try.prog 61 #[v, .int .i64 at_] w fun e w' => e = .returned (.tuple #[.int .u64 (ru : Int), .int .i64 (rn : Int), .int .i64 (re : Int)]) ∧ w = w' := by
  by_cases h1 : at_ < 0
  · unfold getA at hr
    rw [if_pos (.inl h1)] at hr
    obtain ⟨rfl, rfl, rfl⟩ := res3 hr
    obtain ⟨A, c, rfl, ha1, ha2, ha3, HA⟩ := hv.open_
    clear hv hr
    go_enter Try.func61, Try.ntmps61
    go_wp2
    go_step3
    go_wp2
    rw [Exit.noGoto_ret]
    go_ret3
    exact ⟨rfl, rfl⟩
  · by_cases h2 : (l.length : Int) < at_
    · unfold getA at hr
      rw [if_pos (.inr h2)] at hr
      obtain ⟨rfl, rfl, rfl⟩ := res3 hr
      obtain ⟨A, c, rfl, ha1, ha2, ha3, HA⟩ := hv.open_
      clear hv hr
      go_enter Try.func61, Try.ntmps61
      go_wp2
      go_step3
      go_wp2
      rw [Exit.noGoto_ret]
      go_ret3
      exact ⟨rfl, rfl⟩
    · unfold getA at hr
      rw [if_neg (by omega)] at hr
      obtain ⟨p, rfl⟩ : ∃ p : Nat, at_ = (p : Int) := ⟨at_.toNat, by omega⟩
      exact get_ok v l p w B hv (by omega) ru rn re (by simpa using hr)

theorem getGo_lt (p : Nat) : ∀ (l : List Nat) (i u : Nat), i ≤ 9 → u < 128 ^ i → (getGo p l i u).1 < 18446744073709551616 := by
  intro l
  induction l with
  | nil => intro i u _ _; simp [getGo]
  | cons c r ih =>
    intro i u hi hu
    rw [getGo]
    split
    · simp
    · rename_i h9
      obtain ⟨h1, h2⟩ := getFits i c u _ hi h9 rfl hu
      split
      · exact ih (i + 1) _ (by omega) h2
      · split
        · simp
        · show u + c % 128 * 128 ^ i < _
          omega
theorem getA_lt (l : List Nat) (at_ : Int) (ru rn re : Nat) (hr : getA l at_ = (ru, rn, re)) : ru < 18446744073709551616 := by
  have : (getA l at_).1 < 18446744073709551616 := by
    unfold getA
    split
    · simp
    · exact getGo_lt _ _ 0 0 (by omega) (by simp)
  rw [hr] at this
  exact this

def unf (u : Nat) : Int := if u % 2 = 0 then ((u / 2 : Nat) : Int) else -((u / 2 : Nat) : Int) - 1

/-- A signed number read. -/
def getSA (l : List Nat) (at_ : Int) : Int × Nat × Nat := if (getA l at_).2.2 = 0 then (unf (getA l at_).1, (getA l at_).2.1, 0) else (0, 0, (getA l at_).2.2)

set_option maxHeartbeats 400000 in
theorem gets_any (v : Value) (l : List Nat) (at_ : Int) (w : World) (B : Nat) (hv : RB w B v l) (sv : Int) (sn se : Nat) (hr : getSA l at_ = (sv, sn, se)) :
    Calls Try.prog 56 #[v, .int .i64 at_] w fun e w' => e = .returned (.tuple #[.int .i64 sv, .int .i64 (sn : Int), .int .i64 (se : Int)]) ∧ w = w' := by
  obtain ⟨⟨ru, rn, re⟩, h⟩ : ∃ r, getA l at_ = r := ⟨_, rfl⟩
  have hlt : Hid (ru < 18446744073709551616) := getA_lt l at_ ru rn re h
  have HH := Lib.hid h
  have HV := Lib.hid hv
  unfold getSA at hr
  rw [h] at hr
  by_cases h0 : re = 0
  · rw [if_pos h0] at hr
    obtain ⟨rfl, rfl, rfl⟩ : unf ru = sv ∧ rn = sn ∧ 0 = se := by simpa using hr
    subst h0
    clear hr h hv
    have ew : IntKind.i64.wrap ((ru : Int) / 2) = ((ru : Int) / 2) := by rw [IntKind.wrap_i64]; have := hlt.out; omega
    have ea : bits BinOp.and IntKind.u64 (ru : Int) 1 = ((ru % 2 : Nat) : Int) := by
      have := u64_and_nat ru 1 hlt.out (by omega)
      rw [nat_mask1] at this
      exact this
    by_cases hm : ru % 2 = 0
    · have e : Hid (unf ru = ((ru : Int) / 2)) := by show _ = _; unfold unf; rw [if_pos hm]; omega
      have et : (bits BinOp.and IntKind.u64 (ru : Int) 1 == 1) = false := by rw [ea, hm]; rfl
      clear ea hm
      go_enter Try.func56, Try.ntmps56
      go_wp2_with fail
      refine (get_any v l at_ w B HV.out ru rn 0 HH.out).mono ?_
      rintro e1 w1 ⟨rfl, rfl⟩
      go_wp2
      go_ret3
      exact ⟨by rw [e.out]; rfl, rfl⟩
    · have e : Hid (unf ru = -1 - ((ru : Int) / 2)) := by show _ = _; unfold unf; rw [if_neg hm]; omega
      have et : (bits BinOp.and IntKind.u64 (ru : Int) 1 == 1) = true := by rw [ea, show ru % 2 = 1 by omega]; rfl
      have en : bits BinOp.xor IntKind.i64 (-1) ((ru : Int) / 2) = -1 - ((ru : Int) / 2) := i64_notv _ (by omega) (by have := hlt.out; omega)
      clear ea hm
      go_enter Try.func56, Try.ntmps56
      go_wp2_with fail
      refine (get_any v l at_ w B HV.out ru rn 0 HH.out).mono ?_
      rintro e1 w1 ⟨rfl, rfl⟩
      go_wp2
      go_ret3
      exact ⟨by rw [e.out]; rfl, rfl⟩
  · rw [if_neg h0] at hr
    obtain ⟨rfl, rfl, rfl⟩ : 0 = sv ∧ 0 = sn ∧ re = se := by simpa using hr
    have hne : ((re : Int) != 0) = true := by simp; omega
    clear hr h hv h0
    go_enter Try.func56, Try.ntmps56
    go_wp2_with fail
    refine (get_any v l at_ w B HV.out ru rn re HH.out).mono ?_
    rintro e w1 ⟨rfl, rfl⟩
    go_wp2
    go_ret3
    exact ⟨rfl, rfl⟩
end Go.Proofs.Ytbmjiheclagfiaa
