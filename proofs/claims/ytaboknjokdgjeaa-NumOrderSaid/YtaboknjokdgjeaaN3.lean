/-
  The walks of what reads numbers: skeinref01.Get, num.Get.
-/
import Derived.Test.YtaboknjokdgjeaaN2
namespace Go.Proofs.Ytaboknjokdgjeaa
open Go.RowKit
set_option linter.unusedVariables false

/-- A number read from place p on: the number, the place behind it, the error. l: what is left from byte i of it on; u: what has been read. -/
def getGo (p : Nat) : List Nat → Nat → Nat → Nat × Nat × Nat
  | [], _, _ => (0, 0, 2)
  | c :: r, i, u => if i = 9 ∧ 1 < c then (0, 0, 10) else if 128 ≤ c then getGo p r (i + 1) (u + c % 128 * 128 ^ i) else if c = 0 ∧ 0 < i then (0, 0, 5) else (u + c % 128 * 128 ^ i, p + i + 1, 0)
def getR (l : List Nat) (p : Nat) : Nat × Nat × Nat := getGo p (l.drop p) 0 0

theorem getGo_end (p : Nat) (l : List Nat) (i u : Nat) (h : l.length ≤ p + i) : getGo p (l.drop (p + i)) i u = (0, 0, 2) := by
  rw [List.drop_of_length_le h]; rfl
theorem getGo_wide (p : Nat) (l : List Nat) (i u : Nat) (h : p + i < l.length) (h9 : i = 9) (hc : 1 < l[p + i]) : getGo p (l.drop (p + i)) i u = (0, 0, 10) := by
  rw [List.drop_eq_getElem_cons h, getGo, if_pos ⟨h9, hc⟩]
theorem getGo_more (p : Nat) (l : List Nat) (i u : Nat) (h : p + i < l.length) (h9 : ¬ (i = 9 ∧ 1 < l[p + i])) (hc : 128 ≤ l[p + i]) :
    getGo p (l.drop (p + i)) i u = getGo p (l.drop (p + (i + 1))) (i + 1) (u + l[p + i] % 128 * 128 ^ i) := by
  rw [List.drop_eq_getElem_cons h, getGo, if_neg h9, if_pos hc]; rfl
theorem getGo_form (p : Nat) (l : List Nat) (i u : Nat) (h : p + i < l.length) (hc : l[p + i] = 0) (hi : 0 < i) : getGo p (l.drop (p + i)) i u = (0, 0, 5) := by
  rw [List.drop_eq_getElem_cons h, getGo, if_neg (by omega), if_neg (by omega), if_pos ⟨hc, hi⟩]
theorem getGo_done (p : Nat) (l : List Nat) (i u : Nat) (h : p + i < l.length) (h9 : ¬ (i = 9 ∧ 1 < l[p + i])) (hc : l[p + i] < 128) (hz : ¬ (l[p + i] = 0 ∧ 0 < i)) :
    getGo p (l.drop (p + i)) i u = (u + l[p + i] % 128 * 128 ^ i, p + i + 1, 0) := by
  rw [List.drop_eq_getElem_cons h, getGo, if_neg h9, if_neg (by omega), if_neg hz]

theorem pow128_le (i : Nat) (h : i ≤ 9) : 128 ^ i ≤ 9223372036854775808 := Nat.le_trans (Nat.pow_le_pow_right (by omega) h) (by decide)
theorem pow128_le8 (i : Nat) (h : i ≤ 8) : 128 ^ i ≤ 72057594037927936 := Nat.le_trans (Nat.pow_le_pow_right (by omega) h) (by decide)

/-- What a byte adds fits. -/
theorem getFits (i x u m : Nat) (hi : i ≤ 9) (h9 : ¬ (i = 9 ∧ 1 < x)) (hm : m = 128 ^ i) (hu : u < 128 ^ i) : x % 128 * m + u < 18446744073709551616 ∧ (u + x % 128 * m < 128 ^ (i + 1)) := by
  subst hm
  have h1 : u + x % 128 * 128 ^ i < 128 ^ (i + 1) := by
    have : x % 128 * 128 ^ i ≤ 127 * 128 ^ i := Nat.mul_le_mul_right _ (by omega)
    rw [Nat.pow_succ]
    omega
  refine ⟨?_, h1⟩
  by_cases h : i = 9
  · subst h
    have hx : x ≤ 1 := by omega
    have : x % 128 * 128 ^ 9 ≤ 1 * 128 ^ 9 := Nat.mul_le_mul_right _ (by omega)
    omega
  · have := pow128_le (i + 1) (by omega)
    omega

theorem res3 {a b c a' b' c' : Nat} (h : ((a, b, c) : Nat × Nat × Nat) = (a', b', c')) : a = a' ∧ b = b' ∧ c = c' := by simpa using h

set_option maxHeartbeats 1000000 in
set_option maxRecDepth 100000 in
theorem rget_ok (v : Value) (l : List Nat) (p : Nat) (w : World) (B : Nat) (hv : RB w B v l) (hp : p ≤ l.length) (ru rn re : Nat) (hr : getR l p = (ru, rn, re)) :
    Calls Try.prog 25 #[v, .int .i64 (p : Int)] w fun e w' => e = .returned (.tuple #[.int .u64 (ru : Int), .int .i64 (rn : Int), .int .i64 (re : Int)]) ∧ w = w' := by
  obtain ⟨A, c, rfl, ha1, ha2, ha3, HA⟩ := hv.open_
  clear hv
  have HR := Lib.hid hr
  clear hr
  have d1 : decide ((p : Int) < 0) = false := by simp
  have d2 : decide (l.length < p) = false := by simp; omega
  go_enter Try.func25, Try.ntmps25
  go_wp2
  go_loop [7, 8, 9] (fun s t q => ∃ (i u m : Nat), p + i ≤ l.length ∧ i ≤ 9 ∧ q = .int .i64 ((p : Int) + (i : Int)) ∧ s = .int .u64 (u : Int) ∧ t = .int .u64 (m : Int) ∧ Hid (m = 128 ^ i) ∧ Hid (u < 128 ^ i) ∧ Hid (getGo p (l.drop (p + i)) i u = (ru, rn, re))) (fun s t q => l.length - (intOf q).toNat)
  case atStart => exact ⟨0, 0, 1, by omega, by omega, by simp, rfl, rfl, rfl, by show _ < _; simp, HR.out⟩
  case round =>
    obtain ⟨i, u, m, hpi, hi, rfl, rfl, rfl, HM, HU, HG⟩ := hrel
    by_cases hlt : p + i < l.length
    · obtain ⟨b1, o1, rfl, hb, hx, hx2⟩ := HA.out (p + i) hlt
      obtain ⟨x, hx0⟩ : ∃ x, x = l[p + i] := ⟨_, rfl⟩
      rw [← hx0] at hx hx2
      have HX := Lib.hid hx0
      clear hx0
      have HRES : Hid (∀ a b c : Nat, getGo p (l.drop (p + i)) i u = (a, b, c) → ru = a ∧ rn = b ∧ re = c) := fun a b c h => res3 (HG.out.symm.trans h)
      have hfit := fun h9 => getFits i x u m hi h9 HM.out HU.out
      have HF := Lib.hid hfit
      clear hfit
      by_cases hw : 9 ≤ i ∧ 1 < x
      · obtain ⟨hw1, hw2⟩ := hw
        obtain ⟨rfl, rfl, rfl⟩ := HRES.out _ _ _ (getGo_wide p l i u hlt (by omega) (by rw [← HX.out]; exact hw2))
        clear HRES HF HG HX HM HU
        go_wp2
        go_ret3
        exact ⟨rfl, rfl⟩
      · have hf := HF.out (by omega)
        obtain ⟨y, hy0⟩ : ∃ y, y = x % 128 * m := ⟨_, rfl⟩
        rw [← hy0] at hf
        obtain ⟨hf1, hf2⟩ := hf
        have e1 : IntKind.u64.wrap ((x : Int) % 128 * (m : Int)) = (y : Int) := by
          have h : ((x : Int) % 128 * (m : Int)) = (y : Int) := by rw [hy0]; simp
          rw [h, IntKind.wrap_u64]
          omega
        have HY : Hid (y = x % 128 * 128 ^ i) := by show _ = _; rw [hy0, HM.out]
        have HF2 := Lib.hid hf2
        have e2 : IntKind.u64.wrap ((u : Int) + (y : Int)) = (u : Int) + (y : Int) := by rw [IntKind.wrap_u64]; omega
        clear hy0 hf1 hf2 HF
        by_cases h8 : i ≤ 8
        · have e3 : IntKind.u64.wrap ((m : Int) * 128) = (m : Int) * 128 := by
            have hm8 : m ≤ 72057594037927936 := by have := HM.out; rw [this]; exact pow128_le8 i h8
            rw [IntKind.wrap_u64]
            omega
          by_cases hc : 128 ≤ x
          · have HN := Lib.hid (getGo_more p l i u hlt (by rw [← HX.out]; omega) (by rw [← HX.out]; exact hc))
            clear hw
            go_wp2
            go_round
            case rel =>
              refine ⟨i + 1, u + y, m * 128, by omega, by omega, by go_num, by go_num, by go_num, ?_, ?_, ?_⟩
              · show _ = _; rw [HM.out, Nat.pow_succ]
              · exact HF2
              · show _ = _
                rw [HY.out, HX.out, ← HN.out]
                exact HG.out
            case measure => simp [intOf]; omega
          · have hc' : x < 128 := by omega
            rcases Nat.eq_zero_or_pos x with hz | hz
            · rcases Nat.eq_zero_or_pos i with hi0 | hi0
              · obtain ⟨hru, rfl, rfl⟩ := HRES.out _ _ _ (getGo_done p l i u hlt (by rw [← HX.out]; omega) (by rw [← HX.out]; omega) (by omega))
                have hzb : ((x : Int) == 0) = true := by simp; omega
                have hib : ((p : Int) + (i : Int)) ≤ (p : Int) := by omega
                have HYX : Hid (ru = u + y) := by show _ = _; rw [hru, HY.out, HX.out]
                clear HRES HG HM HU HX HY hz hi0 hru
                go_wp2
                go_ret3
                exact ⟨by rw [HYX.out]; simp, rfl⟩
              · obtain ⟨rfl, rfl, rfl⟩ := HRES.out _ _ _ (getGo_form p l i u hlt (by rw [← HX.out]; exact hz) hi0)
                have hzb : ((x : Int) == 0) = true := by simp; omega
                clear HRES HG HM HU HX HY hz
                go_wp2
                go_ret3
                exact ⟨rfl, rfl⟩
            · obtain ⟨hru, rfl, rfl⟩ := HRES.out _ _ _ (getGo_done p l i u hlt (by rw [← HX.out]; omega) (by rw [← HX.out]; omega) (by rw [← HX.out]; omega))
              have hzb : ((x : Int) == 0) = false := by simp; omega
              have HYX : Hid (ru = u + y) := by show _ = _; rw [hru, HY.out, HX.out]
              clear HRES HG HM HU HX HY hru
              go_wp2
              go_ret3
              exact ⟨by rw [HYX.out]; simp, rfl⟩
        · have hc' : x < 128 := by omega
          rcases Nat.eq_zero_or_pos x with hz | hz
          · rcases Nat.eq_zero_or_pos i with hi0 | hi0
            · omega
            · obtain ⟨rfl, rfl, rfl⟩ := HRES.out _ _ _ (getGo_form p l i u hlt (by rw [← HX.out]; exact hz) hi0)
              have hzb : ((x : Int) == 0) = true := by simp; omega
              clear HRES HG HM HU HX HY hz
              go_wp2
              go_ret3
              exact ⟨rfl, rfl⟩
          · obtain ⟨hru, rfl, rfl⟩ := HRES.out _ _ _ (getGo_done p l i u hlt (by rw [← HX.out]; omega) (by rw [← HX.out]; omega) (by rw [← HX.out]; omega))
            have hzb : ((x : Int) == 0) = false := by simp; omega
            have HYX : Hid (ru = u + y) := by show _ = _; rw [hru, HY.out, HX.out]
            clear HRES HG HM HU HX HY hru
            go_wp2
            go_ret3
            exact ⟨by rw [HYX.out]; simp, rfl⟩
    · obtain ⟨rfl, rfl, rfl⟩ := res3 (HG.out.symm.trans (getGo_end p l i u (by omega)))
      clear HG HM HU
      go_wp2
      go_ret3
      exact ⟨rfl, rfl⟩
end Go.Proofs.Ytaboknjokdgjeaa
