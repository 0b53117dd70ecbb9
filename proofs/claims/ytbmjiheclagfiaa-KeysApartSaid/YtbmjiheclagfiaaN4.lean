/-
  The walk of num.Get.
-/
import Derived.Test.YtbmjiheclagfiaaN3
namespace Go.Proofs.Ytbmjiheclagfiaa
open Go.RowKit
set_option linter.unusedVariables false

theorem orStep (u x i : Nat) (hi : i ≤ 9) (h9 : ¬ (i = 9 ∧ 1 < x)) (hu : u < 128 ^ i) : bits BinOp.or IntKind.u64 (u : Int) (IntKind.u64.wrap ((x : Int) % 128 * 2 ^ (7 * i))) = ((u + x % 128 * 128 ^ i : Nat) : Int) := by
  have hp : (2 : Nat) ^ (7 * i) = 128 ^ i := by rw [Nat.pow_mul]
  obtain ⟨h1, h2⟩ := getFits i x u _ hi h9 rfl hu
  have e : ((x : Int) % 128 * 2 ^ (7 * i)) = ((x % 128 * 128 ^ i : Nat) : Int) := by rw [← hp]; simp
  rw [e]
  have hm : (x % 128 * 128 ^ i) % 2 ^ (7 * i) = 0 := by rw [hp]; exact Nat.mul_mod_left _ _
  generalize x % 128 * 128 ^ i = y at *
  rw [IntKind.wrap_u64, show ((y : Nat) : Int) % 18446744073709551616 = (y : Int) by omega]
  refine (u64_or_nat u y (by omega) (by omega)).trans ?_
  rw [Nat.or_comm, nat_join (7 * i) y u hm (by rw [hp]; exact hu), Nat.add_comm]

/-- What holds at the label. -/
def GetJ (A : Option Addr) (c p ru rn re : Nat) (l : List Nat) (w : World) (a' : Act) (w' : World) : Prop :=
  w = w' ∧ ∃ (i u : Nat) (u9 u10 u11 u12 u13 u14 u15 u16 u17 u18 u19 u20 u21 u22 u23 u24 u25 u26 u27 u28 u29 u30 u31 u32 u33 u34 u35 u36 u37 u38 u39 u40 u41 u42 u43 u44 u45 u46 u47 u48 u49 u50 u51 u52 u53 u54 u55 u56 u57 : Value), a' = { tmps := #[.slice A l.length c, .int .i64 (p : Int), undef, undef, .int .u64 0, .int .i64 0, .int .i64 0, .int .u64 (u : Int), .int .i64 (i : Int), u9, u10, u11, u12, u13, u14, u15, u16, u17, u18, u19, u20, u21, u22, u23, u24, u25, u26, u27, u28, u29, u30, u31, u32, u33, u34, u35, u36, u37, u38, u39, u40, u41, u42, u43, u44, u45, u46, u47, u48, u49, u50, u51, u52, u53, u54, u55, u56, u57], defers := [] } ∧ i ≤ 9 ∧ p + i ≤ l.length ∧ Hid (u < 128 ^ i) ∧ Hid (getGo p (l.drop (p + i)) i u = (ru, rn, re))

set_option maxRecDepth 100000 in
set_option maxHeartbeats 2000000 in
theorem get_ok (v : Value) (l : List Nat) (p : Nat) (w : World) (B : Nat) (hv : RB w B v l) (hp : p ≤ l.length) (ru rn re : Nat) (hr : getR l p = (ru, rn, re)) :
    Calls Try.prog 61 #[v, .int .i64 (p : Int)] w fun e w' => e = .returned (.tuple #[.int .u64 (ru : Int), .int .i64 (rn : Int), .int .i64 (re : Int)]) ∧ w = w' := by
  obtain ⟨A, c, rfl, ha1, ha2, ha3, HA⟩ := hv.open_
  clear hv
  have HR := Lib.hid hr
  clear hr
  have d1 : decide ((p : Int) < 0) = false := by simp
  have d2 : decide (l.length < p) = false := by simp; omega
  go_enter Try.func61, Try.ntmps61
  go_wp2
  refine wp_scope_jumps 0 (GetJ A c p ru rn re l w) (fun a' _ => 10 - (intOf (a'.tmps.getD 8 undef)).toNat) rfl ?_ ?_
  · go_wp2
    go_step3
    obtain ⟨i, hi0⟩ : ∃ i : Nat, i = 0 := ⟨0, rfl⟩
    obtain ⟨u, hu0⟩ : ∃ u : Nat, u = 0 := ⟨0, rfl⟩
    have hi : i ≤ 9 := by omega
    have hpi : p + i ≤ l.length := by omega
    have HU : Hid (u < 128 ^ i) := by show _ < _; rw [hi0, hu0]; simp
    have HG : Hid (getGo p (l.drop (p + i)) i u = (ru, rn, re)) := by show _ = _; rw [hi0, hu0]; exact HR.out
    have e : ({ tmps := #[.slice A l.length c, .int .i64 (p : Int), undef, undef, .int .u64 0, .int .i64 0, .int .i64 0, .int .u64 (u : Int), .int .i64 (i : Int), undef, .int .i64 (p : Int), .bool false, .bool false, .int .i64 (p : Int), .slice A l.length c, .int .i64 (l.length : Int), .bool false, .bool false, undef, undef, undef, undef, undef, undef, undef, undef, undef, undef, undef, undef, undef, undef, undef, undef, undef, undef, undef, undef, undef, undef, undef, undef, undef, undef, undef, undef, undef, undef, undef, undef, undef, undef, undef, undef, undef, undef, undef, undef], defers := [] } : Act) = { tmps := #[.slice A l.length c, .int .i64 (p : Int), undef, undef, .int .u64 0, .int .i64 0, .int .i64 0, .int .u64 0, .int .i64 0, undef, .int .i64 (p : Int), .bool false, .bool false, .int .i64 (p : Int), .slice A l.length c, .int .i64 (l.length : Int), .bool false, .bool false, undef, undef, undef, undef, undef, undef, undef, undef, undef, undef, undef, undef, undef, undef, undef, undef, undef, undef, undef, undef, undef, undef, undef, undef, undef, undef, undef, undef, undef, undef, undef, undef, undef, undef, undef, undef, undef, undef, undef, undef], defers := [] } := by rw [hi0, hu0]; rfl
    rw [← e]
    clear e hi0 hu0
    have HRES : Hid (∀ a b c : Nat, getGo p (l.drop (p + i)) i u = (a, b, c) → ru = a ∧ rn = b ∧ re = c) := fun a b c h => res3 (HG.out.symm.trans h)
    by_cases hlt : p + i < l.length
    · obtain ⟨b1, o1, rfl, hb, hx, hx2⟩ := HA.out (p + i) hlt
      obtain ⟨x, hx0⟩ : ∃ x, x = l[p + i] := ⟨_, rfl⟩
      rw [← hx0] at hx hx2
      have HX := Lib.hid hx0
      clear hx0
      have hend : ((i : Int) == (l.length : Int) - (p : Int)) = false := by simp; omega
      by_cases hw : 9 ≤ i ∧ 1 < x
      · obtain ⟨hw1, hw2⟩ := hw
        obtain ⟨rfl, rfl, rfl⟩ := HRES.out _ _ _ (getGo_wide p l i u hlt (by omega) (by rw [← HX.out]; exact hw2))
        have h9b : ((i : Int) == 9) = true := by simp; omega
        clear HRES HG HX HU
        go_wp2
        simp only [Exit.jump]
        go_ret3
        exact ⟨rfl, rfl⟩
      · obtain ⟨y, hy0⟩ : ∃ y, y = u + x % 128 * 128 ^ i := ⟨_, rfl⟩
        have eo : bits BinOp.or IntKind.u64 (u : Int) (IntKind.u64.wrap ((x : Int) % 128 * 2 ^ (7 * i))) = (y : Int) := by rw [hy0]; exact orStep u x i hi (by omega) HU.out
        have HF2 : Hid (y < 128 ^ (i + 1)) := by show _ < _; rw [hy0]; exact (getFits i x u _ hi (by omega) rfl HU.out).2
        have HY := Lib.hid hy0
        clear hy0
        by_cases hc : 128 ≤ x
        · have h8 : i ≤ 8 := by omega
          have h9b : ((i : Int) == 9) = false := by simp; omega
          have HN : Hid (getGo p (l.drop (p + (i + 1))) (i + 1) y = (ru, rn, re)) := by
            show _ = _
            rw [← HG.out, getGo_more p l i u hlt (by rw [← HX.out]; omega) (by rw [← HX.out]; exact hc), ← HX.out, ← HY.out]
          clear hw HRES HG HU HX HY
          go_wp2
          go_step3
          have e1 : ((i : Int) + 1) = ((i + 1 : Nat) : Int) := by omega
          rw [e1]
          exact ⟨rfl, rfl, i + 1, _, _, _, _, _, _, _, _, _, _, _, _, _, _, _, _, _, _, _, _, _, _, _, _, _, _, _, _, _, _, _, _, _, _, _, _, _, _, _, _, _, _, _, _, _, _, _, _, _, _, rfl, by omega, by omega, HF2, HN⟩
        · have hc' : x < 128 := by omega
          by_cases h8 : i ≤ 8
          · have h9b : ((i : Int) == 9) = false := by simp; omega
            rcases Nat.eq_zero_or_pos x with hz | hz
            · rcases Nat.eq_zero_or_pos i with hi0 | hi0
              · obtain ⟨hru, rfl, rfl⟩ := HRES.out _ _ _ (getGo_done p l i u hlt (by rw [← HX.out]; omega) (by rw [← HX.out]; omega) (by omega))
                have hzb : ((x : Int) == 0) = true := by simp; omega
                have hib : ((i : Int) + 1) ≤ 1 := by omega
                have HYX : Hid (ru = y) := by show _ = _; rw [hru, HY.out, HX.out]
                clear HRES HG HU HX HY hz hi0 hru hw HF2
                go_wp2
                simp only [Exit.jump]
                go_ret3
                exact ⟨by rw [HYX.out]; simp [Int.add_assoc], rfl⟩
              · obtain ⟨rfl, rfl, rfl⟩ := HRES.out _ _ _ (getGo_form p l i u hlt (by rw [← HX.out]; exact hz) hi0)
                have hzb : ((x : Int) == 0) = true := by simp; omega
                clear HRES HG HU HX HY hz hw HF2
                go_wp2
                simp only [Exit.jump]
                go_ret3
                exact ⟨rfl, rfl⟩
            · obtain ⟨hru, rfl, rfl⟩ := HRES.out _ _ _ (getGo_done p l i u hlt (by rw [← HX.out]; omega) (by rw [← HX.out]; omega) (by rw [← HX.out]; omega))
              have hzb : ((x : Int) == 0) = false := by simp; omega
              have HYX : Hid (ru = y) := by show _ = _; rw [hru, HY.out, HX.out]
              clear HRES HG HU HX HY hru hw HF2
              go_wp2
              simp only [Exit.jump]
              go_ret3
              exact ⟨by rw [HYX.out]; simp [Int.add_assoc], rfl⟩
          · have h9b : ((i : Int) == 9) = true := by simp; omega
            have hx1 : x ≤ 1 := by omega
            have hi9 : 9 ≤ i := by omega
            rcases Nat.eq_zero_or_pos x with hz | hz
            · obtain ⟨rfl, rfl, rfl⟩ := HRES.out _ _ _ (getGo_form p l i u hlt (by rw [← HX.out]; exact hz) (by omega))
              have hzb : ((x : Int) == 0) = true := by simp; omega
              clear HRES HG HU HX HY hz hw HF2
              go_wp2
              simp only [Exit.jump]
              go_ret3
              exact ⟨rfl, rfl⟩
            · obtain ⟨hru, rfl, rfl⟩ := HRES.out _ _ _ (getGo_done p l i u hlt (by rw [← HX.out]; omega) (by rw [← HX.out]; omega) (by rw [← HX.out]; omega))
              have hzb : ((x : Int) == 0) = false := by simp; omega
              have HYX : Hid (ru = y) := by show _ = _; rw [hru, HY.out, HX.out]
              clear HRES HG HU HX HY hru hw HF2
              go_wp2
              simp only [Exit.jump]
              go_ret3
              exact ⟨by rw [HYX.out]; simp [Int.add_assoc], rfl⟩
    · obtain ⟨rfl, rfl, rfl⟩ := res3 (HG.out.symm.trans (getGo_end p l i u (by omega)))
      have hend : ((i : Int) == (l.length : Int) - (p : Int)) = true := by simp; omega
      clear HG HU HRES
      go_wp2
      simp only [Exit.jump]
      go_ret3
      exact ⟨rfl, rfl⟩
  · rintro a' w' ⟨rfl, i, u, u9, u10, u11, u12, u13, u14, u15, u16, u17, u18, u19, u20, u21, u22, u23, u24, u25, u26, u27, u28, u29, u30, u31, u32, u33, u34, u35, u36, u37, u38, u39, u40, u41, u42, u43, u44, u45, u46, u47, u48, u49, u50, u51, u52, u53, u54, u55, u56, u57, rfl, hi, hpi, HU, HG⟩
    have HRES : Hid (∀ a b c : Nat, getGo p (l.drop (p + i)) i u = (a, b, c) → ru = a ∧ rn = b ∧ re = c) := fun a b c h => res3 (HG.out.symm.trans h)
    by_cases hlt : p + i < l.length
    · obtain ⟨b1, o1, rfl, hb, hx, hx2⟩ := HA.out (p + i) hlt
      obtain ⟨x, hx0⟩ : ∃ x, x = l[p + i] := ⟨_, rfl⟩
      rw [← hx0] at hx hx2
      have HX := Lib.hid hx0
      clear hx0
      have hend : ((i : Int) == (l.length : Int) - (p : Int)) = false := by simp; omega
      by_cases hw : 9 ≤ i ∧ 1 < x
      · obtain ⟨hw1, hw2⟩ := hw
        obtain ⟨rfl, rfl, rfl⟩ := HRES.out _ _ _ (getGo_wide p l i u hlt (by omega) (by rw [← HX.out]; exact hw2))
        have h9b : ((i : Int) == 9) = true := by simp; omega
        clear HRES HG HX HU
        go_wp2
        simp only [Exit.jump]
        go_ret3
        exact ⟨rfl, rfl⟩
      · obtain ⟨y, hy0⟩ : ∃ y, y = u + x % 128 * 128 ^ i := ⟨_, rfl⟩
        have eo : bits BinOp.or IntKind.u64 (u : Int) (IntKind.u64.wrap ((x : Int) % 128 * 2 ^ (7 * i))) = (y : Int) := by rw [hy0]; exact orStep u x i hi (by omega) HU.out
        have HF2 : Hid (y < 128 ^ (i + 1)) := by show _ < _; rw [hy0]; exact (getFits i x u _ hi (by omega) rfl HU.out).2
        have HY := Lib.hid hy0
        clear hy0
        by_cases hc : 128 ≤ x
        · have h8 : i ≤ 8 := by omega
          have h9b : ((i : Int) == 9) = false := by simp; omega
          have HN : Hid (getGo p (l.drop (p + (i + 1))) (i + 1) y = (ru, rn, re)) := by
            show _ = _
            rw [← HG.out, getGo_more p l i u hlt (by rw [← HX.out]; omega) (by rw [← HX.out]; exact hc), ← HX.out, ← HY.out]
          clear hw HRES HG HU HX HY
          go_wp2
          go_step3
          have e1 : ((i : Int) + 1) = ((i + 1 : Nat) : Int) := by omega
          rw [e1]
          refine ⟨rfl, ⟨rfl, i + 1, _, _, _, _, _, _, _, _, _, _, _, _, _, _, _, _, _, _, _, _, _, _, _, _, _, _, _, _, _, _, _, _, _, _, _, _, _, _, _, _, _, _, _, _, _, _, _, _, _, _, rfl, by omega, by omega, HF2, HN⟩, ?_⟩
          simp [intOf]
          omega
        · have hc' : x < 128 := by omega
          by_cases h8 : i ≤ 8
          · have h9b : ((i : Int) == 9) = false := by simp; omega
            rcases Nat.eq_zero_or_pos x with hz | hz
            · rcases Nat.eq_zero_or_pos i with hi0 | hi0
              · obtain ⟨hru, rfl, rfl⟩ := HRES.out _ _ _ (getGo_done p l i u hlt (by rw [← HX.out]; omega) (by rw [← HX.out]; omega) (by omega))
                have hzb : ((x : Int) == 0) = true := by simp; omega
                have hib : ((i : Int) + 1) ≤ 1 := by omega
                have HYX : Hid (ru = y) := by show _ = _; rw [hru, HY.out, HX.out]
                clear HRES HG HU HX HY hz hi0 hru hw HF2
                go_wp2
                simp only [Exit.jump]
                go_ret3
                exact ⟨by rw [HYX.out]; simp [Int.add_assoc], rfl⟩
              · obtain ⟨rfl, rfl, rfl⟩ := HRES.out _ _ _ (getGo_form p l i u hlt (by rw [← HX.out]; exact hz) hi0)
                have hzb : ((x : Int) == 0) = true := by simp; omega
                clear HRES HG HU HX HY hz hw HF2
                go_wp2
                simp only [Exit.jump]
                go_ret3
                exact ⟨rfl, rfl⟩
            · obtain ⟨hru, rfl, rfl⟩ := HRES.out _ _ _ (getGo_done p l i u hlt (by rw [← HX.out]; omega) (by rw [← HX.out]; omega) (by rw [← HX.out]; omega))
              have hzb : ((x : Int) == 0) = false := by simp; omega
              have HYX : Hid (ru = y) := by show _ = _; rw [hru, HY.out, HX.out]
              clear HRES HG HU HX HY hru hw HF2
              go_wp2
              simp only [Exit.jump]
              go_ret3
              exact ⟨by rw [HYX.out]; simp [Int.add_assoc], rfl⟩
          · have h9b : ((i : Int) == 9) = true := by simp; omega
            have hx1 : x ≤ 1 := by omega
            have hi9 : 9 ≤ i := by omega
            rcases Nat.eq_zero_or_pos x with hz | hz
            · obtain ⟨rfl, rfl, rfl⟩ := HRES.out _ _ _ (getGo_form p l i u hlt (by rw [← HX.out]; exact hz) (by omega))
              have hzb : ((x : Int) == 0) = true := by simp; omega
              clear HRES HG HU HX HY hz hw HF2
              go_wp2
              simp only [Exit.jump]
              go_ret3
              exact ⟨rfl, rfl⟩
            · obtain ⟨hru, rfl, rfl⟩ := HRES.out _ _ _ (getGo_done p l i u hlt (by rw [← HX.out]; omega) (by rw [← HX.out]; omega) (by rw [← HX.out]; omega))
              have hzb : ((x : Int) == 0) = false := by simp; omega
              have HYX : Hid (ru = y) := by show _ = _; rw [hru, HY.out, HX.out]
              clear HRES HG HU HX HY hru hw HF2
              go_wp2
              simp only [Exit.jump]
              go_ret3
              exact ⟨by rw [HYX.out]; simp [Int.add_assoc], rfl⟩
    · obtain ⟨rfl, rfl, rfl⟩ := res3 (HG.out.symm.trans (getGo_end p l i u (by omega)))
      have hend : ((i : Int) == (l.length : Int) - (p : Int)) = true := by simp; omega
      clear HG HU HRES
      go_wp2
      simp only [Exit.jump]
      go_ret3
      exact ⟨rfl, rfl⟩
end Go.Proofs.Ytbmjiheclagfiaa
