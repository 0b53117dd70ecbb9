/-
  The walk of skeinref01.Order for any two rows: how they stand, the shorter ahead of what it begins.
-/
import Derived.Test.YtbmjiheclagfiaaN10
namespace Go.Proofs.Ytbmjiheclagfiaa
open Go.RowKit
set_option linter.unusedVariables false

/-- How two rows stand: -1, 0, 1. -/
def lexI : List Nat → List Nat → Int
  | [], [] => 0
  | [], _ :: _ => -1
  | _ :: _, [] => 1
  | x :: a, y :: b => if x < y then -1 else if y < x then 1 else lexI a b
theorem lexI_take : ∀ (k : Nat) (a b : List Nat), k ≤ a.length → k ≤ b.length → a.take k = b.take k → lexI a b = lexI (a.drop k) (b.drop k)
  | 0, a, b, _, _, _ => by simp
  | k + 1, [], b, h, _, _ => by simp at h
  | k + 1, a, [], _, h, _ => by simp at h
  | k + 1, x :: a, y :: b, h1, h2, h => by
    simp only [List.take_succ_cons, List.cons.injEq] at h
    obtain ⟨rfl, h⟩ := h
    rw [List.drop_succ_cons, List.drop_succ_cons, lexI, if_neg (Nat.lt_irrefl _), if_neg (Nat.lt_irrefl _)]
    exact lexI_take k a b (by simpa using h1) (by simpa using h2) h

set_option maxHeartbeats 1000000 in
theorem order_lex (u v : Value) (a b : List Nat) (w : World) (B : Nat) (hu : RB w B u a) (hv : RB w B v b) (r : Int) (hr : r = lexI a b) :
    Calls Try.prog 27 #[u, v] w fun e w' => e = .returned (.int .i64 r) ∧ ∃ n, w' = w.drewN n := by
  have H1 : Hid (∀ k (h1 : k < a.length) (h2 : k < b.length), a.take k = b.take k → a[k] < b[k] → r = -1) := by
    intro k h1 h2 ht hx
    rw [hr, lexI_take k a b (by omega) (by omega) ht, List.drop_eq_getElem_cons h1, List.drop_eq_getElem_cons h2, lexI, if_pos hx]
  have H2 : Hid (∀ k (h1 : k < a.length) (h2 : k < b.length), a.take k = b.take k → b[k] < a[k] → r = 1) := by
    intro k h1 h2 ht hx
    rw [hr, lexI_take k a b (by omega) (by omega) ht, List.drop_eq_getElem_cons h1, List.drop_eq_getElem_cons h2, lexI, if_neg (by omega), if_pos hx]
  have H3 : Hid (∀ k, k = a.length → k = b.length → a.take k = b.take k → r = 0) := by
    intro k h1 h2 ht
    rw [hr, lexI_take k a b (by omega) (by omega) ht, h1, List.drop_length, ← h1, h2, List.drop_length, lexI]
  have H4 : Hid (∀ k, k = a.length → k < b.length → a.take k = b.take k → r = -1) := by
    intro k h1 h2 ht
    rw [hr, lexI_take k a b (by omega) (by omega) ht, (List.drop_eq_nil_of_le (by omega) : a.drop k = []), List.drop_eq_getElem_cons h2, lexI]
  have H5 : Hid (∀ k, k < a.length → k = b.length → a.take k = b.take k → r = 1) := by
    intro k h1 h2 ht
    rw [hr, lexI_take k a b (by omega) (by omega) ht, (List.drop_eq_nil_of_le (by omega) : b.drop k = []), List.drop_eq_getElem_cons h1, lexI]
  clear hr
  obtain ⟨A, c, rfl, ha1, ha2, ha3, HA⟩ := hu.open_
  obtain ⟨A', c', rfl, hb1, hb2, hb3, HB⟩ := hv.open_
  clear hu hv
  obtain ⟨n, hn⟩ : ∃ n, n = a.length := ⟨_, rfl⟩
  obtain ⟨m, hn'⟩ : ∃ m, m = b.length := ⟨_, rfl⟩
  rw [← hn] at ha1 ha3 ⊢
  rw [← hn'] at hb1 hb3 ⊢
  have HN := Lib.hid hn
  have HN' := Lib.hid hn'
  clear hn hn'
  go_enter Try.func27, Try.ntmps27
  go_wp2
  go_loopw [5] (fun i wr => ∃ k q : Nat, k ≤ n ∧ k ≤ m ∧ i = .int .i64 k ∧ wr = w.drewN q ∧ Hid (a.take k = b.take k)) (fun i wr => n - (intOf i).toNat)
  case atStart => exact ⟨0, 0, Nat.zero_le _, Nat.zero_le _, rfl, rfl, rfl⟩
  case round =>
    obtain ⟨k, q, hk, hkm, rfl, rfl, HT⟩ := hrel
    by_cases hlt : k < n
    · by_cases hlt' : k < m
      · obtain ⟨b1, o1, rfl, hb, hx, hx2⟩ := HA.out k (by have := HN.out; omega)
        obtain ⟨b2, o2, rfl, hb', hy, hy2⟩ := HB.out k (by have := HN'.out; omega)
        obtain ⟨x, hx0⟩ : ∃ x, x = a[k]'(by have := HN.out; omega) := ⟨_, rfl⟩
        obtain ⟨y, hy0⟩ : ∃ y, y = b[k]'(by have := HN'.out; omega) := ⟨_, rfl⟩
        rw [← hx0] at hx hx2
        rw [← hy0] at hy hy2
        have HX := Lib.hid hx0
        have HY := Lib.hid hy0
        clear hx0 hy0
        by_cases hxy : x < y
        · have hrf : r = -1 := H1.out k (by have := HN.out; omega) (by have := HN'.out; omega) HT.out (by rw [← HX.out, ← HY.out]; exact hxy)
          subst hrf
          go_wp2
          go_quiet (fail)
          go_wp2
          go_ret
          exact ⟨rfl, _, World.drewN_drewN ..⟩
        · by_cases hyx : y < x
          · have hrf : r = 1 := H2.out k (by have := HN.out; omega) (by have := HN'.out; omega) HT.out (by rw [← HX.out, ← HY.out]; exact hyx)
            subst hrf
            go_wp2
            go_quiet (fail)
            go_wp2
            go_quiet (fail)
            go_wp2
            go_ret
            exact ⟨rfl, _, by rw [World.drewN_drewN, World.drewN_drewN]⟩
          · obtain rfl : x = y := by omega
            go_wp2
            go_quiet (fail)
            go_wp2
            go_quiet (fail)
            go_wp2
            go_roundw
            case rel =>
              refine ⟨k + 1, _, by omega, by omega, by go_num, rfl, ?_⟩
              show _ = _
              rw [List.take_succ_eq_append_getElem (by have := HN.out; omega), List.take_succ_eq_append_getElem (by have := HN'.out; omega), HT.out, ← HX.out, ← HY.out]
            case measure => simp [intOf]; omega
      · obtain rfl : k = m := by omega
        have hrt : r = 1 := H5.out k (by have := HN.out; omega) HN'.out HT.out
        subst hrt
        go_wp2
        go_ret
        exact ⟨rfl, _, rfl⟩
    · obtain rfl : k = n := by omega
      by_cases hlt' : k < m
      · have hrt : r = -1 := H4.out k HN.out (by have := HN'.out; omega) HT.out
        subst hrt
        go_wp2
        go_ret
        exact ⟨rfl, _, rfl⟩
      · obtain rfl : k = m := by omega
        have hrt : r = 0 := H3.out k HN.out HN'.out HT.out
        subst hrt
        go_wp2
        go_ret
        exact ⟨rfl, _, rfl⟩
end Go.Proofs.Ytbmjiheclagfiaa
