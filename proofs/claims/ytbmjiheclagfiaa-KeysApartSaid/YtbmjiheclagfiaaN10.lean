/-
  The walk of skeinref01.Order, for two rows of one length: what it tells is how their numbers stand.
-/
import Derived.Test.YtbmjiheclagfiaaN7
namespace Go.Proofs.Ytbmjiheclagfiaa
open Go.RowKit
set_option linter.unusedVariables false

theorem val_app : ∀ (p q : List Nat), val (p ++ q) = val p * 256 ^ q.length + val q
  | [], q => by simp [val]
  | a :: p, q => by
    rw [List.cons_append, val, val, val_app p q, List.length_append, Nat.pow_add, Nat.add_mul, ← Nat.mul_assoc, Nat.add_assoc]

theorem val_less (a b : List Nat) (k : Nat) (ha : k < a.length) (hb : k < b.length) (hl : a.length = b.length) (h256 : ∀ x ∈ a, x < 256)
    (ht : a.take k = b.take k) (hx : a[k] < b[k]) : val a < val b := by
  have ea : a = a.take k ++ a[k] :: a.drop (k + 1) := by rw [List.getElem_cons_drop, List.take_append_drop]
  have eb : b = b.take k ++ b[k] :: b.drop (k + 1) := by rw [List.getElem_cons_drop, List.take_append_drop]
  have hq := val_lt (a.drop (k + 1)) (fun x hx => h256 x (List.mem_of_mem_drop hx))
  have hm : (a.drop (k + 1)).length = (b.drop (k + 1)).length := by simp [hl]
  have va : val a = val (b.take k) * 256 ^ ((b.drop (k + 1)).length + 1) + (a[k] * 256 ^ (b.drop (k + 1)).length + val (a.drop (k + 1))) := by
    conv => lhs; rw [ea]
    rw [val_app, val, List.length_cons, ht, hm]
  have vb : val b = val (b.take k) * 256 ^ ((b.drop (k + 1)).length + 1) + (b[k] * 256 ^ (b.drop (k + 1)).length + val (b.drop (k + 1))) := by
    conv => lhs; rw [eb]
    rw [val_app, val, List.length_cons]
  rw [hm] at hq
  have h1 : (a[k] + 1) * 256 ^ (b.drop (k + 1)).length ≤ b[k] * 256 ^ (b.drop (k + 1)).length := Nat.mul_le_mul_right _ hx
  rw [Nat.add_mul] at h1
  rw [va, vb]
  omega

/-- How two numbers stand: -1, 0, 1. (Not reducible: the walk leaves it alone.) -/
def ordI (x y : Nat) : Int := if x < y then -1 else if y < x then 1 else 0

set_option maxHeartbeats 400000 in
theorem order_any (u v : Value) (a b : List Nat) (w : World) (B : Nat) (hu : RB w B u a) (hv : RB w B v b) (hl : a.length = b.length) (r : Int) (hr : r = ordI (val a) (val b)) :
    Calls Try.prog 27 #[u, v] w fun e w' => e = .returned (.int .i64 r) ∧ ∃ n, w' = w.drewN n := by
  have H1 : Hid (∀ k (h1 : k < a.length) (h2 : k < b.length), a.take k = b.take k → a[k] < b[k] → r = -1) := by
    intro k h1 h2 ht hx
    rw [hr]
    unfold ordI
    rw [if_pos (val_less a b k h1 h2 hl hu.1 ht hx)]
  have H2 : Hid (∀ k (h1 : k < a.length) (h2 : k < b.length), a.take k = b.take k → b[k] < a[k] → r = 1) := by
    intro k h1 h2 ht hx
    have := val_less b a k h2 h1 hl.symm hv.1 ht.symm hx
    rw [hr]
    unfold ordI
    rw [if_neg (by omega), if_pos this]
  have H3 : Hid (a = b → r = 0) := by
    intro e
    rw [hr, e]
    unfold ordI
    rw [if_neg (by omega), if_neg (by omega)]
  clear hr
  obtain ⟨A, c, rfl, ha1, ha2, ha3, HA⟩ := hu.open_
  obtain ⟨A', c', rfl, hb1, hb2, hb3, HB⟩ := hv.open_
  clear hu hv
  obtain ⟨n, hn⟩ : ∃ n, n = a.length := ⟨_, rfl⟩
  have hn' : n = b.length := by omega
  rw [← hn] at ha1 ha3 ⊢
  rw [← hn'] at hb1 hb3 ⊢
  have HN := Lib.hid hn
  have HN' := Lib.hid hn'
  clear hl hn hn'
  go_enter Try.func27, Try.ntmps27
  go_wp2
  go_loopw [5] (fun i wr => ∃ k m : Nat, k ≤ n ∧ i = .int .i64 k ∧ wr = w.drewN m ∧ Hid (a.take k = b.take k)) (fun i wr => n - (intOf i).toNat)
  case atStart => exact ⟨0, 0, Nat.zero_le _, rfl, rfl, rfl⟩
  case round =>
    obtain ⟨k, m, hk, rfl, rfl, HT⟩ := hrel
    by_cases hlt : k < n
    · obtain ⟨b1, o1, rfl, hb, hx, hx2⟩ := HA.out k (by have := HN.out; omega)
      obtain ⟨b2, o2, rfl, hb', hy, hy2⟩ := HB.out k (by have := HN'.out; omega)
      obtain ⟨x, hx0⟩ : ∃ x, x = a[k]'(by have := HN.out; omega) := ⟨_, rfl⟩
      obtain ⟨y, hy0⟩ : ∃ y, y = b[k]'(by have := HN'.out; omega) := ⟨_, rfl⟩
      rw [← hx0] at hx hx2
      rw [← hy0] at hy hy2
      have HX := Lib.hid hx0
      have HY := Lib.hid hy0
      clear hx0 hy0
      by_cases hxy : x < y
      · have hrf : r = -1 := H1.out k (by have := HN.out; omega) (by have := HN'.out; omega) HT.out (by rw [← HX.out, ← HY.out]; exact hxy)
        subst hrf
        go_wp2
        go_quiet (fail)
        go_wp2
        go_ret
        exact ⟨rfl, _, World.drewN_drewN ..⟩
      · by_cases hyx : y < x
        · have hrf : r = 1 := H2.out k (by have := HN.out; omega) (by have := HN'.out; omega) HT.out (by rw [← HX.out, ← HY.out]; exact hyx)
          subst hrf
          go_wp2
          go_quiet (fail)
          go_wp2
          go_quiet (fail)
          go_wp2
          go_ret
          exact ⟨rfl, _, by rw [World.drewN_drewN, World.drewN_drewN]⟩
        · obtain rfl : x = y := by omega
          go_wp2
          go_quiet (fail)
          go_wp2
          go_quiet (fail)
          go_wp2
          go_roundw
          case rel =>
            refine ⟨k + 1, _, by omega, by go_num, rfl, ?_⟩
            show _ = _
            rw [List.take_succ_eq_append_getElem (by have := HN.out; omega), List.take_succ_eq_append_getElem (by have := HN'.out; omega), HT.out, ← HX.out, ← HY.out]
          case measure => simp [intOf]; omega
    · obtain rfl : k = n := by omega
      have hrt : r = 0 := by
        apply H3.out
        have h := HT.out
        rw [List.take_of_length_le (by have := HN.out; omega), List.take_of_length_le (by have := HN'.out; omega)] at h
        exact h
      subst hrt
      go_wp2
      go_ret
      exact ⟨rfl, _, rfl⟩
end Go.Proofs.Ytbmjiheclagfiaa
