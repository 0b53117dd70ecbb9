/-
  The walks of skeinref01's Has and SameInts; lists of lists opened.
-/
import Derived.Test.YtcdockoflkmkmaaGreatT5
namespace Go.Proofs.YtcdockoflkmkmaaGreat
open Go.RowKit
set_option linter.unusedVariables false

theorem Has_any (v : Value) (V : List Int) (x : Int) (q : Bool) (hq : V.contains x = q) (w : World) (B : Nat) (hv : RI w B v V) :
    Calls Tryz.prog 30 #[v, .int .i64 x] w fun e w' => e = .returned (.bool q) ∧ w = w' := by
  obtain ⟨A, c, rfl, hc1, hc2, hc3, HC⟩ := hv.open_
  clear hv
  obtain ⟨n, hn⟩ : ∃ n, n = V.length := ⟨_, rfl⟩
  rw [← hn] at hc1 hc3 ⊢
  have HN := Lib.hid hn
  have HQ : Hid ((V.drop 0).contains x = q) := hq
  clear hn hq
  go_enter Tryz.func30, Tryz.ntmps30
  go_wp2
  go_loop [5] (fun i => ∃ k : Nat, k ≤ n ∧ i = .int .i64 k ∧ Hid ((V.drop k).contains x = q)) (fun i => n - (intOf i).toNat)
  case atStart => exact ⟨0, Nat.zero_le _, rfl, HQ⟩
  case round =>
    obtain ⟨k, hk, rfl, HT⟩ := hrel
    by_cases hlt : k < n
    · obtain ⟨b, o, rfl, hb, hx⟩ := HC.out k (by have := HN.out; omega)
      have hx := cellI hx
      obtain ⟨y, hy⟩ : ∃ y, y = V[k]'(by have := HN.out; omega) := ⟨_, rfl⟩
      rw [← hy] at hx
      have HD : Hid ((V.drop k).contains x = (x == y || (V.drop (k + 1)).contains x)) := by
        rw [List.drop_eq_getElem_cons (by have := HN.out; omega), ← hy]; rfl
      clear hy
      by_cases hxy : y = x
      · have HF : Hid (q = true) := by show _ = _; rw [← HT.out, HD.out, hxy]; simp
        subst hxy
        clear HD HT
        go_wp2
        go_ret
        exact ⟨by rw [HF.out]; rfl, rfl⟩
      · have HT' : Hid ((V.drop (k + 1)).contains x = q) := by
          show _ = _
          rw [← HT.out, HD.out]
          have : (x == y) = false := by simpa using fun e => hxy e.symm
          rw [this]; rfl
        clear HD HT
        go_wp2
        go_round
        case rel => exact ⟨k + 1, by omega, by go_num, HT'⟩
        case measure => simp [intOf]; omega
    · obtain rfl : k = n := by omega
      have HF : Hid (q = false) := by
        show _ = _
        rw [← HT.out, List.drop_eq_nil_of_le (by have := HN.out; omega)]; rfl
      go_wp2
      go_ret
      exact ⟨by rw [HF.out]; rfl, rfl⟩

theorem RLs.open_ {w : World} {B : Nat} {v : Value} {ls : List (List Int)} (h : RLs w B v ls) : ∃ A c, v = .slice A ls.length c ∧ ls.length ≤ c ∧ c ≤ 9223372036854775807 ∧ ls.length ≤ 140737488355328 ∧
    Hid (∀ i, (hi : i < ls.length) → ∃ b o s, A = some ⟨b, o, none⟩ ∧ b < B ∧ w.cell? ⟨b, o + i, none⟩ = some s ∧ RI w B s ls[i]) := by
  obtain ⟨ts, h1, h2, h3⟩ := h
  obtain ⟨A, c, rfl, h4, h5, h6, HC⟩ := h2.open_
  refine ⟨A, c, by rw [h1], by omega, h5, by omega, fun i hi => ?_⟩
  obtain ⟨b, o, hA, hb, hx⟩ := HC.out i (by omega)
  have hx := hx 0 _ rfl
  refine ⟨b, o, _, hA, hb, by simpa using hx, h3 i _ _ (List.getElem?_eq_getElem _) (List.getElem?_eq_getElem hi)⟩
theorem RLs.below {w w' : World} {B : Nat} {v : Value} {ls : List (List Int)} (h : RLs w B v ls) (hb : Below B w w') : RLs w' B v ls := by
  obtain ⟨ts, h1, h2, h3⟩ := h
  exact ⟨ts, h1, h2.below hb, fun i t l ht hl => (h3 i t l ht hl).below hb⟩
end Go.Proofs.YtcdockoflkmkmaaGreat
