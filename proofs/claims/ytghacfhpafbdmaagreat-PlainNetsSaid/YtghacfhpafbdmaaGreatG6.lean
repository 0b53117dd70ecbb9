/-
  The walks of plain's isId and rightVerts.
-/
import Derived.Test.YtghacfhpafbdmaaGreatG5
import Derived.Outline
namespace Go.Proofs.YtghacfhpafbdmaaGreat
open Go.RowKit
set_option linter.unusedVariables false

theorem isId_any (i : Int) (w : World) : Calls Tryz.prog 78 #[.int .i64 i] w fun e w' => e = .returned (.bool (idB i)) ∧ w = w' := by
  unfold idB
  by_cases h1 : 1 ≤ i <;> by_cases h2 : i ≤ 2147483647
  all_goals
    go_enter Tryz.func78, Tryz.ntmps78
    go_wp2
    go_ret
    exact ⟨by simp [h1, h2], rfl⟩

set_option maxHeartbeats 1000000 in
theorem rightVerts_any (v : Value) (V : List Int) (w : World) (B : Nat) (hv : RI w B v V) :
    Calls Tryz.prog 36 #[v] w fun e w' => e = .returned (.bool (rightV V)) ∧ ∃ q, w' = w.drewN q := by
  obtain ⟨A, c, rfl, hc1, hc2, hc3, HC⟩ := hv.open_
  clear hv
  obtain ⟨n, hn⟩ : ∃ n, n = V.length := ⟨_, rfl⟩
  rw [← hn] at hc1 hc3 ⊢
  have HN := Lib.hid hn
  clear hn
  by_cases hbig : n ≤ 2048
  · have HR : Hid (rightV V = okV 0 V) := by unfold rightV; rw [← HN.out, decide_eq_true hbig]; rfl
    go_enter Tryz.func36, Tryz.ntmps36
    go_wp2
    go_loopw [3, 5, 11] (fun l _ i wr => ∃ (k q : Nat) (x : Int), k ≤ n ∧ i = .int .i64 k ∧ l = .int .i64 x ∧ wr = w.drewN q ∧ Hid (rightV V = okV x (V.drop k))) (fun _ _ i wr => n - (intOf i).toNat)
    case atStart => exact ⟨0, 0, 0, Nat.zero_le _, rfl, rfl, rfl, HR⟩
    case round =>
      obtain ⟨k, q, x, hk, rfl, rfl, rfl, HT⟩ := hrel
      by_cases hlt : k < n
      · obtain ⟨b, o, rfl, hb, hx⟩ := HC.out k (by have := HN.out; omega)
        have hx := cellI hx
        obtain ⟨y, hy⟩ : ∃ y, y = V[k]'(by have := HN.out; omega) := ⟨_, rfl⟩
        rw [← hy] at hx
        have HD : Hid (okV x (V.drop k) = ((idB y && decide (x < y)) && okV y (V.drop (k + 1)))) := by
          rw [List.drop_eq_getElem_cons (by have := HN.out; omega), ← hy]; rfl
        clear hy
        cases hid : idB y
        · have HF : Hid (rightV V = false) := by show _ = _; rw [HT.out, HD.out, hid]; rfl
          go_wp2_with (go_at_call 78; refine (isId_any _ _).mono ?_; rintro e w' ⟨rfl, rfl⟩)
          go_ret
          exact ⟨by rw [HF.out]; rfl, q, rfl⟩
        · by_cases hxy : x < y
          · have HT' : Hid (rightV V = okV y (V.drop (k + 1))) := by show _ = _; rw [HT.out, HD.out, hid, decide_eq_true hxy]; rfl
            go_wp2_with (go_at_call 78; refine (isId_any _ _).mono ?_; rintro e w' ⟨rfl, rfl⟩)
            go_roundw
            case rel => exact ⟨k + 1, q, y, by omega, by go_num, rfl, rfl, HT'⟩
            case measure => simp [intOf]; omega
          · have HF : Hid (rightV V = false) := by show _ = _; rw [HT.out, HD.out, hid, decide_eq_false hxy]; rfl
            go_wp2_with (go_at_call 78; refine (isId_any _ _).mono ?_; rintro e w' ⟨rfl, rfl⟩)
            go_ret
            exact ⟨by rw [HF.out]; rfl, q, rfl⟩
      · obtain rfl : k = n := by omega
        have HF : Hid (rightV V = true) := by
          show _ = _
          rw [HT.out, List.drop_eq_nil_of_le (by have := HN.out; omega)]; rfl
        go_wp2
        go_ret
        exact ⟨by rw [HF.out]; rfl, q, rfl⟩
  · have HF : Hid (rightV V = false) := by unfold rightV; rw [← HN.out, decide_eq_false hbig]; rfl
    go_enter Tryz.func36, Tryz.ntmps36
    go_wp2
    go_ret
    exact ⟨by rw [HF.out]; rfl, 0, rfl⟩
end Go.Proofs.YtghacfhpafbdmaaGreat
