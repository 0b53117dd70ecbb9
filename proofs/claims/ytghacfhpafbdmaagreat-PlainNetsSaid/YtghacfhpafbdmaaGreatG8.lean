/-
  The walk of plain's rightEdges.
-/
import Derived.Test.YtghacfhpafbdmaaGreatG7
namespace Go.Proofs.YtghacfhpafbdmaaGreat
open Go.RowKit
set_option linter.unusedVariables false

theorem isVert_q (sv se : Value) (V : List Int) (x : Int) (q : Bool) (hq : V.contains x = q) (w : World) (B : Nat) (hv : RI w B sv V) (hB : B ≤ w.heap.size) (hs : V.Pairwise (· < ·)) :
    Calls Tryz.prog 79 #[netV sv se, .int .i64 x] w fun e w' => e = .returned (.bool q) ∧ Below w.heap.size w w' := by
  subst hq
  exact isVert_any sv se V x w B hv hB hs

set_option maxHeartbeats 4000000 in
theorem rightEdges_any (sv se : Value) (V : List Int) (E : List Ed) (w : World) (B : Nat) (hv : RI w B sv V) (he : RE w B se E) (hB : B ≤ w.heap.size) (hs : V.Pairwise (· < ·)) :
    Calls Tryz.prog 37 #[netV sv se] w fun e w' => e = .returned (.bool (rightE V E)) ∧ Below w.heap.size w w' := by
  have HS := Lib.hid hs
  clear hs
  have HV := Lib.hid (hv.alloc hB (.cells #[sv, se] 25))
  obtain ⟨A, c, rfl, hc1, hc2, hc3, HC⟩ := he.open_
  clear hv he
  obtain ⟨n, hn⟩ : ∃ n, n = E.length := ⟨_, rfl⟩
  rw [← hn] at hc1 hc3 HV ⊢
  have HN := Lib.hid hn
  clear hn
  by_cases hbig : n ≤ 2048
  · have HR : Hid (rightE V E = okE V 0 E) := by unfold rightE; rw [← HN.out, decide_eq_true hbig]; rfl
    go_enter Tryz.func37, Tryz.ntmps37
    go_wp2
    go_loopw [3, 13] (fun l i wr => ∃ (k : Nat) (x : Int), k ≤ n ∧ i = .int .i64 k ∧ l = .int .i64 x ∧ Below (w.heap.size + 1) (w.alloc (.cells #[sv, .slice A n c] 25)) wr ∧ Hid (rightE V E = okE V x (E.drop k))) (fun _ i wr => n - (intOf i).toNat)
    case atStart => exact ⟨0, 0, Nat.zero_le _, rfl, rfl, Below.refl _ _, HR⟩
    case round =>
      obtain ⟨k, x, hk, rfl, rfl, hbel, HT⟩ := hrel
      by_cases hlt : k < n
      · obtain ⟨b, o, rfl, hb, hx⟩ := HC.out k (by have := HN.out; omega)
        obtain ⟨e, hy⟩ : ∃ e, e = E[k]'(by have := HN.out; omega) := ⟨_, rfl⟩
        rw [← hy] at hx
        obtain ⟨x0, x1, x2, x3⟩ := cellE hx
        clear hx
        have HD : Hid (okE V x (E.drop k) = ((((idB e.id && decide (x < e.id)) && (decide (0 ≤ e.w) && decide (e.w ≤ 1099511627776))) && (V.contains e.u && V.contains e.v)) && okE V e.id (E.drop (k + 1)))) := by
          rw [List.drop_eq_getElem_cons (by have := HN.out; omega), ← hy]; rfl
        clear hy
        have hbw : Below w.heap.size w wr := ((Below.refl _ _).alloc (Nat.le_refl _) _).trans (hbel.mono (by omega))
        have x0 := (hbw.cell (p := ⟨b, o + k * 4, none⟩) (by show b < _; omega)).trans x0
        have x1 := (hbw.cell (p := ⟨b, o + k * 4 + 1, none⟩) (by show b < _; omega)).trans x1
        have x2 := (hbw.cell (p := ⟨b, o + k * 4 + 2, none⟩) (by show b < _; omega)).trans x2
        have x3 := (hbw.cell (p := ⟨b, o + k * 4 + 3, none⟩) (by show b < _; omega)).trans x3
        have b0 : wr.cell? ⟨w.heap.size, 0, none⟩ = some sv := (hbel.cell (p := ⟨w.heap.size, 0, none⟩) (by show w.heap.size < _; omega)).trans (by simp)
        have b1 : wr.cell? ⟨w.heap.size, 1, none⟩ = some (.slice (some ⟨b, o, none⟩) n c) := (hbel.cell (p := ⟨w.heap.size, 1, none⟩) (by show w.heap.size < _; omega)).trans (by simp)
        have HV1 := Lib.hid (HV.out.below (hbel.mono (by omega)))
        have hsz := hbel.size
        simp only [World.alloc, Array.size_push] at hsz
        have hsz1 : w.heap.size < wr.heap.size := by omega
        have hsz2 : w.heap.size < wr.heap.size + 1 := by omega
        have hsz3 : b < wr.heap.size + 1 := by omega
        clear hsz
        have HB := Lib.hid hbel
        have HW := Lib.hid hbw
        clear hbw
        clear hbel
        generalize e.id = eid at *
        generalize e.u = eu at *
        generalize e.v = ev at *
        generalize e.w = ew at *
        cases hid : idB eid
        · have HF : Hid (rightE V E = false) := by show _ = _; rw [HT.out, HD.out, hid]; rfl
          go_wp2_with (go_at_call 78; refine (isId_any _ _).mono ?_; rw [hid]; rintro e w' ⟨rfl, rfl⟩)
          go_ret
          exact ⟨by rw [HF.out]; rfl, HW.out.alloc (by omega) _⟩
        · by_cases hlt2 : x < eid
          · by_cases h0 : 0 ≤ ew
            · by_cases h1 : ew ≤ 1099511627776
              · cases hu : V.contains eu
                · have HF : Hid (rightE V E = false) := by show _ = _; rw [HT.out, HD.out, hid, decide_eq_true hlt2, decide_eq_true h0, decide_eq_true h1, hu]; rfl
                  go_wp2_with (first | (go_at_call 78; refine (isId_any _ _).mono ?_; rw [hid]; rintro e w' ⟨rfl, rfl⟩) | (go_at_call 79; refine (isVert_q _ _ V _ _ hu _ B (HV1.out.alloc (by omega) _) (by simp; omega) HS.out).mono ?_; rintro e w1 ⟨rfl, hb1⟩; have HB1 := Lib.hid hb1; clear hb1))
                  go_ret
                  exact ⟨by rw [HF.out]; rfl, (HW.out.alloc (by omega) _).trans (HB1.out.mono (by simp; omega))⟩
                · cases hv : V.contains ev
                  · have HF : Hid (rightE V E = false) := by show _ = _; rw [HT.out, HD.out, hid, decide_eq_true hlt2, decide_eq_true h0, decide_eq_true h1, hu, hv]; rfl
                    go_wp2_with (go_at_call 78; refine (isId_any _ _).mono ?_; rw [hid]; rintro e w' ⟨rfl, rfl⟩)
                    refine (isVert_q _ _ V _ _ hu _ B (HV1.out.alloc (by omega) _) (by simp; omega) HS.out).mono ?_
                    rintro e w1 ⟨rfl, hb1⟩
                    have HB1 := Lib.hid hb1
                    obtain ⟨bc, bf⟩ := bcell hb1
                    have hs1 := hb1.size
                    simp at hs1
                    have hs2 : w.heap.size < w1.heap.size := by omega
                    have hs3 : wr.heap.size < w1.heap.size := by omega
                    clear hb1 hs1
                    go_wp2_with fail
                    refine (isVert_q _ _ V _ _ hv _ B ((HV1.out.alloc (by omega) _).below (HB1.out.mono (by simp; omega))) (by omega) HS.out).mono ?_
                    rintro e w2 ⟨rfl, hb2⟩
                    have HB2 := Lib.hid hb2
                    obtain ⟨cc, cf⟩ := bcell hb2
                    clear hb2
                    go_wp2_with fail
                    go_ret
                    exact ⟨by rw [HF.out]; rfl, ((HW.out.alloc (by omega) _).trans (HB1.out.mono (by simp; omega))).trans (HB2.out.mono (by have := HB1.out.size; simp at this; omega))⟩
                  · have HT' : Hid (rightE V E = okE V eid (E.drop (k + 1))) := by show _ = _; rw [HT.out, HD.out, hid, decide_eq_true hlt2, decide_eq_true h0, decide_eq_true h1, hu, hv]; rfl
                    go_wp2_with (go_at_call 78; refine (isId_any _ _).mono ?_; rw [hid]; rintro e w' ⟨rfl, rfl⟩)
                    refine (isVert_q _ _ V _ _ hu _ B (HV1.out.alloc (by omega) _) (by simp; omega) HS.out).mono ?_
                    rintro e w1 ⟨rfl, hb1⟩
                    have HB1 := Lib.hid hb1
                    obtain ⟨bc, bf⟩ := bcell hb1
                    have hs1 := hb1.size
                    simp at hs1
                    have hs2 : w.heap.size < w1.heap.size := by omega
                    have hs3 : wr.heap.size < w1.heap.size := by omega
                    clear hb1 hs1
                    go_wp2_with fail
                    refine (isVert_q _ _ V _ _ hv _ B ((HV1.out.alloc (by omega) _).below (HB1.out.mono (by simp; omega))) (by omega) HS.out).mono ?_
                    rintro e w2 ⟨rfl, hb2⟩
                    have HB2 := Lib.hid hb2
                    obtain ⟨cc, cf⟩ := bcell hb2
                    clear hb2
                    go_wp2_with fail
                    go_roundw
                    case rel => exact ⟨k + 1, eid, by omega, by go_num, rfl, ((HB.out.alloc (by omega) _).trans (HB1.out.mono (by simp; omega))).trans (HB2.out.mono (by omega)), HT'⟩
                    case measure => simp [intOf]; omega
              · have HF : Hid (rightE V E = false) := by show _ = _; rw [HT.out, HD.out, hid, decide_eq_true hlt2, decide_eq_true h0, decide_eq_false h1]; simp
                go_wp2_with (go_at_call 78; refine (isId_any _ _).mono ?_; rw [hid]; rintro e w' ⟨rfl, rfl⟩)
                go_ret
                exact ⟨by rw [HF.out]; rfl, HW.out.alloc (by omega) _⟩
            · have HF : Hid (rightE V E = false) := by show _ = _; rw [HT.out, HD.out, hid, decide_eq_true hlt2, decide_eq_false h0]; simp
              go_wp2_with (go_at_call 78; refine (isId_any _ _).mono ?_; rw [hid]; rintro e w' ⟨rfl, rfl⟩)
              go_ret
              exact ⟨by rw [HF.out]; rfl, HW.out.alloc (by omega) _⟩
          · have HF : Hid (rightE V E = false) := by show _ = _; rw [HT.out, HD.out, hid, decide_eq_false hlt2]; simp
            go_wp2_with (go_at_call 78; refine (isId_any _ _).mono ?_; rw [hid]; rintro e w' ⟨rfl, rfl⟩)
            go_ret
            exact ⟨by rw [HF.out]; rfl, HW.out.alloc (by omega) _⟩
      · obtain rfl : k = n := by omega
        have HF : Hid (rightE V E = true) := by
          show _ = _
          rw [HT.out, List.drop_eq_nil_of_le (by have := HN.out; omega)]; rfl
        go_wp2
        go_ret
        exact ⟨by rw [HF.out]; rfl, ((Below.refl _ _).alloc (Nat.le_refl _) _).trans (hbel.mono (by omega))⟩
  · have HF : Hid (rightE V E = false) := by unfold rightE; rw [← HN.out, decide_eq_false hbig]; rfl
    go_enter Tryz.func37, Tryz.ntmps37
    go_wp2
    go_ret
    exact ⟨by rw [HF.out]; rfl, (Below.refl _ _).alloc (Nat.le_refl _) _⟩
end Go.Proofs.YtghacfhpafbdmaaGreat
