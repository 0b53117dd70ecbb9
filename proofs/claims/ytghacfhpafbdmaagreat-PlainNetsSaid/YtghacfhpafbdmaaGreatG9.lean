/-
  The walks of plain's Check, checkVerts, told.
-/
import Derived.Test.YtghacfhpafbdmaaGreatG8
namespace Go.Proofs.YtghacfhpafbdmaaGreat
open Go.RowKit
set_option linter.unusedVariables false

theorem rightVerts_q (v : Value) (V : List Int) (q : Bool) (hq : rightV V = q) (w : World) (B : Nat) (hv : RI w B v V) :
    Calls Tryz.prog 36 #[v] w fun e w' => e = .returned (.bool q) ∧ ∃ q, w' = w.drewN q := by
  subst hq; exact rightVerts_any v V w B hv
theorem rightEdges_q (sv se : Value) (V : List Int) (E : List Ed) (q : Bool) (hq : rightE V E = q) (w : World) (B : Nat) (hv : RI w B sv V) (he : RE w B se E) (hB : B ≤ w.heap.size) (hs : V.Pairwise (· < ·)) :
    Calls Tryz.prog 37 #[netV sv se] w fun e w' => e = .returned (.bool q) ∧ Below w.heap.size w w' := by
  subst hq; exact rightEdges_any sv se V E w B hv he hB hs

set_option maxHeartbeats 1000000 in
theorem check_no (sv se : Value) (V : List Int) (E : List Ed) (w : World) (B : Nat) (hv : RI w B sv V) (he : RE w B se E) (hB : B ≤ w.heap.size) (hr : rightN V E = false) :
    Calls Tryz.prog 9 #[netV sv se] w fun e w' => e = .returned (.int .i64 60) ∧ Below w.heap.size w w' := by
  have HV := Lib.hid (hv.alloc hB (.cells #[sv, se] 25))
  have HE := Lib.hid (he.alloc hB (.cells #[sv, se] 25))
  clear hv he
  cases h1 : rightV V
  · clear hr
    go_enter Tryz.func9, Tryz.ntmps9
    go_wp2_with (go_at_call 36; refine (rightVerts_q _ V _ h1 _ B HV.out).mono ?_; rintro e w' ⟨rfl, q, rfl⟩)
    go_ret
    exact ⟨rfl, ((Below.refl _ _).alloc (Nat.le_refl _) _).trans (by exact ⟨rfl, rfl, rfl, Nat.le_refl _, fun _ _ => rfl⟩)⟩
  · have h2 : rightE V E = false := by unfold rightN at hr; rw [h1] at hr; simpa using hr
    have HS : Hid (V.Pairwise (· < ·)) := by
      unfold rightV at h1
      simp only [Bool.and_eq_true] at h1
      exact (okV_spec V 0 h1.2).1
    clear hr
    go_enter Tryz.func9, Tryz.ntmps9
    go_wp2_with (go_at_call 36; refine (rightVerts_q _ V _ h1 _ B HV.out).mono ?_; rintro e w' ⟨rfl, q, rfl⟩)
    refine (rightEdges_q _ _ V E _ h2 _ B (HV.out.drewN _) (HE.out.drewN _) (by simp; omega) HS.out).mono ?_
    rintro e w1 ⟨rfl, hb⟩
    have HB := Lib.hid hb
    clear hb
    go_wp2_with fail
    go_ret
    exact ⟨rfl, (((Below.refl _ _).alloc (Nat.le_refl _) _).trans (by exact ⟨rfl, rfl, rfl, Nat.le_refl _, fun _ _ => rfl⟩)).trans (HB.out.mono (by simp))⟩

set_option maxHeartbeats 1000000 in
theorem check_ok (sv se : Value) (V : List Int) (E : List Ed) (w : World) (B : Nat) (hv : RI w B sv V) (he : RE w B se E) (hB : B ≤ w.heap.size) (hr : rightN V E = true) :
    Calls Tryz.prog 9 #[netV sv se] w fun e w' => e = .returned (.int .i64 0) ∧ Below w.heap.size w w' := by
  have HV := Lib.hid (hv.alloc hB (.cells #[sv, se] 25))
  have HE := Lib.hid (he.alloc hB (.cells #[sv, se] 25))
  clear hv he
  have HS : Hid (V.Pairwise (· < ·)) := (right_of hr).vup
  have hr' := hr
  unfold rightN at hr'
  simp only [Bool.and_eq_true] at hr'
  have h1 := hr'.1
  have h2 := hr'.2
  clear hr hr'
  go_enter Tryz.func9, Tryz.ntmps9
  go_wp2_with (go_at_call 36; refine (rightVerts_q _ V _ h1 _ B HV.out).mono ?_; rintro e w' ⟨rfl, q, rfl⟩)
  refine (rightEdges_q _ _ V E _ h2 _ B (HV.out.drewN _) (HE.out.drewN _) (by simp; omega) HS.out).mono ?_
  rintro e w1 ⟨rfl, hb⟩
  have HB := Lib.hid hb
  clear hb
  go_wp2_with fail
  go_ret
  exact ⟨rfl, (((Below.refl _ _).alloc (Nat.le_refl _) _).trans (by exact ⟨rfl, rfl, rfl, Nat.le_refl _, fun _ _ => rfl⟩)).trans (HB.out.mono (by simp))⟩

def chkV (V : List Int) (E : List Ed) (vs : List Int) : Int := if rightN V E then (if vs.all (V.contains ·) then 0 else 51) else 60

set_option maxHeartbeats 2000000 in
theorem checkVerts_any (sv se lv : Value) (V : List Int) (E : List Ed) (vs : List Int) (w : World) (B B' : Nat) (hv : RI w B sv V) (he : RE w B se E) (hB : B ≤ w.heap.size) (hl : RI w B' lv vs) (hB' : B' ≤ w.heap.size) :
    Calls Tryz.prog 40 #[netV sv se, lv] w fun e w' => e = .returned (.int .i64 (chkV V E vs)) ∧ Below w.heap.size w w' := by
  have HV := Lib.hid (hv.alloc hB (.cells #[sv, se] 25))
  have HE := Lib.hid (he.alloc hB (.cells #[sv, se] 25))
  clear hv he
  obtain ⟨A, c, rfl, hc1, hc2, hc3, HC⟩ := hl.open_
  clear hl
  obtain ⟨n, hn⟩ : ∃ n, n = vs.length := ⟨_, rfl⟩
  rw [← hn] at hc1 hc3 ⊢
  have HN := Lib.hid hn
  clear hn
  cases hr : rightN V E
  · have HF : Hid (chkV V E vs = 60) := by unfold chkV; rw [hr]; rfl
    go_enter Tryz.func40, Tryz.ntmps40
    go_wp2_with (go_at_call 9; refine (check_no _ _ V E _ B HV.out HE.out (by simp; omega) hr).mono ?_; rintro e w1 ⟨rfl, hb⟩; have HB := Lib.hid hb; clear hb)
    go_ret
    exact ⟨by rw [HF.out]; rfl, ((Below.refl _ _).alloc (Nat.le_refl _) _).trans (HB.out.mono (by simp))⟩
  · have HS : Hid (V.Pairwise (· < ·)) := (right_of hr).vup
    have HR : Hid (chkV V E vs = if vs.all (V.contains ·) then 0 else 51) := by unfold chkV; rw [hr]; rfl
    go_enter Tryz.func40, Tryz.ntmps40
    go_wp2_with fail
    refine (check_ok _ _ V E _ B HV.out HE.out (by simp; omega) hr).mono ?_
    rintro e w1 ⟨rfl, hb⟩
    have HB1 : Hid (Below (w.heap.size + 1) (w.alloc (.cells #[sv, se] 25)) w1) := hb.mono (by simp)
    clear hb hr
    go_wp2_with fail
    go_loopw [15] (fun i wr => ∃ (k : Nat), k ≤ n ∧ i = .int .i64 k ∧ Below (w.heap.size + 1) (w.alloc (.cells #[sv, se] 25)) wr ∧ Hid (chkV V E vs = if (vs.drop k).all (V.contains ·) then 0 else 51)) (fun i wr => n - (intOf i).toNat)
    case atStart => exact ⟨0, Nat.zero_le _, rfl, HB1.out, HR⟩
    case round =>
      obtain ⟨k, hk, rfl, hbel, HT⟩ := hrel
      by_cases hlt : k < n
      · obtain ⟨b, o, rfl, hb, hx⟩ := HC.out k (by have := HN.out; omega)
        obtain ⟨y, hy⟩ : ∃ y, y = vs[k]'(by have := HN.out; omega) := ⟨_, rfl⟩
        rw [← hy] at hx
        have hx := cellI hx
        have HD : Hid ((vs.drop k).all (V.contains ·) = (V.contains y && (vs.drop (k + 1)).all (V.contains ·))) := by
          rw [List.drop_eq_getElem_cons (by have := HN.out; omega), ← hy]; rfl
        clear hy
        have hbw : Below w.heap.size w wr := ((Below.refl _ _).alloc (Nat.le_refl _) _).trans (hbel.mono (by omega))
        have hx := (hbw.cell (p := ⟨b, o + k, none⟩) (by show b < _; omega)).trans hx
        have b0 : wr.cell? ⟨w.heap.size, 0, none⟩ = some sv := (hbel.cell (p := ⟨w.heap.size, 0, none⟩) (by show w.heap.size < _; omega)).trans (by simp)
        have b1 : wr.cell? ⟨w.heap.size, 1, none⟩ = some se := (hbel.cell (p := ⟨w.heap.size, 1, none⟩) (by show w.heap.size < _; omega)).trans (by simp)
        have HV1 := Lib.hid (HV.out.below (hbel.mono (by omega)))
        have hsz := hbel.size
        simp only [World.alloc, Array.size_push] at hsz
        have HB := Lib.hid hbel
        have HW := Lib.hid hbw
        clear hbel hbw
        cases hu : V.contains y
        · have HF : Hid (chkV V E vs = 51) := by show _ = _; rw [HT.out, HD.out, hu]; rfl
          go_wp2_with fail
          refine (isVert_q _ _ V _ _ hu _ B HV1.out (by omega) HS.out).mono ?_
          rintro e w2 ⟨rfl, hb2⟩
          have HB2 := Lib.hid hb2
          clear hb2
          go_wp2_with fail
          go_ret
          exact ⟨by rw [HF.out]; rfl, HW.out.trans (HB2.out.mono (by omega))⟩
        · have HT' : Hid (chkV V E vs = if (vs.drop (k + 1)).all (V.contains ·) then 0 else 51) := by show _ = _; rw [HT.out, HD.out, hu]; rfl
          go_wp2_with fail
          refine (isVert_q _ _ V _ _ hu _ B HV1.out (by omega) HS.out).mono ?_
          rintro e w2 ⟨rfl, hb2⟩
          have HB2 := Lib.hid hb2
          clear hb2
          go_wp2_with fail
          go_roundw
          case rel => exact ⟨k + 1, by omega, by go_num, HB.out.trans (HB2.out.mono (by omega)), HT'⟩
          case measure => simp [intOf]; omega
      · obtain rfl : k = n := by omega
        have HF : Hid (chkV V E vs = 0) := by
          show _ = _
          rw [HT.out, List.drop_eq_nil_of_le (by have := HN.out; omega)]; rfl
        go_wp2
        go_ret
        exact ⟨by rw [HF.out]; rfl, ((Below.refl _ _).alloc (Nat.le_refl _) _).trans (hbel.mono (by omega))⟩

theorem told_any (s : Int) (w : World) : Calls Tryz.prog 52 #[.int .i64 s] w fun e w' => e = .returned (.tuple #[.int .i64 (if 70368744177664 < s then 0 else s), .int .i64 (if 70368744177664 < s then 62 else 0)]) ∧ w = w' := by
  by_cases h : 70368744177664 < s
  all_goals
    go_enter Tryz.func52, Tryz.ntmps52
    go_wp2
    go_ret2
    exact ⟨by simp, rfl⟩
end Go.Proofs.YtghacfhpafbdmaaGreat
