/-
  The walks of skeinref05's BadId and skeinref06's Check.
-/
import Derived.IntWalk
import Derived.Test.YtghacfhpafbdmaaGreatZT9
namespace Go.Proofs.YtghacfhpafbdmaaGreat
open Go.RowKit
set_option linter.unusedVariables false

theorem BadId_q (i : Int) (q : Bool) (hq : idB i = !q) (w : World) : Calls Tryz.prog 38 #[.int .i64 i] w fun e w' => e = .returned (.bool q) ∧ w' = w := by
  cases q with
  | false =>
    obtain ⟨h1, h2⟩ := idB_iff.1 (by simpa using hq)
    clear hq
    go_enter Tryz.func38, Tryz.ntmps38
    go_wp2
    go_ret
    refine ⟨?_, rfl⟩
    show Ending.returned (.bool (decide (i < 1) || decide (2147483647 < i))) = _
    rw [decide_eq_false (by omega), decide_eq_false (by omega)]; rfl
  | true =>
    by_cases h1 : i < 1
    · clear hq
      go_enter Tryz.func38, Tryz.ntmps38
      go_wp2
      go_ret
      exact ⟨rfl, rfl⟩
    · have h2 : 2147483647 < i := by
        simp only [idB, Bool.not_true, Bool.and_eq_false_iff, decide_eq_false_iff_not] at hq
        omega
      clear hq
      go_enter Tryz.func38, Tryz.ntmps38
      go_wp2
      go_ret
      exact ⟨rfl, rfl⟩

def prevV (V : List Int) (k : Nat) : Int := if k = 0 then 0 else V.getD (k - 1) 0
def prevE (E : List Ed) (k : Nat) : Int := if k = 0 then 0 else (E.getD (k - 1) default).id
def refChk (V : List Int) (E : List Ed) : Int := if rightN V E then 0 else 60

set_option maxRecDepth 100000 in
set_option maxHeartbeats 8000000 in
theorem refCheck_any (sv se : Value) (V : List Int) (E : List Ed) (w : World) (B : Nat) (hv : RI w B sv V) (he : RE w B se E) (hB : B ≤ w.heap.size) :
    Calls Tryz.prog 10 #[netV sv se] w fun e w' => e = .returned (.int .i64 (refChk V E)) ∧ Below w.heap.size w w' := by
  have HV := Lib.hid hv
  obtain ⟨A, c, rfl, hc1, hc2, hc3, HC⟩ := hv.open_
  obtain ⟨A2, c2, rfl, hd1, hd2, hd3, HD⟩ := he.open_
  clear hv he
  obtain ⟨n, hn⟩ : ∃ n, n = V.length := ⟨_, rfl⟩
  obtain ⟨m, hm⟩ : ∃ m, m = E.length := ⟨_, rfl⟩
  rw [← hn] at hc1 hc3 HV ⊢
  rw [← hm] at hd1 hd3 ⊢
  have HN := Lib.hid hn
  have HM := Lib.hid hm
  clear hn hm
  obtain ⟨r, hr⟩ : ∃ r, r = refChk V E := ⟨_, rfl⟩
  rw [← hr]
  have HR := Lib.hid hr
  clear hr
  by_cases hn2 : n ≤ 2048
  case neg =>
    have HF : Hid (r = 60) := by
      show _ = _
      rw [HR.out]
      unfold refChk rightN rightV
      rw [← HN.out, decide_eq_false hn2]; rfl
    go_enter Tryz.func10, Tryz.ntmps10
    go_wp2
    go_ret
    exact ⟨by rw [HF.out]; rfl, (Below.refl _ _).alloc (Nat.le_refl _) _⟩
  by_cases hm2 : m ≤ 2048
  case neg =>
    have HF : Hid (r = 60) := by
      show _ = _
      rw [HR.out]
      unfold refChk rightN rightE
      rw [← HM.out, decide_eq_false hm2, Bool.false_and, Bool.and_false]; rfl
    go_enter Tryz.func10, Tryz.ntmps10
    go_wp2
    go_ret
    exact ⟨by rw [HF.out]; rfl, (Below.refl _ _).alloc (Nat.le_refl _) _⟩
  have HRV : Hid (rightV V = okV 0 V) := by show _ = _; unfold rightV; rw [← HN.out, decide_eq_true hn2]; rfl
  have HRE : Hid (rightE V E = okE V 0 E) := by show _ = _; unfold rightE; rw [← HM.out, decide_eq_true hm2]; rfl
  go_enter Tryz.func10, Tryz.ntmps10
  go_wp2
  obtain ⟨W, hW⟩ : ∃ W, W = w.alloc (.cells #[.slice A n c, .slice A2 m c2] 25) := ⟨_, rfl⟩
  have hbW : Below w.heap.size w W := by rw [hW]; exact (Below.refl _ _).alloc (Nat.le_refl _) _
  have hbN : Blk W w.heap.size 25 #[.slice A n c, .slice A2 m c2] := by rw [hW]; exact Blk.new _ _ _
  have hzW : W.heap.size = w.heap.size + 1 := by rw [hW]; simp
  rw [← hW]
  clear hW
  have HBW := Lib.hid hbW
  have HBN := Lib.hid hbN
  clear hbW hbN
  go_loopw [3] (fun i wr => ∃ k : Nat, k ≤ n ∧ i = .int .i64 k ∧ Below W.heap.size W wr ∧ Hid (okV (prevV V k) (V.drop k) = okV 0 V)) (fun i wr => n - (intOf i).toNat)
  case atStart => exact ⟨0, Nat.zero_le _, rfl, Below.refl _ _, rfl⟩
  case round =>
    obtain ⟨k, hk, rfl, hbel, HT⟩ := hrel
    have hbn := HBN.out.below hbel (by omega)
    have b0 : wr.cell? ⟨w.heap.size, 0, none⟩ = some (.slice A n c) := hbn.cell 0
    have b1 : wr.cell? ⟨w.heap.size, 1, none⟩ = some (.slice A2 m c2) := hbn.cell 1
    have hzr := hbel.size
    have HBel := Lib.hid hbel
    have HBw : Hid (Below w.heap.size w wr) := HBW.out.trans (hbel.mono (by omega))
    clear hbel hbn
    by_cases hlt : k < n
    · obtain ⟨b, oo, rfl, hb, hx⟩ := HC.out k (by have := HN.out; omega)
      have hx := cellI hx
      obtain ⟨x, hy⟩ : ∃ x, x = V[k]'(by have := HN.out; omega) := ⟨_, rfl⟩
      rw [← hy] at hx
      have hxn : V[k]? = some x := by rw [hy]; exact List.getElem?_eq_getElem _
      have hpx : prevV V (k + 1) = x := by unfold prevV; rw [if_neg (by omega)]; simp [List.getD, hxn]
      have HDr : Hid (okV (prevV V k) (V.drop k) = ((idB x && decide (prevV V k < x)) && okV (prevV V (k + 1)) (V.drop (k + 1)))) := by
        show _ = _
        rw [List.drop_eq_getElem_cons (by have := HN.out; omega), ← hy, hpx]; rfl
      have hx := (HBw.out.cell (p := ⟨b, oo + k, none⟩) (by show b < _; omega)).trans hx
      clear hy hpx
      have HXN := Lib.hid hxn
      clear hxn
      cases hid : idB x with
      | false =>
        have HF : Hid (r = 60) := by
          show _ = _
          rw [HR.out]
          unfold refChk rightN
          rw [HRV.out, ← HT.out, HDr.out, hid]; rfl
        have HId := Lib.hid hid
        clear HT HDr hid
        go_wp2_with fail
        go_quiet ((go_at_call 38; exact Calls.quiet_of_same (BadId_q x true HId.out _)))
        go_wp2_with fail
        go_ret
        exact ⟨by rw [HF.out]; rfl, below_drewN HBw.out _⟩
      | true =>
        have HId := Lib.hid hid
        by_cases hkp : 0 < k
        · obtain ⟨k1, rfl⟩ : ∃ k1, k = k1 + 1 := ⟨k - 1, by omega⟩
          obtain ⟨b9, o9, e9, hb9, hx9⟩ := HC.out k1 (by have := HN.out; omega)
          obtain ⟨rfl, rfl⟩ : b = b9 ∧ oo = o9 := by injection e9 with e9; injection e9 with e1 e2; exact ⟨e1, e2⟩
          obtain ⟨y, hy⟩ : ∃ y, y = V[k1]'(by have := HN.out; omega) := ⟨_, rfl⟩
          have hyn : V[k1]? = some y := by rw [hy]; exact List.getElem?_eq_getElem _
          have HPY : Hid (prevV V (k1 + 1) = y) := by show _ = _; unfold prevV; rw [if_neg (by omega)]; simp [List.getD, hyn]
          rw [← hy] at hx9
          have hx9 := cellI hx9
          have hx9 := (HBw.out.cell (p := ⟨b, oo + k1, none⟩) (by show b < _; omega)).trans hx9
          clear hy hyn e9 hid
          by_cases hyx : y < x
          · skip
            have HT' : Hid (okV (prevV V (k1 + 1 + 1)) (V.drop (k1 + 1 + 1)) = okV 0 V) := by show _ = _; rw [← HT.out, HDr.out, HId.out, HPY.out, decide_eq_true hyx]; rfl
            clear HT HDr
            go_wp2_with fail
            go_quiet ((go_at_call 38; exact Calls.quiet_of_same (BadId_q x false HId.out _)))
            go_wp2_with fail
            go_roundw
            case rel => exact ⟨k1 + 1 + 1, by omega, by go_num, below_drewN HBel.out _, HT'⟩
            case measure => simp [intOf]; omega
          · skip
            have HF : Hid (r = 60) := by
              show _ = _
              rw [HR.out]
              unfold refChk rightN
              rw [HRV.out, ← HT.out, HDr.out, HId.out, HPY.out, decide_eq_false hyx]; rfl
            have hxy : x ≤ y := by omega
            clear HT HDr
            go_wp2_with fail
            go_quiet ((go_at_call 38; exact Calls.quiet_of_same (BadId_q x false HId.out _)))
            go_wp2_with fail
            go_ret
            exact ⟨by rw [HF.out]; rfl, below_drewN HBw.out _⟩
        · have HT' : Hid (okV (prevV V (k + 1)) (V.drop (k + 1)) = okV 0 V) := by
            show _ = _
            have h1 := idB_iff.1 HId.out
            rw [← HT.out, HDr.out, HId.out, decide_eq_true (by unfold prevV; rw [if_pos (by omega)]; omega)]; rfl
          have hkd : decide (0 < k) = false := decide_eq_false hkp
          clear HT HDr hid
          go_wp2_with fail
          go_quiet ((go_at_call 38; exact Calls.quiet_of_same (BadId_q x false HId.out _)))
          go_wp2_with fail
          go_roundw
          case rel => exact ⟨k + 1, by omega, by go_num, below_drewN HBel.out _, HT'⟩
          case measure => simp [intOf]; omega
    · obtain rfl : k = n := by omega
      have HOV : Hid (rightV V = true) := by
        show _ = _
        rw [HRV.out, ← HT.out, List.drop_eq_nil_of_le (by have := HN.out; omega)]; rfl
      have HRR : Hid (r = if okE V 0 E then 0 else 60) := by
        show _ = _
        rw [HR.out]
        unfold refChk rightN
        rw [HOV.out, HRE.out]; rfl
      clear HT HOV HRV HR HRE
      obtain ⟨X, hX⟩ : ∃ X, X = wr := ⟨_, rfl⟩
      rw [← hX] at b0 b1 hzr HBel HBw ⊢
      have HBX : Hid (Below w.heap.size w X) := HBw.out
      have HBN2 : Hid (Blk X w.heap.size 25 #[.slice A k c, .slice A2 m c2]) := HBN.out.below HBel.out (by omega)
      have hzX : w.heap.size < X.heap.size := by omega
      clear hX HBel HBw HBN
      go_wp2_with fail
      go_loopw [4] (fun i wr => ∃ j : Nat, j ≤ m ∧ i = .int .i64 j ∧ Below X.heap.size X wr ∧ Hid (r = if okE V (prevE E j) (E.drop j) then 0 else 60)) (fun i wr => m - (intOf i).toNat)
      case atStart => exact ⟨0, Nat.zero_le _, rfl, Below.refl _ _, HRR⟩
      case round =>
        obtain ⟨j, hj, rfl, hbel, HT⟩ := hrel
        have hbn := HBN2.out.below hbel (by omega)
        have b0 : wr.cell? ⟨w.heap.size, 0, none⟩ = some (.slice A k c) := hbn.cell 0
        have b1 : wr.cell? ⟨w.heap.size, 1, none⟩ = some (.slice A2 m c2) := hbn.cell 1
        have hzr2 := hbel.size
        have hwl : w.heap.size < wr.heap.size := by omega
        have HBel := Lib.hid hbel
        have HBw : Hid (Below w.heap.size w wr) := HBX.out.trans (hbel.mono (by omega))
        clear hbel hbn
        by_cases hjl : j < m
        · obtain ⟨b, oo, rfl, hb, hx⟩ := HD.out j (by have := HM.out; omega)
          obtain ⟨x, hy⟩ : ∃ x, x = E[j]'(by have := HM.out; omega) := ⟨_, rfl⟩
          rw [← hy] at hx
          obtain ⟨x0, x1, x2, x3⟩ := cellE hx
          have hxn : E[j]? = some x := by rw [hy]; exact List.getElem?_eq_getElem _
          have hpx : prevE E (j + 1) = x.id := by unfold prevE; rw [if_neg (by omega)]; simp [List.getD, hxn]
          have HDr : Hid (okE V (prevE E j) (E.drop j) = (((idB x.id && decide (prevE E j < x.id)) && (decide (0 ≤ x.w) && decide (x.w ≤ 1099511627776))) && (V.contains x.u && V.contains x.v) && okE V (prevE E (j + 1)) (E.drop (j + 1)))) := by
            show _ = _
            rw [List.drop_eq_getElem_cons (by have := HM.out; omega), ← hy, hpx]; rfl
          have x0 := (HBw.out.cell (p := ⟨b, oo + j * 4, none⟩) (by show b < _; omega)).trans x0
          have x1 := (HBw.out.cell (p := ⟨b, oo + j * 4 + 1, none⟩) (by show b < _; omega)).trans x1
          have x2 := (HBw.out.cell (p := ⟨b, oo + j * 4 + 2, none⟩) (by show b < _; omega)).trans x2
          have x3 := (HBw.out.cell (p := ⟨b, oo + j * 4 + 3, none⟩) (by show b < _; omega)).trans x3
          have hbl : b < wr.heap.size := by omega
          clear hy hpx hx hxn
          obtain ⟨eid, eu, ev, ew⟩ := x
          dsimp only at *
          have HBA : Hid (Below w.heap.size w (wr.alloc (.cells #[.int .i64 eid, .int .i64 eu, .int .i64 ev, .int .i64 ew] 47))) := HBw.out.alloc (by omega) _
          have HBE : Hid (Below X.heap.size X (wr.alloc (.cells #[.int .i64 eid, .int .i64 eu, .int .i64 ev, .int .i64 ew] 47))) := HBel.out.alloc (by omega) _
          have HVA : Hid (∀ q, RI ((wr.alloc (.cells #[.int .i64 eid, .int .i64 eu, .int .i64 ev, .int .i64 ew] 47)).drewN q) B (.slice A k c) V) := fun q => (HV.out.below (HBA.out.mono hB)).drewN q
          clear HBw HBel
          have key : ∀ (a1 a2 a3 a4 a5 a6 : Bool) (T : Bool), idB eid = a1 → decide (prevE E j < eid) = a2 → decide (0 ≤ ew) = a3 → decide (ew ≤ 1099511627776) = a4 → V.contains eu = a5 → V.contains ev = a6 → r = if ((((a1 && a2) && (a3 && a4)) && (a5 && a6)) && okE V (prevE E (j + 1)) (E.drop (j + 1))) then 0 else 60 := by
            intro a1 a2 a3 a4 a5 a6 _ h1 h2 h3 h4 h5 h6
            rw [HT.out, HDr.out, h1, h2, h3, h4, h5, h6]
          have HKey := Lib.hid key
          clear key HT HDr
          cases hid : idB eid with
          | false =>
            have HF : Hid (r = 60) := by show _ = _; rw [HKey.out false _ _ _ _ _ true hid rfl rfl rfl rfl rfl]; simp
            have HId := Lib.hid hid
            clear HKey hid
            go_wp2_with fail
            go_quiet ((go_at_call 38; exact Calls.quiet_of_same (BadId_q eid true HId.out _)))
            go_wp2_with fail
            go_ret
            exact ⟨by rw [HF.out]; rfl, below_drewN HBA.out _⟩
          | true =>
            have HId := Lib.hid hid
            clear hid
            by_cases hjp : 0 < j
            · obtain ⟨j1, rfl⟩ : ∃ j1, j = j1 + 1 := ⟨j - 1, by omega⟩
              obtain ⟨b9, o9, e9, hb9, hx9⟩ := HD.out j1 (by have := HM.out; omega)
              obtain ⟨rfl, rfl⟩ : b = b9 ∧ oo = o9 := by injection e9 with e9; injection e9 with e1 e2; exact ⟨e1, e2⟩
              obtain ⟨y, hy⟩ : ∃ y, y = E[j1]'(by have := HM.out; omega) := ⟨_, rfl⟩
              have hyn : E[j1]? = some y := by rw [hy]; exact List.getElem?_eq_getElem _
              have HPY : Hid (prevE E (j1 + 1) = y.id) := by show _ = _; unfold prevE; rw [if_neg (by omega)]; simp [List.getD, hyn]
              rw [← hy] at hx9
              obtain ⟨y0, _, _, _⟩ := cellE hx9
              have y0 := ((HBA.out.cell (p := ⟨b, oo + j1 * 4, none⟩) (by show b < _; omega)).trans y0)
              have y0 : wr.cell? ⟨b, oo + j1 * 4, none⟩ = some (.int .i64 y.id) := by rw [← y0]; exact (((Below.refl wr.heap.size wr).alloc (Nat.le_refl _) _).cell (p := ⟨b, oo + j1 * 4, none⟩) hbl).symm
              clear hy hyn e9 hx9
              have hj9 : j1 < m := by omega
              have hj8 : IntKind.i64.wrap (j1 : Int) = (j1 : Int) := IntWalk.i64_in _ (by omega)
              obtain ⟨yid, yu, yv, yw⟩ := y
              dsimp only at HPY y0
              by_cases hyx : yid < eid
              · skip
                have HP : Hid (decide (prevE E (j1 + 1) < eid) = true) := by show _ = _; rw [HPY.out]; exact decide_eq_true hyx
                by_cases hw0 : ew < 0
                · have HF : Hid (r = 60) := by show _ = _; rw [HKey.out true true false _ _ _ true HId.out HP.out (decide_eq_false (by omega)) rfl rfl rfl]; simp
                  clear HKey
                  go_wp2_with fail
                  go_quiet ((go_at_call 38; exact Calls.quiet_of_same (BadId_q eid false HId.out _)))
                  go_wp2_with fail
                  go_ret
                  exact ⟨by rw [HF.out]; rfl, below_drewN HBA.out _⟩
                have hd1 : decide (ew < 0) = false := decide_eq_false hw0
                by_cases hw1 : 1099511627776 < ew
                · have HF : Hid (r = 60) := by show _ = _; rw [HKey.out true true true false _ _ true HId.out HP.out (decide_eq_true (by omega)) (decide_eq_false (by omega)) rfl rfl]; simp
                  clear HKey
                  go_wp2_with fail
                  go_quiet ((go_at_call 38; exact Calls.quiet_of_same (BadId_q eid false HId.out _)))
                  go_wp2_with fail
                  go_ret
                  exact ⟨by rw [HF.out]; rfl, below_drewN HBA.out _⟩
                have hw2 : 0 ≤ ew := by omega
                have hw3 : ew ≤ 1099511627776 := by omega
                have hd2 : decide (1099511627776 < ew) = false := decide_eq_false hw1
                cases hcu : V.contains eu with
                | false =>
                  have HF : Hid (r = 60) := by show _ = _; rw [HKey.out true true true true false _ true HId.out HP.out (decide_eq_true (by omega)) (decide_eq_true (by omega)) hcu rfl]; simp
                  have HU := Lib.hid hcu
                  clear hcu
                  clear HKey
                  go_wp2_with fail
                  go_quiet ((go_at_call 38; exact Calls.quiet_of_same (BadId_q eid false HId.out _)))
                  go_wp2_with (go_at_call 30; refine (Has_any _ V eu false HU.out _ _ (HVA.out _)).mono ?_; rintro e w' ⟨rfl, rfl⟩)
                  go_ret
                  exact ⟨by rw [HF.out]; rfl, below_drewN HBA.out _⟩
                | true =>
                  have HU := Lib.hid hcu
                  clear hcu
                  cases hcv : V.contains ev with
                  | false =>
                    have HF : Hid (r = 60) := by show _ = _; rw [HKey.out true true true true true false true HId.out HP.out (decide_eq_true (by omega)) (decide_eq_true (by omega)) HU.out hcv]; simp
                    have HVv := Lib.hid hcv
                    clear hcv
                    clear HKey
                    go_wp2_with fail
                    go_quiet ((go_at_call 38; exact Calls.quiet_of_same (BadId_q eid false HId.out _)))
                    go_wp2_with fail
                    refine (Has_any _ V eu true HU.out _ _ (HVA.out _)).mono ?_
                    rintro e w' ⟨rfl, rfl⟩
                    go_wp2_with fail
                    refine (Has_any _ V ev false HVv.out _ _ (HVA.out _)).mono ?_
                    rintro e w' ⟨rfl, rfl⟩
                    go_wp2_with fail
                    go_ret
                    exact ⟨by rw [HF.out]; rfl, below_drewN HBA.out _⟩
                  | true =>
                    have HT' : Hid (r = if okE V (prevE E (j1 + 1 + 1)) (E.drop (j1 + 1 + 1)) then 0 else 60) := by show _ = _; rw [HKey.out true true true true true true true HId.out HP.out (decide_eq_true (by omega)) (decide_eq_true (by omega)) HU.out hcv]; simp
                    have HVv := Lib.hid hcv
                    clear hcv
                    clear HKey
                    go_wp2_with fail
                    go_quiet ((go_at_call 38; exact Calls.quiet_of_same (BadId_q eid false HId.out _)))
                    go_wp2_with fail
                    refine (Has_any _ V eu true HU.out _ _ (HVA.out _)).mono ?_
                    rintro e w' ⟨rfl, rfl⟩
                    go_wp2_with fail
                    refine (Has_any _ V ev true HVv.out _ _ (HVA.out _)).mono ?_
                    rintro e w' ⟨rfl, rfl⟩
                    go_wp2_with fail
                    go_roundw
                    case rel => exact ⟨j1 + 1 + 1, by omega, by go_num, below_drewN HBE.out _, HT'⟩
                    case measure => simp [intOf]; omega
              · have HF : Hid (r = 60) := by show _ = _; rw [HKey.out true false _ _ _ _ true HId.out (by rw [HPY.out]; exact decide_eq_false hyx) rfl rfl rfl rfl]; simp
                have hxy : eid ≤ yid := by omega
                clear HKey
                go_wp2_with fail
                go_quiet ((go_at_call 38; exact Calls.quiet_of_same (BadId_q eid false HId.out _)))
                go_wp2_with fail
                go_ret
                exact ⟨by rw [HF.out]; rfl, below_drewN HBA.out _⟩
            · have hjd : decide (0 < j) = false := decide_eq_false hjp
              have HP : Hid (decide (prevE E (j) < eid) = true) := by have h1 := idB_iff.1 HId.out; exact decide_eq_true (by unfold prevE; rw [if_pos (by omega)]; omega)
              by_cases hw0 : ew < 0
              · have HF : Hid (r = 60) := by show _ = _; rw [HKey.out true true false _ _ _ true HId.out HP.out (decide_eq_false (by omega)) rfl rfl rfl]; simp
                clear HKey
                go_wp2_with fail
                go_quiet ((go_at_call 38; exact Calls.quiet_of_same (BadId_q eid false HId.out _)))
                go_wp2_with fail
                go_ret
                exact ⟨by rw [HF.out]; rfl, below_drewN HBA.out _⟩
              have hd1 : decide (ew < 0) = false := decide_eq_false hw0
              by_cases hw1 : 1099511627776 < ew
              · have HF : Hid (r = 60) := by show _ = _; rw [HKey.out true true true false _ _ true HId.out HP.out (decide_eq_true (by omega)) (decide_eq_false (by omega)) rfl rfl]; simp
                clear HKey
                go_wp2_with fail
                go_quiet ((go_at_call 38; exact Calls.quiet_of_same (BadId_q eid false HId.out _)))
                go_wp2_with fail
                go_ret
                exact ⟨by rw [HF.out]; rfl, below_drewN HBA.out _⟩
              have hw2 : 0 ≤ ew := by omega
              have hw3 : ew ≤ 1099511627776 := by omega
              have hd2 : decide (1099511627776 < ew) = false := decide_eq_false hw1
              cases hcu : V.contains eu with
              | false =>
                have HF : Hid (r = 60) := by show _ = _; rw [HKey.out true true true true false _ true HId.out HP.out (decide_eq_true (by omega)) (decide_eq_true (by omega)) hcu rfl]; simp
                have HU := Lib.hid hcu
                clear hcu
                clear HKey
                go_wp2_with fail
                go_quiet ((go_at_call 38; exact Calls.quiet_of_same (BadId_q eid false HId.out _)))
                go_wp2_with (go_at_call 30; refine (Has_any _ V eu false HU.out _ _ (HVA.out _)).mono ?_; rintro e w' ⟨rfl, rfl⟩)
                go_ret
                exact ⟨by rw [HF.out]; rfl, below_drewN HBA.out _⟩
              | true =>
                have HU := Lib.hid hcu
                clear hcu
                cases hcv : V.contains ev with
                | false =>
                  have HF : Hid (r = 60) := by show _ = _; rw [HKey.out true true true true true false true HId.out HP.out (decide_eq_true (by omega)) (decide_eq_true (by omega)) HU.out hcv]; simp
                  have HVv := Lib.hid hcv
                  clear hcv
                  clear HKey
                  go_wp2_with fail
                  go_quiet ((go_at_call 38; exact Calls.quiet_of_same (BadId_q eid false HId.out _)))
                  go_wp2_with fail
                  refine (Has_any _ V eu true HU.out _ _ (HVA.out _)).mono ?_
                  rintro e w' ⟨rfl, rfl⟩
                  go_wp2_with fail
                  refine (Has_any _ V ev false HVv.out _ _ (HVA.out _)).mono ?_
                  rintro e w' ⟨rfl, rfl⟩
                  go_wp2_with fail
                  go_ret
                  exact ⟨by rw [HF.out]; rfl, below_drewN HBA.out _⟩
                | true =>
                  have HT' : Hid (r = if okE V (prevE E (j + 1)) (E.drop (j + 1)) then 0 else 60) := by show _ = _; rw [HKey.out true true true true true true true HId.out HP.out (decide_eq_true (by omega)) (decide_eq_true (by omega)) HU.out hcv]; simp
                  have HVv := Lib.hid hcv
                  clear hcv
                  clear HKey
                  go_wp2_with fail
                  go_quiet ((go_at_call 38; exact Calls.quiet_of_same (BadId_q eid false HId.out _)))
                  go_wp2_with fail
                  refine (Has_any _ V eu true HU.out _ _ (HVA.out _)).mono ?_
                  rintro e w' ⟨rfl, rfl⟩
                  go_wp2_with fail
                  refine (Has_any _ V ev true HVv.out _ _ (HVA.out _)).mono ?_
                  rintro e w' ⟨rfl, rfl⟩
                  go_wp2_with fail
                  go_roundw
                  case rel => exact ⟨j + 1, by omega, by go_num, below_drewN HBE.out _, HT'⟩
                  case measure => simp [intOf]; omega
        · obtain rfl : j = m := by omega
          have HF : Hid (r = 0) := by
            show _ = _
            rw [HT.out, List.drop_eq_nil_of_le (by have := HM.out; omega)]; rfl
          go_wp2_with fail
          go_ret
          exact ⟨by rw [HF.out]; rfl, HBw.out⟩
end Go.Proofs.YtghacfhpafbdmaaGreat
