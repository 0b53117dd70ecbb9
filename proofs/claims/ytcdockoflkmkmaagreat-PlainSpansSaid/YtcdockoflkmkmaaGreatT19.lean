/-
  The walk of skeinlaw06's PlainSpans.
-/
import Derived.Test.YtcdockoflkmkmaaGreatT18
import Derived.Test.YtcdockoflkmkmaaGreatT11
import Derived.Laws.FloatArith
namespace Go.Proofs.YtcdockoflkmkmaaGreat
open Go.RowKit
set_option linter.unusedVariables false

theorem run_storeCs (P : Program) (w : World) (a : Addr) (m : Mode) (k : FloatKind) (x y : Nat) : (store a (.complex k x y) m).run P w = stored P w a (.complex k x y) m := run_store P w a _ m rfl
attribute [local go_sem] run_storeCs
theorem conv_back (q : Nat) (h : q ≤ 2251799813685248) (w : World) : (convert 69 2 (.float .f64 (fl q))).run Tryz.prog w = .ok (.int .i64 (q : Int)) w := by
  have h53 : q < 2 ^ 53 := by have : (2 : Nat) ^ 53 = 9007199254740992 := by decide
                              omega
  refine run_convert_float_int w 69 2 .f64 .i64 (fl q) (q : Int) (by rw [Tryz.underlying69]; rfl) Tryz.underlying2 ?_
  unfold floatToIntVal
  rw [show FloatKind.f64.decode (fl q) = Ieee.double.read (fl q) from rfl, fl_int h53]
  simp only
  rw [if_pos ⟨by simp [IntKind.min, IntKind.signed, IntKind.bits], by simp [IntKind.max, IntKind.signed, IntKind.bits]; omega⟩]

set_option maxRecDepth 100000 in
set_option maxHeartbeats 8000000 in
theorem plainSpans_many (sv se : Value) (V : List Int) (E : List Ed) (u : Int) (w : World) (hv : RI w w.heap.size sv V) (he : RE w w.heap.size se E) (hlen : 150 < V.length)  :
    Calls Tryz.prog 6 #[netV sv se, .int .i64 u] w fun e w' => e = .returned (.bool true) ∧ Below w.heap.size w w' := by
  have HV := Lib.hid hv
  have HE := Lib.hid he
  obtain ⟨Av, cv, rfl, hv1, hv2, hv3, HCv⟩ := hv.open_
  clear hv he
  obtain ⟨n, hn⟩ : ∃ n, n = V.length := ⟨_, rfl⟩
  rw [← hn] at hv1 hv3 HV hlen ⊢
  have HN := Lib.hid hn
  clear hn
  go_enter Tryz.func6, Tryz.ntmps6
  go_wp2_with fail
  refine (alive_any _).mono ?_
  rintro e w1 ⟨rfl, hb⟩
  have HB : Hid (Below (w.heap.size + 1) (w.alloc (.cells #[.slice Av n cv, se] 25)) w1) := hb.mono (by simp)
  have hz : w.heap.size + 1 ≤ w1.heap.size := by have := hb.size; simpa using this
  obtain ⟨b0, b1⟩ := box_cells HB.out
  clear hb
  go_wp2_with fail
  go_ret
  exact ⟨rfl, below_box HB.out⟩

set_option maxRecDepth 100000 in
set_option maxHeartbeats 8000000 in
theorem plainSpans_60 (sv se : Value) (V : List Int) (E : List Ed) (u : Int) (w : World) (hv : RI w w.heap.size sv V) (he : RE w w.heap.size se E) (hlen : ¬ 150 < V.length) (hc : chkV V E [u] = 60) :
    Calls Tryz.prog 6 #[netV sv se, .int .i64 u] w fun e w' => e = .returned (.bool true) ∧ Below w.heap.size w w' := by
  have HV := Lib.hid hv
  have HE := Lib.hid he
  obtain ⟨Av, cv, rfl, hv1, hv2, hv3, HCv⟩ := hv.open_
  clear hv he
  obtain ⟨n, hn⟩ : ∃ n, n = V.length := ⟨_, rfl⟩
  rw [← hn] at hv1 hv3 HV hlen ⊢
  have HN := Lib.hid hn
  clear hn
  go_enter Tryz.func6, Tryz.ntmps6
  go_wp2_with fail
  refine (alive_any _).mono ?_
  rintro e w1 ⟨rfl, hb⟩
  have HB : Hid (Below (w.heap.size + 1) (w.alloc (.cells #[.slice Av n cv, se] 25)) w1) := hb.mono (by simp)
  have hz : w.heap.size + 1 ≤ w1.heap.size := by have := hb.size; simpa using this
  obtain ⟨b0, b1⟩ := box_cells HB.out
  clear hb
  go_wp2_with fail
  refine (Span_no _ _ V E u 60 _ w.heap.size (HV.out.below (below_box HB.out)) (HE.out.below (below_box HB.out)) (by omega) hc (by decide)).mono ?_
  rintro e w2 ⟨rfl, hb⟩
  have HB2 : Hid (Below w.heap.size w w2) := (below_box HB.out).trans (hb.mono (by omega))
  clear hb
  go_wp2_with fail
  go_ret
  exact ⟨rfl, HB2.out⟩

set_option maxRecDepth 100000 in
set_option maxHeartbeats 8000000 in
theorem plainSpans_51 (sv se : Value) (V : List Int) (E : List Ed) (u : Int) (w : World) (hv : RI w w.heap.size sv V) (he : RE w w.heap.size se E) (hlen : ¬ 150 < V.length) (hc : chkV V E [u] = 51) :
    Calls Tryz.prog 6 #[netV sv se, .int .i64 u] w fun e w' => e = .returned (.bool true) ∧ Below w.heap.size w w' := by
  have HV := Lib.hid hv
  have HE := Lib.hid he
  obtain ⟨Av, cv, rfl, hv1, hv2, hv3, HCv⟩ := hv.open_
  clear hv he
  obtain ⟨n, hn⟩ : ∃ n, n = V.length := ⟨_, rfl⟩
  rw [← hn] at hv1 hv3 HV hlen ⊢
  have HN := Lib.hid hn
  clear hn
  go_enter Tryz.func6, Tryz.ntmps6
  go_wp2_with fail
  refine (alive_any _).mono ?_
  rintro e w1 ⟨rfl, hb⟩
  have HB : Hid (Below (w.heap.size + 1) (w.alloc (.cells #[.slice Av n cv, se] 25)) w1) := hb.mono (by simp)
  have hz : w.heap.size + 1 ≤ w1.heap.size := by have := hb.size; simpa using this
  obtain ⟨b0, b1⟩ := box_cells HB.out
  clear hb
  go_wp2_with fail
  refine (Span_no _ _ V E u 51 _ w.heap.size (HV.out.below (below_box HB.out)) (HE.out.below (below_box HB.out)) (by omega) hc (by decide)).mono ?_
  rintro e w2 ⟨rfl, hb⟩
  have HB2 : Hid (Below w.heap.size w w2) := (below_box HB.out).trans (hb.mono (by omega))
  clear hb
  go_wp2_with fail
  go_ret
  exact ⟨rfl, HB2.out⟩

set_option maxRecDepth 100000 in
set_option maxHeartbeats 8000000 in
theorem plainSpans_big (sv se : Value) (V : List Int) (E : List Ed) (u : Int) (w : World) (hv : RI w w.heap.size sv V) (he : RE w w.heap.size se E) (hlen : ¬ 150 < V.length) (hc : chkV V E [u] = 0) (hbig :  70368744177664 < spanV V E u) :
    Calls Tryz.prog 6 #[netV sv se, .int .i64 u] w fun e w' => e = .returned (.bool true) ∧ Below w.heap.size w w' := by
  have HV := Lib.hid hv
  have HE := Lib.hid he
  obtain ⟨Av, cv, rfl, hv1, hv2, hv3, HCv⟩ := hv.open_
  clear hv he
  obtain ⟨n, hn⟩ : ∃ n, n = V.length := ⟨_, rfl⟩
  rw [← hn] at hv1 hv3 HV hlen ⊢
  have HN := Lib.hid hn
  clear hn
  go_enter Tryz.func6, Tryz.ntmps6
  go_wp2_with fail
  refine (alive_any _).mono ?_
  rintro e w1 ⟨rfl, hb⟩
  have HB : Hid (Below (w.heap.size + 1) (w.alloc (.cells #[.slice Av n cv, se] 25)) w1) := hb.mono (by simp)
  have hz : w.heap.size + 1 ≤ w1.heap.size := by have := hb.size; simpa using this
  obtain ⟨b0, b1⟩ := box_cells HB.out
  clear hb
  go_wp2_with fail
  obtain ⟨hrn, hmem⟩ := chk_zero hc
  have HRN := Lib.hid hrn
  have HR : Hid (Right V E) := right_of hrn
  have HU : Hid (u ∈ V) := hmem u (by simp)
  have HC := Lib.hid hc
  obtain ⟨S, hS⟩ : ∃ S, S = spanV V E u := ⟨_, rfl⟩
  rw [← hS] at hbig
  have HS := Lib.hid hS
  have HT : Hid (toldT (spanV V E u) = .tuple #[.int .i64 0, .int .i64 62]) := by show _ = _; rw [← hS, toldT_hi (s := S) (by omega)]
  clear hrn hmem hc hS
  refine (Span_ok _ _ V E u _ w.heap.size (HV.out.below (below_box HB.out)) (HE.out.below (below_box HB.out)) (by omega) HC.out).mono ?_
  rw [HT.out]
  rintro e W ⟨rfl, hb⟩
  have HBW : Hid (Below (w.heap.size + 1) (w.alloc (.cells #[.slice Av n cv, se] 25)) W) := HB.out.trans (hb.mono (by omega))
  have hzW : w.heap.size + 1 ≤ W.heap.size := Nat.le_trans hz hb.size
  have hzl : w.heap.size < W.heap.size := by omega
  obtain ⟨b0, b1⟩ := box_cells HBW.out
  have HVW : Hid (RI W w.heap.size (.slice Av n cv) V) := HV.out.below (below_box HBW.out)
  have HEW : Hid (RE W w.heap.size se E) := HE.out.below (below_box HBW.out)
  have hn150 : n ≤ 150 := by omega
  obtain ⟨Av', cv', e1, _, _, _, HCW⟩ := HVW.out.open_
  obtain ⟨rfl, rfl⟩ : Av = Av' ∧ cv = cv' := by injection e1 with e1 e3 e4; exact ⟨e1, e4⟩
  clear hb HB hz e1 HCv
  go_wp2_with fail
  go_loopw [7, 8, 42] (fun mo sn i wr => ∃ (k seen : Nat) (m' : Int), k ≤ n ∧ i = .int .i64 k ∧ sn = .int .i64 seen ∧ seen ≤ k ∧ mo = .int .i64 m' ∧ Below W.heap.size W wr ∧ Hid (True)) (fun _ _ i wr => n - (intOf i).toNat)
  case atStart => exact ⟨0, 0, -1, Nat.zero_le _, rfl, rfl, Nat.zero_le _, rfl, Below.refl _ _, trivial⟩
  case round =>
    obtain ⟨k, seen, m', hk, rfl, rfl, hsk, rfl, hbel, HSp⟩ := hrel
    have hzr := hbel.size
    have HBel := Lib.hid hbel
    have c0 := (hbel.cell (p := ⟨w.heap.size, 0, none⟩) (by show w.heap.size < _; omega)).trans b0
    have c1 := (hbel.cell (p := ⟨w.heap.size, 1, none⟩) (by show w.heap.size < _; omega)).trans b1
    by_cases hlt : k < n
    · obtain ⟨bv, ov, rfl, hbv, hx⟩ := HCW.out k (by have := HN.out; omega)
      obtain ⟨v, hy⟩ : ∃ v, v = V[k]'(by have := HN.out; omega) := ⟨_, rfl⟩
      have HVk : Hid (V[k]? = some v) := by show _ = _; rw [hy]; exact List.getElem?_eq_getElem _
      have HVm : Hid (v ∈ V) := by show _ ∈ _; rw [hy]; exact List.getElem_mem _
      rw [← hy] at hx
      have hx := cellI hx
      have hx := (hbel.cell (p := ⟨bv, ov + k, none⟩) (by show bv < _; omega)).trans hx
      have HC2 : Hid (chkV V E [u, v] = 0) := chk_yes HRN.out (by intro z hz; simp at hz; rcases hz with rfl | rfl; exact HU.out; exact HVm.out)
      have HCv1 : Hid (chkV V E [v] = 0) := chk_yes HRN.out (by intro z hz; simp at hz; subst hz; exact HVm.out)
      have HVr := Lib.hid (HVW.out.below (hbel.mono (by omega)))
      have HEr := Lib.hid (HEW.out.below (hbel.mono (by omega)))
      clear hy hbel
      go_wp2_with fail
      refine (Joined_ok _ _ V E u v _ w.heap.size HVr.out HEr.out (by omega) HC2.out).mono ?_
      rintro e w3 ⟨rfl, hb⟩
      have hz3 : wr.heap.size ≤ w3.heap.size := hb.size
      have HB3 : Hid (Below W.heap.size W w3) := HBel.out.trans (hb.mono hzr)
      have c0 := (hb.cell (p := ⟨w.heap.size, 0, none⟩) (by show w.heap.size < _; omega)).trans c0
      have c1 := (hb.cell (p := ⟨w.heap.size, 1, none⟩) (by show w.heap.size < _; omega)).trans c1
      have HV3 := Lib.hid (HVW.out.below (HB3.out.mono (by omega)))
      have HE3 := Lib.hid (HEW.out.below (HB3.out.mono (by omega)))
      clear hb HVr HEr hx
      cases hj : joinedB V E u v with
      | false =>
        have HJ := Lib.hid hj
        clear hj
        go_wp2_with fail
        go_roundw
        case rel => exact ⟨k + 1, seen, m', by omega, by go_num, rfl, by omega, rfl, HB3.out, trivial⟩
        case measure => simp [intOf]; omega
      | true =>
        have HJ := Lib.hid hj
        clear hj
        by_cases hsn : 25 < seen
        · go_wp2_with fail
          go_roundw
          case rel => exact ⟨k + 1, seen, m', by omega, by go_num, rfl, by omega, rfl, HB3.out, trivial⟩
          case measure => simp [intOf]; omega
        · have HT2 : Hid (toldT (spanV V E v) = .tuple #[.int .i64 0, .int .i64 62]) := by show _ = _; rw [span_same HR.out HU.out HVm.out HJ.out]; exact HT.out
          go_wp2_with fail
          refine (Span_ok _ _ V E v _ w.heap.size HV3.out HE3.out (by omega) HCv1.out).mono ?_
          rw [HT2.out]
          rintro e W2 ⟨rfl, hb⟩
          have hz4 : w3.heap.size ≤ W2.heap.size := hb.size
          have HB4 : Hid (Below W.heap.size W W2) := HB3.out.trans (hb.mono (by omega))
          have d0 := (hb.cell (p := ⟨w.heap.size, 0, none⟩) (by show w.heap.size < _; omega)).trans c0
          have d1 := (hb.cell (p := ⟨w.heap.size, 1, none⟩) (by show w.heap.size < _; omega)).trans c1
          have HV4 := Lib.hid (HVW.out.below (HB4.out.mono (by omega)))
          have HE4 := Lib.hid (HEW.out.below (HB4.out.mono (by omega)))
          have hzl2 : w.heap.size < W2.heap.size := by omega
          obtain ⟨A5, c5, e5, _, _, _, HC4⟩ := HV4.out.open_
          obtain ⟨rfl, rfl⟩ : some ⟨bv, ov, none⟩ = A5 ∧ cv = c5 := by injection e5 with e1 e3 e4; exact ⟨e1, e4⟩
          clear hb HV3 HE3 e5 c0 c1 HT2
          go_wp2_with fail
          go_loopw [7, 78] (fun mo i wr => ∃ (j : Nat) (m2 : Int), j ≤ n ∧ i = .int .i64 j ∧ mo = .int .i64 m2 ∧ Below W2.heap.size W2 wr ∧ Hid (True)) (fun _ i wr => n - (intOf i).toNat)
          case atStart => exact ⟨0, m', Nat.zero_le _, rfl, rfl, Below.refl _ _, trivial⟩
          case round =>
            obtain ⟨j, m2, hj, rfl, rfl, hbel, HSq⟩ := hrel
            have hzr2 := hbel.size
            have HBel2 := Lib.hid hbel
            have c0 := (hbel.cell (p := ⟨w.heap.size, 0, none⟩) (by show w.heap.size < _; omega)).trans d0
            have c1 := (hbel.cell (p := ⟨w.heap.size, 1, none⟩) (by show w.heap.size < _; omega)).trans d1
            by_cases hjl : j < n
            · obtain ⟨b6, o6, e6, hb6, hx⟩ := HC4.out j (by have := HN.out; omega)
              obtain ⟨rfl, rfl⟩ : bv = b6 ∧ ov = o6 := by injection e6 with e6; injection e6 with e1 e2; exact ⟨e1, e2⟩
              obtain ⟨x, hy⟩ : ∃ x, x = V[j]'(by have := HN.out; omega) := ⟨_, rfl⟩
              have HXk : Hid (V[j]? = some x) := by show _ = _; rw [hy]; exact List.getElem?_eq_getElem _
              have HXm : Hid (x ∈ V) := by show _ ∈ _; rw [hy]; exact List.getElem_mem _
              rw [← hy] at hx
              have hx := cellI hx
              have hx := (hbel.cell (p := ⟨bv, ov + j, none⟩) (by show bv < _; omega)).trans hx
              have HV5 := Lib.hid (HV4.out.below (hbel.mono (by omega)))
              have HE5 := Lib.hid (HE4.out.below (hbel.mono (by omega)))
              have HPi : Hid (pathErr V E v x = if joinedB V E v x = true then 0 else 61) := path_if HRN.out HVm.out HXm.out
              clear hy hbel e6
              cases hj : joinedB V E v x with
              | false =>
                have HP0 : Hid (pathErr V E v x = 61) := by show _ = _; rw [HPi.out, hj]; rfl
                have HJ2 := Lib.hid hj
                clear hj HPi
                go_wp2_with fail
                refine (Along_no _ _ V E v x 61 _ w.heap.size HV5.out HE5.out (by omega) HP0.out (by decide)).mono ?_
                rw [aggZ_lit]
                rintro e w6 ⟨rfl, hb⟩
                have HB6 : Hid (Below W2.heap.size W2 w6) := HBel2.out.trans (hb.mono hzr2)
                have hz6 := HB6.out.size
                clear hb
                go_wp2_with fail
                go_roundw
                case rel => exact ⟨j + 1, m2, by omega, by go_num, rfl, HB6.out.alloc hz6 _, trivial⟩
                case measure => simp [intOf]; omega
              | true =>
                have HP0 : Hid (pathErr V E v x = 0) := by show _ = _; rw [HPi.out, hj]; rfl
                have HJ2 := Lib.hid hj
                obtain ⟨m, re, im, g, hal, hag⟩ := along_open (pathL V E v x)
                have hsn' : sumW (pathL V E v x) = dsV V E v x := path_dst HP0.out
                have hsb := sumW_bd (pathL V E v x) fun e he => HR.out.ew e (forE_sub V E e (pathL_sub HP0.out e he))
                have hsN : sumN (pathL V E v x) = (dsV V E v x).toNat := by unfold sumN; rw [hsn']
                rw [hsN] at hag
                have hpl : (pathL V E v x).length ≤ V.length := by unfold pathL; exact Went.back_len (f := plE V) (T := forE V E) (n := V.length) _ _
                have hvl := HR.out.vlen
                obtain ⟨q, hq⟩ : ∃ q, q = (dsV V E v x).toNat := ⟨_, rfl⟩
                have hqd : (q : Int) = dsV V E v x := by rw [hq, Int.toNat_of_nonneg (by rw [← hsn']; exact hsb.1)]
                rw [← hq] at hag
                have hq2 : q ≤ 2251799813685248 := by have := hsb.2; omega
                have hql : dsV V E v x ≤ spanV V E u := span_le HR.out HU.out HVm.out HXm.out HJ.out HJ2.out
                have HAl := Lib.hid hal
                have HQd := Lib.hid hqd
                have HQl := Lib.hid hql
                have hqS : (q : Int) ≤ S := by rw [hqd, HS.out]; exact hql
                obtain ⟨mi, mu, mv, mw⟩ := m
                dsimp only at HAl
                clear hj HPi hal hsn' hsb hsN hq hqd hql hpl hvl
                go_wp2_with fail
                refine (Along_ok _ _ V E v x _ w.heap.size HV5.out HE5.out (by omega) HP0.out).mono ?_
                rw [HAl.out]
                rintro e w6 ⟨rfl, hb⟩
                have HB6 : Hid (Below W2.heap.size W2 w6) := HBel2.out.trans (hb.mono hzr2)
                have hz6 := HB6.out.size
                clear hb
                rcases hag with ⟨hover, rfl⟩ | ⟨hover, rfl, _, rfl, _⟩
                · go_wp2_with fail
                  go_roundw
                  case rel => exact ⟨j + 1, m2, by omega, by go_num, rfl, HB6.out.alloc hz6 _, trivial⟩
                  case measure => simp [intOf]; omega
                · have hcv := fun w => conv_back q hq2 w
                  by_cases hgt : m2 < (q : Int)
                  · go_wp2_with fail
                    go_roundw
                    case rel => exact ⟨j + 1, (q : Int), by omega, by go_num, rfl, HB6.out.alloc hz6 _, trivial⟩
                    case measure => simp [intOf]; omega
                  · go_wp2_with fail
                    go_roundw
                    case rel => exact ⟨j + 1, m2, by omega, by go_num, rfl, HB6.out.alloc hz6 _, trivial⟩
                    case measure => simp [intOf]; omega
            · obtain rfl : j = n := by omega
              go_wp2_with fail
              go_roundw
              case rel => exact ⟨k + 1, seen + 1, m2, by omega, by go_num, by go_num, by omega, rfl, HB4.out.trans (HBel2.out.mono (by omega)), trivial⟩
              case measure => simp [intOf]; omega
    · obtain rfl : k = n := by omega
      go_wp2_with fail
      go_ret
      exact ⟨rfl, (below_box HBW.out).trans (HBel.out.mono (by omega))⟩

set_option maxRecDepth 100000 in
set_option maxHeartbeats 8000000 in
theorem plainSpans_fit (sv se : Value) (V : List Int) (E : List Ed) (u : Int) (w : World) (hv : RI w w.heap.size sv V) (he : RE w w.heap.size se E) (hlen : ¬ 150 < V.length) (hc : chkV V E [u] = 0) (hbig : ¬ 70368744177664 < spanV V E u) :
    Calls Tryz.prog 6 #[netV sv se, .int .i64 u] w fun e w' => e = .returned (.bool true) ∧ Below w.heap.size w w' := by
  have HV := Lib.hid hv
  have HE := Lib.hid he
  obtain ⟨Av, cv, rfl, hv1, hv2, hv3, HCv⟩ := hv.open_
  clear hv he
  obtain ⟨n, hn⟩ : ∃ n, n = V.length := ⟨_, rfl⟩
  rw [← hn] at hv1 hv3 HV hlen ⊢
  have HN := Lib.hid hn
  clear hn
  go_enter Tryz.func6, Tryz.ntmps6
  go_wp2_with fail
  refine (alive_any _).mono ?_
  rintro e w1 ⟨rfl, hb⟩
  have HB : Hid (Below (w.heap.size + 1) (w.alloc (.cells #[.slice Av n cv, se] 25)) w1) := hb.mono (by simp)
  have hz : w.heap.size + 1 ≤ w1.heap.size := by have := hb.size; simpa using this
  obtain ⟨b0, b1⟩ := box_cells HB.out
  clear hb
  go_wp2_with fail
  obtain ⟨hrn, hmem⟩ := chk_zero hc
  have HRN := Lib.hid hrn
  have HR : Hid (Right V E) := right_of hrn
  have HU : Hid (u ∈ V) := hmem u (by simp)
  have HC := Lib.hid hc
  obtain ⟨S, hS⟩ : ∃ S, S = spanV V E u := ⟨_, rfl⟩
  rw [← hS] at hbig
  have HS := Lib.hid hS
  have HT : Hid (toldT (spanV V E u) = .tuple #[.int .i64 S, .int .i64 0]) := by show _ = _; rw [← hS, toldT_lo (s := S) (by omega)]
  clear hrn hmem hc hS
  refine (Span_ok _ _ V E u _ w.heap.size (HV.out.below (below_box HB.out)) (HE.out.below (below_box HB.out)) (by omega) HC.out).mono ?_
  rw [HT.out]
  rintro e W ⟨rfl, hb⟩
  have HBW : Hid (Below (w.heap.size + 1) (w.alloc (.cells #[.slice Av n cv, se] 25)) W) := HB.out.trans (hb.mono (by omega))
  have hzW : w.heap.size + 1 ≤ W.heap.size := Nat.le_trans hz hb.size
  have hzl : w.heap.size < W.heap.size := by omega
  obtain ⟨b0, b1⟩ := box_cells HBW.out
  have HVW : Hid (RI W w.heap.size (.slice Av n cv) V) := HV.out.below (below_box HBW.out)
  have HEW : Hid (RE W w.heap.size se E) := HE.out.below (below_box HBW.out)
  have hn150 : n ≤ 150 := by omega
  obtain ⟨Av', cv', e1, _, _, _, HCW⟩ := HVW.out.open_
  obtain ⟨rfl, rfl⟩ : Av = Av' ∧ cv = cv' := by injection e1 with e1 e3 e4; exact ⟨e1, e4⟩
  clear hb HB hz e1 HCv
  go_wp2_with fail
  go_loopw [7, 8, 42] (fun mo sn i wr => ∃ (k seen : Nat) (m' : Int), k ≤ n ∧ i = .int .i64 k ∧ sn = .int .i64 seen ∧ seen ≤ k ∧ mo = .int .i64 m' ∧ Below W.heap.size W wr ∧ Hid (SpIn V E u k 0 0 seen m')) (fun _ _ i wr => n - (intOf i).toNat)
  case atStart => exact ⟨0, 0, -1, Nat.zero_le _, rfl, rfl, Nat.zero_le _, rfl, Below.refl _ _, SpIn.start HR.out HU.out⟩
  case round =>
    obtain ⟨k, seen, m', hk, rfl, rfl, hsk, rfl, hbel, HSp⟩ := hrel
    have hzr := hbel.size
    have HBel := Lib.hid hbel
    have c0 := (hbel.cell (p := ⟨w.heap.size, 0, none⟩) (by show w.heap.size < _; omega)).trans b0
    have c1 := (hbel.cell (p := ⟨w.heap.size, 1, none⟩) (by show w.heap.size < _; omega)).trans b1
    by_cases hlt : k < n
    · obtain ⟨bv, ov, rfl, hbv, hx⟩ := HCW.out k (by have := HN.out; omega)
      obtain ⟨v, hy⟩ : ∃ v, v = V[k]'(by have := HN.out; omega) := ⟨_, rfl⟩
      have HVk : Hid (V[k]? = some v) := by show _ = _; rw [hy]; exact List.getElem?_eq_getElem _
      have HVm : Hid (v ∈ V) := by show _ ∈ _; rw [hy]; exact List.getElem_mem _
      rw [← hy] at hx
      have hx := cellI hx
      have hx := (hbel.cell (p := ⟨bv, ov + k, none⟩) (by show bv < _; omega)).trans hx
      have HC2 : Hid (chkV V E [u, v] = 0) := chk_yes HRN.out (by intro z hz; simp at hz; rcases hz with rfl | rfl; exact HU.out; exact HVm.out)
      have HCv1 : Hid (chkV V E [v] = 0) := chk_yes HRN.out (by intro z hz; simp at hz; subst hz; exact HVm.out)
      have HVr := Lib.hid (HVW.out.below (hbel.mono (by omega)))
      have HEr := Lib.hid (HEW.out.below (hbel.mono (by omega)))
      clear hy hbel
      go_wp2_with fail
      refine (Joined_ok _ _ V E u v _ w.heap.size HVr.out HEr.out (by omega) HC2.out).mono ?_
      rintro e w3 ⟨rfl, hb⟩
      have hz3 : wr.heap.size ≤ w3.heap.size := hb.size
      have HB3 : Hid (Below W.heap.size W w3) := HBel.out.trans (hb.mono hzr)
      have c0 := (hb.cell (p := ⟨w.heap.size, 0, none⟩) (by show w.heap.size < _; omega)).trans c0
      have c1 := (hb.cell (p := ⟨w.heap.size, 1, none⟩) (by show w.heap.size < _; omega)).trans c1
      have HV3 := Lib.hid (HVW.out.below (HB3.out.mono (by omega)))
      have HE3 := Lib.hid (HEW.out.below (HB3.out.mono (by omega)))
      clear hb HVr HEr hx
      cases hj : joinedB V E u v with
      | false =>
        have HJ := Lib.hid hj
        clear hj
        go_wp2_with fail
        go_roundw
        case rel => exact ⟨k + 1, seen, m', by omega, by go_num, rfl, by omega, rfl, HB3.out, HSp.out.skip HVk.out (.inl HJ.out)⟩
        case measure => simp [intOf]; omega
      | true =>
        have HJ := Lib.hid hj
        clear hj
        by_cases hsn : 25 < seen
        · go_wp2_with fail
          go_roundw
          case rel => exact ⟨k + 1, seen, m', by omega, by go_num, rfl, by omega, rfl, HB3.out, HSp.out.skip HVk.out (.inr hsn)⟩
          case measure => simp [intOf]; omega
        · have HT2 : Hid (toldT (spanV V E v) = .tuple #[.int .i64 S, .int .i64 0]) := by show _ = _; rw [span_same HR.out HU.out HVm.out HJ.out]; exact HT.out
          go_wp2_with fail
          refine (Span_ok _ _ V E v _ w.heap.size HV3.out HE3.out (by omega) HCv1.out).mono ?_
          rw [HT2.out]
          rintro e W2 ⟨rfl, hb⟩
          have hz4 : w3.heap.size ≤ W2.heap.size := hb.size
          have HB4 : Hid (Below W.heap.size W W2) := HB3.out.trans (hb.mono (by omega))
          have d0 := (hb.cell (p := ⟨w.heap.size, 0, none⟩) (by show w.heap.size < _; omega)).trans c0
          have d1 := (hb.cell (p := ⟨w.heap.size, 1, none⟩) (by show w.heap.size < _; omega)).trans c1
          have HV4 := Lib.hid (HVW.out.below (HB4.out.mono (by omega)))
          have HE4 := Lib.hid (HEW.out.below (HB4.out.mono (by omega)))
          have hzl2 : w.heap.size < W2.heap.size := by omega
          obtain ⟨A5, c5, e5, _, _, _, HC4⟩ := HV4.out.open_
          obtain ⟨rfl, rfl⟩ : some ⟨bv, ov, none⟩ = A5 ∧ cv = c5 := by injection e5 with e1 e3 e4; exact ⟨e1, e4⟩
          clear hb HV3 HE3 e5 c0 c1 HT2
          go_wp2_with fail
          go_loopw [7, 78] (fun mo i wr => ∃ (j : Nat) (m2 : Int), j ≤ n ∧ i = .int .i64 j ∧ mo = .int .i64 m2 ∧ Below W2.heap.size W2 wr ∧ Hid (SpIn V E u k j v seen m2)) (fun _ i wr => n - (intOf i).toNat)
          case atStart => exact ⟨0, m', Nat.zero_le _, rfl, rfl, Below.refl _ _, HSp.out.enter⟩
          case round =>
            obtain ⟨j, m2, hj, rfl, rfl, hbel, HSq⟩ := hrel
            have hzr2 := hbel.size
            have HBel2 := Lib.hid hbel
            have c0 := (hbel.cell (p := ⟨w.heap.size, 0, none⟩) (by show w.heap.size < _; omega)).trans d0
            have c1 := (hbel.cell (p := ⟨w.heap.size, 1, none⟩) (by show w.heap.size < _; omega)).trans d1
            by_cases hjl : j < n
            · obtain ⟨b6, o6, e6, hb6, hx⟩ := HC4.out j (by have := HN.out; omega)
              obtain ⟨rfl, rfl⟩ : bv = b6 ∧ ov = o6 := by injection e6 with e6; injection e6 with e1 e2; exact ⟨e1, e2⟩
              obtain ⟨x, hy⟩ : ∃ x, x = V[j]'(by have := HN.out; omega) := ⟨_, rfl⟩
              have HXk : Hid (V[j]? = some x) := by show _ = _; rw [hy]; exact List.getElem?_eq_getElem _
              have HXm : Hid (x ∈ V) := by show _ ∈ _; rw [hy]; exact List.getElem_mem _
              rw [← hy] at hx
              have hx := cellI hx
              have hx := (hbel.cell (p := ⟨bv, ov + j, none⟩) (by show bv < _; omega)).trans hx
              have HV5 := Lib.hid (HV4.out.below (hbel.mono (by omega)))
              have HE5 := Lib.hid (HE4.out.below (hbel.mono (by omega)))
              have HPi : Hid (pathErr V E v x = if joinedB V E v x = true then 0 else 61) := path_if HRN.out HVm.out HXm.out
              clear hy hbel e6
              cases hj : joinedB V E v x with
              | false =>
                have HP0 : Hid (pathErr V E v x = 61) := by show _ = _; rw [HPi.out, hj]; rfl
                have HJ2 := Lib.hid hj
                clear hj HPi
                go_wp2_with fail
                refine (Along_no _ _ V E v x 61 _ w.heap.size HV5.out HE5.out (by omega) HP0.out (by decide)).mono ?_
                rw [aggZ_lit]
                rintro e w6 ⟨rfl, hb⟩
                have HB6 : Hid (Below W2.heap.size W2 w6) := HBel2.out.trans (hb.mono hzr2)
                have hz6 := HB6.out.size
                clear hb
                go_wp2_with fail
                go_roundw
                case rel => exact ⟨j + 1, m2, by omega, by go_num, rfl, HB6.out.alloc hz6 _, HSq.out.pass HXk.out (.inl HJ2.out)⟩
                case measure => simp [intOf]; omega
              | true =>
                have HP0 : Hid (pathErr V E v x = 0) := by show _ = _; rw [HPi.out, hj]; rfl
                have HJ2 := Lib.hid hj
                obtain ⟨m, re, im, g, hal, hag⟩ := along_open (pathL V E v x)
                have hsn' : sumW (pathL V E v x) = dsV V E v x := path_dst HP0.out
                have hsb := sumW_bd (pathL V E v x) fun e he => HR.out.ew e (forE_sub V E e (pathL_sub HP0.out e he))
                have hsN : sumN (pathL V E v x) = (dsV V E v x).toNat := by unfold sumN; rw [hsn']
                rw [hsN] at hag
                have hpl : (pathL V E v x).length ≤ V.length := by unfold pathL; exact Went.back_len (f := plE V) (T := forE V E) (n := V.length) _ _
                have hvl := HR.out.vlen
                obtain ⟨q, hq⟩ : ∃ q, q = (dsV V E v x).toNat := ⟨_, rfl⟩
                have hqd : (q : Int) = dsV V E v x := by rw [hq, Int.toNat_of_nonneg (by rw [← hsn']; exact hsb.1)]
                rw [← hq] at hag
                have hq2 : q ≤ 2251799813685248 := by have := hsb.2; omega
                have hql : dsV V E v x ≤ spanV V E u := span_le HR.out HU.out HVm.out HXm.out HJ.out HJ2.out
                have HAl := Lib.hid hal
                have HQd := Lib.hid hqd
                have HQl := Lib.hid hql
                have hqS : (q : Int) ≤ S := by rw [hqd, HS.out]; exact hql
                obtain ⟨mi, mu, mv, mw⟩ := m
                dsimp only at HAl
                clear hj HPi hal hsn' hsb hsN hq hqd hql hpl hvl
                go_wp2_with fail
                refine (Along_ok _ _ V E v x _ w.heap.size HV5.out HE5.out (by omega) HP0.out).mono ?_
                rw [HAl.out]
                rintro e w6 ⟨rfl, hb⟩
                have HB6 : Hid (Below W2.heap.size W2 w6) := HBel2.out.trans (hb.mono hzr2)
                have hz6 := HB6.out.size
                clear hb
                rcases hag with ⟨hover, rfl⟩ | ⟨hover, rfl, _, rfl, _⟩
                · exfalso; omega
                · have hcv := fun w => conv_back q hq2 w
                  by_cases hgt : m2 < (q : Int)
                  · go_wp2_with fail
                    go_roundw
                    case rel => exact ⟨j + 1, (q : Int), by omega, by go_num, rfl, HB6.out.alloc hz6 _, by have := HSq.out.up HXk.out HQl.out (by rw [← HQd.out]; omega); rw [← HQd.out] at this; exact this⟩
                    case measure => simp [intOf]; omega
                  · go_wp2_with fail
                    go_roundw
                    case rel => exact ⟨j + 1, m2, by omega, by go_num, rfl, HB6.out.alloc hz6 _, HSq.out.pass HXk.out (.inr (by rw [← HQd.out]; omega))⟩
                    case measure => simp [intOf]; omega
            · obtain rfl : j = n := by omega
              go_wp2_with fail
              go_roundw
              case rel => exact ⟨k + 1, seen + 1, m2, by omega, by go_num, by go_num, by omega, rfl, HB4.out.trans (HBel2.out.mono (by omega)), by have := HSq.out; rw [HN.out] at this; exact this.leave HVk.out⟩
              case measure => simp [intOf]; omega
    · obtain rfl : k = n := by omega
      have hfin : m' ≤ S ∧ (m' = S ∨ 25 < seen) := by
        have := HSp.out
        rw [HN.out] at this
        have := this.end_ HR.out HU.out
        rw [← HS.out] at this
        exact this
      obtain ⟨hf1, hf2⟩ := hfin
      rcases hf2 with rfl | hf2
      · go_wp2_with fail
        go_ret
        exact ⟨rfl, (below_box HBW.out).trans (HBel.out.mono (by omega))⟩
      · go_wp2_with fail
        all_goals
          go_ret
          refine ⟨?_, (below_box HBW.out).trans (HBel.out.mono (by omega))⟩
          first
            | rfl
            | (show Ending.returned (.bool (m' == S || decide (25 < (seen : Int)))) = _; rw [decide_eq_true (by omega), Bool.or_true])
            | (show Ending.returned (.bool (decide (25 < (seen : Int)))) = _; rw [decide_eq_true (by omega)])

theorem plainSpans_walk (sv se : Value) (V : List Int) (E : List Ed) (u : Int) (w : World) (hv : RI w w.heap.size sv V) (he : RE w w.heap.size se E) (hu : (Lit.int .i64 u).wf = true) :
    Calls Tryz.prog 6 #[netV sv se, .int .i64 u] w fun e w' => e = .returned (.bool true) ∧ Below w.heap.size w w' := by
  by_cases hlen : 150 < V.length
  · exact plainSpans_many sv se V E u w hv he hlen
  · cases hr : rightN V E with
    | false => exact plainSpans_60 sv se V E u w hv he hlen (by unfold chkV; rw [hr]; rfl)
    | true =>
      by_cases hm : u ∈ V
      · have hc : chkV V E [u] = 0 := chk_yes hr (by intro z hz; simp at hz; subst hz; exact hm)
        by_cases hb : 70368744177664 < spanV V E u
        · exact plainSpans_big sv se V E u w hv he hlen hc hb
        · exact plainSpans_fit sv se V E u w hv he hlen hc hb
      · exact plainSpans_51 sv se V E u w hv he hlen (chk_51 hr hm)
end Go.Proofs.YtcdockoflkmkmaaGreat
