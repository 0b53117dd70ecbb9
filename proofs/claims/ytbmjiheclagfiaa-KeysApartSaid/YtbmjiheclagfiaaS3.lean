/-
  The walk of the reference's Split.
-/
import Derived.Test.YtbmjiheclagfiaaS2
namespace Go.Proofs.Ytbmjiheclagfiaa
open Go.RowKit
set_option linter.unusedVariables false

theorem acc_step (l : List Nat) (p k : Nat) (h : p + k < l.length) : acc ((l.drop p).take (k + 1)) = acc ((l.drop p).take k) * 256 + l[p + k] := val4_step l p k h
theorem acc56 (l : List Nat) (p k : Nat) (hl : ∀ x ∈ l, x < 256) (hk : k ≤ 7) : acc ((l.drop p).take k) < 72057594037927936 :=
  acc_lt _ (fun x hx => hl x (List.mem_of_mem_drop (List.mem_of_mem_take hx))) (by rw [List.length_take]; omega)

theorem time_of (V : Nat) (hV : V < 18446744073709551616) (u : Int) (hu : u = (V : Int) - 9223372036854775808) (T : Int) (hT : T = wrap64 (IntKind.u64.wrap (9223372036854775808 - (V : Int)))) :
    (timeB (-u) = true ∧ T = -u ∧ 0 ≤ T ∧ T ≤ 1099511627776) ∨ (timeB (-u) = false ∧ (T < 0 ∨ 1099511627776 < T)) := by
  rw [IntKind.wrap_u64] at hT
  unfold wrap64 at hT
  by_cases h0 : 0 ≤ -u ∧ -u ≤ 1099511627776
  · exact .inl ⟨inB_yes h0.1 h0.2, by omega, by omega, by omega⟩
  · exact .inr ⟨inB_no h0, by omega⟩

set_option maxHeartbeats 4000000 in
theorem rsplit_short (A : Option Addr) (c : Nat) (l : List Nat) (w : World) (hl : l.length < 10) (d1 : decide ((0 : Int) < (l.length : Int) - 10) = false) (d2 : decide ((l.length : Int) - 10 < 0) = true) (d3 : decide (l.length < 10) = true) :
    Calls Try.prog 26 #[.slice A l.length c] w (Bytes3 w.heap.size w (splitR l)) := by
  have HBAD := Lib.hid (splitR_short hl)
  go_enter Try.func26, Try.ntmps26
  go_wp2
  refine wp_loop_once ?_
  go_wp2
  go_ret3
  exact ⟨_, by rw [HBAD.out]; rfl, by rw [HBAD.out]; exact OB.nil _ _, by go_grown⟩

set_option maxRecDepth 100000 in
set_option maxHeartbeats 4000000 in
theorem rsplit_long (A : Option Addr) (c n : Nat) (l : List Nat) (w : World) (hv : Hid (RB w w.heap.size (.slice A l.length c) l)) (hl : Hid (l.length = n + 10)) (ha : (l.length : Int) = (n : Int) + 10) (hn : (n : Int) ≤ 140737488355318) (hc : (l.length : Int) ≤ c) :
    Calls Try.prog 26 #[.slice A l.length c] w (Bytes3 w.heap.size w (splitR l)) := by
  have HA : Hid (∀ j, (h : j < l.length) → ∃ b off, A = some ⟨b, off, none⟩ ∧ b < w.heap.size ∧ w.cell? ⟨b, off + j, none⟩ = some (.int .u8 (l[j] : Nat)) ∧ l[j] < 256) := by
    obtain ⟨A', c', hv1, _, _, _, HA⟩ := hv.out.open_
    injection hv1 with e1 _ _
    subst e1
    exact HA
  have HL := Lib.hid hv.out.1
  have d0 : decide ((n : Int) < 0) = false := decide_eq_false (by omega)
  go_enter Try.func26, Try.ntmps26
  go_wp2
  go_loopw [6, 7] (fun v i wr => ∃ (k : Nat) (pre : List Nat), k ≤ n ∧ i = .int .i64 k ∧ Hid (OB wr w.heap.size v pre) ∧ Hid (pre.length ≤ k) ∧ Hid (SplitSt l n k pre) ∧ Hid (Below w.heap.size w wr)) (fun v i wr => n + 3 - (intOf i).toNat)
  case atStart => exact ⟨0, [], by omega, rfl, OB.made w w.heap.size _ 0 (Nat.le_refl _) (by omega) rfl, Nat.le_refl _, splitSt_start l n, (Below.refl _ _).alloc (Nat.le_refl _) _⟩
  case round =>
    obtain ⟨k, pre, hk, rfl, HO, HPL, HS, HB⟩ := hrel
    have hl' := hl.out
    obtain ⟨b, off, rfl, hb, hx, hx2⟩ := HA.out k (by omega)
    obtain ⟨b', off', he, _, hy, hy2⟩ := HA.out (k + 1) (by omega)
    injection he with he
    injection he with e1 e2
    subst e1 e2
    have hx' := (HB.out.cell (p := ⟨b, off + k, none⟩) hb).trans hx
    have hy' := (HB.out.cell (p := ⟨b, off + (k + 1), none⟩) hb).trans hy
    have S1 : Hid (¬ l[k]'(by omega) = 0 → SplitSt l n (k + 1) (pre ++ [l[k]'(by omega)])) := fun h => splitSt_plain hl' HS.out hk h
    have S2 : Hid (l[k]'(by omega) = 0 → l[k + 1]'(by omega) = 255 → SplitSt l n (k + 2) (pre ++ [0])) := fun h1 h2 => splitSt_zero hl' HS.out hk h1 h2
    have S3 : Hid (k < n → l[k]'(by omega) = 0 → ¬ l[k + 1]'(by omega) = 255 → splitR l = badS) := fun h1 h2 h3 => splitSt_bad hl' HS.out h1 h2 h3
    have S4 : Hid (k + 1 = n → l[k]'(by omega) = 0 → splitR l = badS) := fun h1 h2 => splitSt_edge hl' HS.out h1 h2
    have S5 : Hid (k = n → ¬ (l[k]'(by omega) = 0 ∧ l[k + 1]'(by omega) = 0) → splitR l = badS) := by
      rintro rfl h
      exact splitR_end hl' h
    have hpl : (pre.length : Int) ≤ (k : Int) := by have := HPL.out; omega
    obtain ⟨x, hx0⟩ : ∃ x, x = l[k]'(by omega) := ⟨_, rfl⟩
    obtain ⟨y, hy0⟩ : ∃ y, y = l[k + 1]'(by omega) := ⟨_, rfl⟩
    rw [← hx0] at hx hx' hx2 S1 S2 S3 S4 S5
    rw [← hy0] at hy hy' hy2 S2 S3 S5
    have HX0 := Lib.hid hx0
    have HY0 := Lib.hid hy0
    have HXC := Lib.hid hx
    have HYC := Lib.hid hy
    clear hx0 hy0 hx hy
    have i1 : (k : Int) < (n : Int) + 10 := by omega
    have i2 : (k : Int) + 1 < (n : Int) + 10 := by omega
    clear hl'
    by_cases hkn : k < n
    · have d1 : decide ((k : Int) < (n : Int)) = true := decide_eq_true (by omega)
      rcases Nat.eq_zero_or_pos x with hz | hz
      · have HZ := Lib.hid hz
        have hzb : ((x : Int) == 0) = true := by simp; omega
        clear hz
        by_cases hk1 : k + 1 = n
        · have HBAD : Hid (splitR l = badS) := S4.out hk1 HZ.out
          have d2 : decide ((n : Int) ≤ (k : Int) + 1) = true := decide_eq_true (by omega)
          clear hk1
          go_wp2_with (at_builtin; go_must (refine wpList_app1 (w0 := w) rfl (.tmp 20) (.tmp 25) rfl w.heap.size _ _ rfl HO.out HB.out (Nat.le_refl _) _ x rfl hx2 rfl (by omega) ?_); intro v' w1 ho1 hb1 _; have HO1 := Lib.hid ho1; have HB1 := Lib.hid hb1; have hx1 := (HB1.out.cell (p := ⟨b, off + k, none⟩) hb).trans HXC.out; have hy1 := (HB1.out.cell (p := ⟨b, off + (k + 1), none⟩) hb).trans HYC.out; clear ho1 hb1)
          go_ret3
          exact ⟨_, by rw [HBAD.out]; rfl, by rw [HBAD.out]; exact OB.nil _ _, HB1.out⟩
        · have d2 : decide ((n : Int) ≤ (k : Int) + 1) = false := decide_eq_false (by omega)
          by_cases hyc : y = 255
          · have HY := Lib.hid hyc
            have hyb : ((y : Int) != 255) = false := by simp; omega
            clear hyc
            go_wp2_with (at_builtin; go_must (refine wpList_app1 (w0 := w) rfl (.tmp 20) (.tmp 25) rfl w.heap.size _ _ rfl HO.out HB.out (Nat.le_refl _) _ x rfl hx2 rfl (by omega) ?_); intro v' w1 ho1 hb1 _; have HO1 := Lib.hid ho1; have HB1 := Lib.hid hb1; have hx1 := (HB1.out.cell (p := ⟨b, off + k, none⟩) hb).trans HXC.out; have hy1 := (HB1.out.cell (p := ⟨b, off + (k + 1), none⟩) hb).trans HYC.out; clear ho1 hb1)
            go_roundw
            case rel => exact ⟨k + 2, pre ++ [0], by omega, by go_num, by have := HO1.out; rw [HZ.out] at this; exact this, by show _ ≤ _; have := HPL.out; simp; omega, S2.out HZ.out HY.out, HB1⟩
            case measure => simp [intOf]; omega
          · have HBAD : Hid (splitR l = badS) := S3.out hkn HZ.out hyc
            have hyb : ((y : Int) != 255) = true := by simp; omega
            clear hyc
            go_wp2_with (at_builtin; go_must (refine wpList_app1 (w0 := w) rfl (.tmp 20) (.tmp 25) rfl w.heap.size _ _ rfl HO.out HB.out (Nat.le_refl _) _ x rfl hx2 rfl (by omega) ?_); intro v' w1 ho1 hb1 _; have HO1 := Lib.hid ho1; have HB1 := Lib.hid hb1; have hx1 := (HB1.out.cell (p := ⟨b, off + k, none⟩) hb).trans HXC.out; have hy1 := (HB1.out.cell (p := ⟨b, off + (k + 1), none⟩) hb).trans HYC.out; clear ho1 hb1)
            go_ret3
            exact ⟨_, by rw [HBAD.out]; rfl, by rw [HBAD.out]; exact OB.nil _ _, HB1.out⟩
      · have HZ : Hid (¬ x = 0) := (by omega : ¬ x = 0)
        have hzb : ((x : Int) == 0) = false := by simp; omega
        clear hz
        go_wp2_with (at_builtin; go_must (refine wpList_app1 (w0 := w) rfl (.tmp 20) (.tmp 25) rfl w.heap.size _ _ rfl HO.out HB.out (Nat.le_refl _) _ x rfl hx2 rfl (by omega) ?_); intro v' w1 ho1 hb1 _; have HO1 := Lib.hid ho1; have HB1 := Lib.hid hb1; have hx1 := (HB1.out.cell (p := ⟨b, off + k, none⟩) hb).trans HXC.out; have hy1 := (HB1.out.cell (p := ⟨b, off + (k + 1), none⟩) hb).trans HYC.out; clear ho1 hb1)
        go_roundw
        case rel => exact ⟨k + 1, pre ++ [x], by omega, by go_num, HO1, by show _ ≤ _; have := HPL.out; simp; omega, S1.out HZ.out, HB1⟩
        case measure => simp [intOf]; omega
    · obtain rfl : k = n := by omega
      have d1 : decide ((k : Int) < (k : Int)) = false := decide_eq_false (by omega)
      rcases Nat.eq_zero_or_pos x with hz | hz
      · have HZ := Lib.hid hz
        have hzb : ((x : Int) != 0) = false := by simp; omega
        clear hz
        by_cases hyc : y = 0
        · have HY := Lib.hid hyc
          have hyb : ((y : Int) != 0) = false := by simp; omega
          clear hyc
          have hl' := hl.out
          have HKEY : Hid (unesc (l.take k) = some pre) := splitSt_done hl' HS.out
          have HALL : Hid (∀ u : Int, u = (val (l.drop (k + 2)) : Nat) - 9223372036854775808 → splitR l = if timeB (-u) then (pre, -u, 0) else badS) := fun u hu => splitR_all hl' pre HKEY.out (by have := HX0.out; have := HZ.out; omega) (by have := HY0.out; have := HY.out; omega) u hu
          have HSZ : Hid ((l.drop (k + 2)).length = 8) := by show _ = _; rw [List.length_drop]; omega
          clear hl'
          go_wp2
          go_loop [8, 9] (fun u i => ∃ j : Nat, j ≤ 8 ∧ i = .int .i64 ((k : Int) + 2 + (j : Int)) ∧ u = .int .u64 (acc ((l.drop (k + 2)).take j) : Nat)) (fun u i => k + 10 - (intOf i).toNat)
          case atStart => exact ⟨0, by omega, by simp, rfl⟩
          case round =>
            obtain ⟨j, hj, rfl, rfl⟩ := hrel
            by_cases hj8 : j < 8
            · obtain ⟨b', off', he, _, hz, hz2⟩ := HA.out (k + 2 + j) (by have := hl.out; omega)
              injection he with he
              injection he with e1 e2
              subst e1 e2
              have hz' := (HB.out.cell (p := ⟨b, off + (k + 2 + j), none⟩) hb).trans hz
              have hst := acc_step l (k + 2) j (by have := hl.out; omega)
              have h56 := acc56 l (k + 2) j HL.out (by omega)
              obtain ⟨z, hz0⟩ : ∃ z, z = l[k + 2 + j]'(by have := hl.out; omega) := ⟨_, rfl⟩
              rw [← hz0] at hz' hz2 hst
              have HST := Lib.hid hst
              clear hst hz0 hz
              generalize acc ((l.drop (k + 2)).take j) = q at h56 HST ⊢
              have i3 : (k : Int) + 2 + (j : Int) < (k : Int) + 10 := by omega
              go_wp2
              go_round
              case rel => exact ⟨j + 1, by omega, by go_num, by rw [HST.out]; go_num⟩
              case measure => simp [intOf]; omega
            · obtain rfl : j = 8 := by omega
              have e8 : (l.drop (k + 2)).take 8 = l.drop (k + 2) := List.take_of_length_le (by rw [HSZ.out]; omega)
              rw [e8, acc_val]
              have hval := val_lt (l.drop (k + 2)) (fun x hx => HL.out x (List.mem_of_mem_drop hx))
              rw [HSZ.out] at hval
              clear e8
              obtain ⟨u, hu⟩ : ∃ u : Int, u = (val (l.drop (k + 2)) : Nat) - 9223372036854775808 := ⟨_, rfl⟩
              have HSR := Lib.hid (HALL.out u hu)
              have HU := Lib.hid hu
              generalize val (l.drop (k + 2)) = V at hval hu HU
              go_upto_region 19 with (fail)
              obtain ⟨T, hT⟩ : ∃ T, T = wrap64 (IntKind.u64.wrap (9223372036854775808 - (V : Int))) := ⟨_, rfl⟩
              rw [← hT]
              have hcase := time_of V (by simpa using hval) u hu T hT
              clear hT hu hval HALL
              rcases hcase with ⟨ht, he, t1, t2⟩ | ⟨ht, hb2⟩
              · have HOK : Hid (splitR l = (pre, T, 0)) := by rw [HSR.out, ht, he]; rfl
                have d5 : decide (T < 0) = false := decide_eq_false (by omega)
                have d6 : decide (1099511627776 < T) = false := decide_eq_false (by omega)
                clear ht he HSR
                go_wp2
                go_ret3
                exact ⟨_, by rw [HOK.out]; rfl, by rw [HOK.out]; exact HO.out, HB.out⟩
              · have HBAD : Hid (splitR l = badS) := by rw [HSR.out, ht]; rfl
                clear ht HSR
                by_cases hT0 : T < 0
                · clear hb2
                  go_wp2
                  go_ret3
                  exact ⟨_, by rw [HBAD.out]; rfl, by rw [HBAD.out]; exact OB.nil _ _, HB.out⟩
                · have d5 : decide (T < 0) = false := decide_eq_false hT0
                  have h6 : 1099511627776 < T := by omega
                  clear hb2 hT0
                  go_wp2
                  go_ret3
                  exact ⟨_, by rw [HBAD.out]; rfl, by rw [HBAD.out]; exact OB.nil _ _, HB.out⟩
        · have HBAD : Hid (splitR l = badS) := S5.out rfl (fun hh => hyc hh.2)
          have hyb : ((y : Int) != 0) = true := by simp; omega
          clear hyc
          go_wp2
          go_ret3
          exact ⟨_, by rw [HBAD.out]; rfl, by rw [HBAD.out]; exact OB.nil _ _, HB.out⟩
      · have HBAD : Hid (splitR l = badS) := S5.out rfl (fun hh => by omega)
        have hzb : ((x : Int) != 0) = true := by simp; omega
        clear hz
        go_wp2
        go_ret3
        exact ⟨_, by rw [HBAD.out]; rfl, by rw [HBAD.out]; exact OB.nil _ _, HB.out⟩
end Go.Proofs.Ytbmjiheclagfiaa
