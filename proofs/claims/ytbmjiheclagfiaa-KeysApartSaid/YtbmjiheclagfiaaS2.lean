/-
  The walk of keys.Split.
-/
import Derived.Test.YtbmjiheclagfiaaS1
import Derived.Test.YtbmjiheclagfiaaN8
import Derived.Test.YtbmjiheclagfiaaC3
import Derived.ScopeJumps
import Derived.WalkMore
import Derived.Outline
namespace Go.Proofs.Ytbmjiheclagfiaa
open Go.RowKit
set_option linter.unusedVariables false

/-- What holds where a goto comes to the end. -/
def SplitJ (l : List Nat) (w : World) (a' : Act) (w' : World) : Prop := ∃ (u0 u1 u2 u3 u4 u5 u6 u7 u8 u9 u10 u11 u12 u13 u14 u15 u16 u17 u18 u19 u20 u21 u22 u23 u24 u25 u26 u27 u28 u29 u30 u31 u32 u33 u34 u35 u36 u37 u38 u39 u40 u41 u42 u43 u44 u45 u46 u47 u48 u49 u50 u51 u52 u53 u54 u55 u56 u57 u58 u59 u60 u61 u62 u63 u64 : Value), a' = { tmps := #[u0, u1, u2, u3, u4, u5, u6, u7, u8, u9, u10, u11, u12, u13, u14, u15, u16, u17, u18, u19, u20, u21, u22, u23, u24, u25, u26, u27, u28, u29, u30, u31, u32, u33, u34, u35, u36, u37, u38, u39, u40, u41, u42, u43, u44, u45, u46, u47, u48, u49, u50, u51, u52, u53, u54, u55, u56, u57, u58, u59, u60, u61, u62, u63, u64], defers := [] } ∧ Hid (splitR l = badS) ∧ Hid (Below w.heap.size w w')

theorem unbig_u (x0 x1 x2 x3 x4 x5 x6 x7 : Nat) (u : Int) (w : World) (hx : Hid (∀ x ∈ [x0, x1, x2, x3, x4, x5, x6, x7], x < 256)) (hu : Hid (u = (val [x0, x1, x2, x3, x4, x5, x6, x7] : Nat) - 9223372036854775808)) :
    Calls Try.prog 51 #[.agg #[.int .u8 (x0 : Int), .int .u8 (x1 : Int), .int .u8 (x2 : Int), .int .u8 (x3 : Int), .int .u8 (x4 : Int), .int .u8 (x5 : Int), .int .u8 (x6 : Int), .int .u8 (x7 : Int)]] w fun e w' => e = .returned (.int .i64 u) ∧ ∃ o, w' = w.alloc o := by
  have := unbig_any x0 x1 x2 x3 x4 x5 x6 x7 w hx.out
  rw [← hu.out] at this
  exact this
theorem eight (l : List Nat) (p : Nat) (h : l.length = p + 8) : l.drop p = [l[p]'(by omega), l[p + 1]'(by omega), l[p + 2]'(by omega), l[p + 3]'(by omega), l[p + 4]'(by omega), l[p + 5]'(by omega), l[p + 6]'(by omega), l[p + 7]'(by omega)] := by
  rw [List.drop_eq_getElem_cons (by omega), List.drop_eq_getElem_cons (by omega), List.drop_eq_getElem_cons (by omega), List.drop_eq_getElem_cons (by omega), List.drop_eq_getElem_cons (by omega), List.drop_eq_getElem_cons (by omega), List.drop_eq_getElem_cons (by omega), List.drop_eq_getElem_cons (by omega), List.drop_of_length_le (by omega)]
theorem time_min : timeB (wrap64 9223372036854775808) = false := inB_no (by unfold wrap64; omega)
def minI : Int := -9223372036854775808

set_option maxRecDepth 100000 in
set_option maxHeartbeats 4000000 in
theorem split_short (A : Option Addr) (c : Nat) (l : List Nat) (w : World) (hl : l.length < 10) (h10 : decide ((0 : Int) ≤ (l.length : Int) - 2 - 8) = false) :
    Calls Try.prog 25 #[.slice A l.length c] w (Bytes3 w.heap.size w (splitR l)) := by
  have HBAD := Lib.hid (splitR_short hl)
  have HBEL := Lib.hid (Below.refl w.heap.size w)
  go_enter Try.func25, Try.ntmps25
  go_wp2
  refine wp_scope_jumps 0 (SplitJ l w) (fun _ _ => 0) rfl ?_ ?_
  · go_wp2
    refine wp_loop_once ?_
    go_wp2
    go_step3
    exact ⟨rfl, _, _, _, _, _, _, _, _, _, _, _, _, _, _, _, _, _, _, _, _, _, _, _, _, _, _, _, _, _, _, _, _, _, _, _, _, _, _, _, _, _, _, _, _, _, _, _, _, _, _, _, _, _, _, _, _, _, _, _, _, _, _, _, _, _, rfl, HBAD, HBEL⟩
  · rintro a' w' ⟨u0, u1, u2, u3, u4, u5, u6, u7, u8, u9, u10, u11, u12, u13, u14, u15, u16, u17, u18, u19, u20, u21, u22, u23, u24, u25, u26, u27, u28, u29, u30, u31, u32, u33, u34, u35, u36, u37, u38, u39, u40, u41, u42, u43, u44, u45, u46, u47, u48, u49, u50, u51, u52, u53, u54, u55, u56, u57, u58, u59, u60, u61, u62, u63, u64, rfl, HBAD, HBEL⟩
    go_wp2
    simp only [Exit.jump]
    go_ret3
    exact ⟨_, by rw [HBAD.out]; rfl, by rw [HBAD.out]; exact OB.nil _ _, HBEL.out⟩
set_option maxRecDepth 100000 in
set_option maxHeartbeats 4000000 in
theorem split_long (A : Option Addr) (c n : Nat) (l : List Nat) (w : World) (hv : Hid (RB w w.heap.size (.slice A l.length c) l)) (hl : Hid (l.length = n + 10)) (ha : (l.length : Int) = (n : Int) + 10) (hn : (n : Int) ≤ 140737488355318) (hc : (l.length : Int) ≤ c) :
    Calls Try.prog 25 #[.slice A l.length c] w (Bytes3 w.heap.size w (splitR l)) := by
  have HB0 := Lib.hid (Below.refl w.heap.size w)
  have HA : Hid (∀ j, (h : j < l.length) → ∃ b off, A = some ⟨b, off, none⟩ ∧ b < w.heap.size ∧ w.cell? ⟨b, off + j, none⟩ = some (.int .u8 (l[j] : Nat)) ∧ l[j] < 256) := by
    obtain ⟨A', c', hv1, _, _, _, HA⟩ := hv.out.open_
    injection hv1 with e1 _ _
    subst e1
    exact HA
  go_enter Try.func25, Try.ntmps25
  go_wp2
  refine wp_scope_jumps 0 (SplitJ l w) (fun _ _ => 0) rfl ?_ ?_
  · go_wp2
    go_loopw [5, 7] (fun v i wr => ∃ (k : Nat) (pre : List Nat), k ≤ n + 2 ∧ i = .int .i64 k ∧ Hid (OB wr w.heap.size v pre) ∧ Hid (pre.length ≤ k) ∧ Hid (SplitSt l n k pre) ∧ Hid (Below w.heap.size w wr)) (fun v i wr => n + 3 - (intOf i).toNat)
    case atStart => exact ⟨0, [], by omega, rfl, OB.nil _ _, Nat.le_refl _, splitSt_start l n, HB0⟩
    case round =>
      obtain ⟨k, pre, hk, rfl, HO, HPL, HS, HB⟩ := hrel
      by_cases hkn : k ≤ n
      · have d1 : decide ((k : Int) ≤ (n : Int) + 10 - 2 - 8) = true := decide_eq_true (by omega)
        have hl' := hl.out
        obtain ⟨b, off, rfl, hb, hx, hx2⟩ := HA.out k (by omega)
        obtain ⟨b', off', he, _, hy, hy2⟩ := HA.out (k + 1) (by omega)
        injection he with he
        injection he with e1 e2
        subst e1 e2
        have hx' := (HB.out.cell (p := ⟨b, off + k, none⟩) hb).trans hx
        have hy' := (HB.out.cell (p := ⟨b, off + (k + 1), none⟩) hb).trans hy
        have S1 : Hid (¬ l[k]'(by omega) = 0 → SplitSt l n (k + 1) (pre ++ [l[k]'(by omega)])) := fun h => splitSt_plain hl' HS.out hkn h
        have S2 : Hid (l[k]'(by omega) = 0 → l[k + 1]'(by omega) = 255 → SplitSt l n (k + 2) (pre ++ [0])) := fun h1 h2 => splitSt_zero hl' HS.out hkn h1 h2
        have S3 : Hid (k < n → l[k]'(by omega) = 0 → ¬ l[k + 1]'(by omega) = 255 → splitR l = badS) := fun h1 h2 h3 => splitSt_bad hl' HS.out h1 h2 h3
        have hpl : (pre.length : Int) ≤ (k : Int) := by have := HPL.out; omega
        obtain ⟨x, hx0⟩ : ∃ x, x = l[k]'(by omega) := ⟨_, rfl⟩
        obtain ⟨y, hy0⟩ : ∃ y, y = l[k + 1]'(by omega) := ⟨_, rfl⟩
        rw [← hx0] at hx' hx2 S1 S2 S3
        rw [← hy0] at hy' hy2 S2 S3
        have HX0 := Lib.hid hx0
        have HY0 := Lib.hid hy0
        clear hx0 hy0 hx hy
        have i1 : (k : Int) < (n : Int) + 10 := by omega
        have i2 : (k : Int) + 1 < (n : Int) + 10 := by omega
        clear hl'
        rcases Nat.eq_zero_or_pos x with hz | hz
        · have HZ := Lib.hid hz
          have hzb : ((x : Int) != 0) = false := by simp; omega
          clear hz
          by_cases hyc : y = 255
          · have HY := Lib.hid hyc
            have hyb : ((y : Int) != 255) = false := by simp; omega
            clear hyc
            go_wp2_with (at_builtin; go_must (refine wpList_app1 (w0 := w) rfl (.tmp 36) (.tmp 37) rfl w.heap.size _ _ rfl HO.out HB.out (Nat.le_refl _) _ 0 rfl (by omega) rfl (by omega) ?_); intro v' w1 ho1 hb1 _; have HO1 := Lib.hid ho1; have HB1 := Lib.hid hb1; clear ho1 hb1)
            go_roundw
            case rel => exact ⟨k + 2, pre ++ [0], by omega, by go_num, HO1, by show _ ≤ _; have := HPL.out; simp; omega, S2.out HZ.out HY.out, HB1⟩
            case measure => simp [intOf]; omega
          · have HY := Lib.hid hyc
            have hyb : ((y : Int) != 255) = true := by simp; omega
            clear hyc
            by_cases hkn2 : k = n
            · subst hkn2
              have hib : ((k : Int) != (k : Int) + 10 - 2 - 8) = false := by simp; omega
              by_cases hy0c : y = 0
              · have hl' := hl.out
                have hyz : ((y : Int) != 0) = false := by simp; omega
                have HKEY : Hid (unesc (l.take k) = some pre) := splitSt_done hl' HS.out
                have HALL : Hid (∀ u : Int, u = (val (l.drop (k + 2)) : Nat) - 9223372036854775808 → splitR l = if timeB (-u) then (pre, -u, 0) else badS) := fun u hu => splitR_all hl' pre HKEY.out (by have := HX0.out; have := HZ.out; omega) (by have := HY0.out; omega) u hu
                have H8 := Lib.hid (eight l (k + 2) (by omega))
                obtain ⟨b0, o0, he0, _, g0, q0⟩ := HA.out (k + 2) (by omega)
                obtain ⟨b1, o1, he1, _, g1, q1⟩ := HA.out (k + 2 + 1) (by omega)
                obtain ⟨b2, o2, he2, _, g2, q2⟩ := HA.out (k + 2 + 2) (by omega)
                obtain ⟨b3, o3, he3, _, g3, q3⟩ := HA.out (k + 2 + 3) (by omega)
                obtain ⟨b4, o4, he4, _, g4, q4⟩ := HA.out (k + 2 + 4) (by omega)
                obtain ⟨b5, o5, he5, _, g5, q5⟩ := HA.out (k + 2 + 5) (by omega)
                obtain ⟨b6, o6, he6, _, g6, q6⟩ := HA.out (k + 2 + 6) (by omega)
                obtain ⟨b7, o7, he7, _, g7, q7⟩ := HA.out (k + 2 + 7) (by omega)
                injection he0 with he0; injection he0 with e1 e2; subst e1 e2
                injection he1 with he1; injection he1 with e1 e2; subst e1 e2
                injection he2 with he2; injection he2 with e1 e2; subst e1 e2
                injection he3 with he3; injection he3 with e1 e2; subst e1 e2
                injection he4 with he4; injection he4 with e1 e2; subst e1 e2
                injection he5 with he5; injection he5 with e1 e2; subst e1 e2
                injection he6 with he6; injection he6 with e1 e2; subst e1 e2
                injection he7 with he7; injection he7 with e1 e2; subst e1 e2
                have HX8 : Hid (∀ x ∈ [l[k + 2]'(by omega), l[k + 2 + 1]'(by omega), l[k + 2 + 2]'(by omega), l[k + 2 + 3]'(by omega), l[k + 2 + 4]'(by omega), l[k + 2 + 5]'(by omega), l[k + 2 + 6]'(by omega), l[k + 2 + 7]'(by omega)], x < 256) := by
                  intro x hx
                  simp only [List.mem_cons, List.not_mem_nil, or_false] at hx
                  rcases hx with rfl | rfl | rfl | rfl | rfl | rfl | rfl | rfl <;> assumption
                have t0 := (HB.out.cell (p := ⟨b, off + (k + 2), none⟩) hb).trans g0
                have t1 := (HB.out.cell (p := ⟨b, off + (k + 2 + 1), none⟩) hb).trans g1
                have t2 := (HB.out.cell (p := ⟨b, off + (k + 2 + 2), none⟩) hb).trans g2
                have t3 := (HB.out.cell (p := ⟨b, off + (k + 2 + 3), none⟩) hb).trans g3
                have t4 := (HB.out.cell (p := ⟨b, off + (k + 2 + 4), none⟩) hb).trans g4
                have t5 := (HB.out.cell (p := ⟨b, off + (k + 2 + 5), none⟩) hb).trans g5
                have t6 := (HB.out.cell (p := ⟨b, off + (k + 2 + 6), none⟩) hb).trans g6
                have t7 := (HB.out.cell (p := ⟨b, off + (k + 2 + 7), none⟩) hb).trans g7
                clear g0 g1 g2 g3 g4 g5 g6 g7 q0 q1 q2 q3 q4 q5 q6 q7
                obtain ⟨z0, hz0⟩ : ∃ z, z = l[k + 2]'(by omega) := ⟨_, rfl⟩
                obtain ⟨z1, hz1⟩ : ∃ z, z = l[k + 2 + 1]'(by omega) := ⟨_, rfl⟩
                obtain ⟨z2, hz2⟩ : ∃ z, z = l[k + 2 + 2]'(by omega) := ⟨_, rfl⟩
                obtain ⟨z3, hz3⟩ : ∃ z, z = l[k + 2 + 3]'(by omega) := ⟨_, rfl⟩
                obtain ⟨z4, hz4⟩ : ∃ z, z = l[k + 2 + 4]'(by omega) := ⟨_, rfl⟩
                obtain ⟨z5, hz5⟩ : ∃ z, z = l[k + 2 + 5]'(by omega) := ⟨_, rfl⟩
                obtain ⟨z6, hz6⟩ : ∃ z, z = l[k + 2 + 6]'(by omega) := ⟨_, rfl⟩
                obtain ⟨z7, hz7⟩ : ∃ z, z = l[k + 2 + 7]'(by omega) := ⟨_, rfl⟩
                rw [← hz0] at t0
                rw [← hz1, ← Nat.add_assoc] at t1
                rw [← hz2, ← Nat.add_assoc] at t2
                rw [← hz3, ← Nat.add_assoc] at t3
                rw [← hz4, ← Nat.add_assoc] at t4
                rw [← hz5, ← Nat.add_assoc] at t5
                rw [← hz6, ← Nat.add_assoc] at t6
                rw [← hz7, ← Nat.add_assoc] at t7
                rw [← hz0, ← hz1, ← hz2, ← hz3, ← hz4, ← hz5, ← hz6, ← hz7] at HX8 H8
                clear hz0 hz1 hz2 hz3 hz4 hz5 hz6 hz7
                obtain ⟨u, hu⟩ : ∃ u : Int, u = (val [z0, z1, z2, z3, z4, z5, z6, z7] : Nat) - 9223372036854775808 := ⟨_, rfl⟩
                have hulo : -9223372036854775808 ≤ u := by omega
                have huhi : u ≤ 9223372036854775807 := by have := val_lt _ HX8.out; simp at this; omega
                have HU := Lib.hid hu
                clear hu
                have HSR := Lib.hid (HALL.out u (by rw [H8.out]; exact HU.out))
                have hat : ∀ (W : World) (cap : Nat), (Instr.arrayAt 78 (.slice (some ⟨b, off + (k + 2), none⟩) (l.length - (k + 2)) cap)).run Try.prog W = .ok (.pointer (some ⟨b, off + (k + 2), none⟩)) W := fun W cap => run_arrayAt (P := Try.prog) W 78 5 8 _ (l.length - (k + 2)) cap Try.underlying78 (by omega)
                have hcap1 : ¬ ((c : Int) = (k : Int) + 2) := by omega
                have hcap2 : ¬ (c = k + 2) := by omega
                have i3 : (k : Int) + 2 ≤ (k : Int) + 10 := by omega
                clear hl'
                go_wp2_with fail
                refine (unbig_u z0 z1 z2 z3 z4 z5 z6 z7 u _ HX8 HU).mono ?_
                rintro e w1 ⟨rfl, o1, rfl⟩
                have HB1 : Hid (Below w.heap.size w (wr.alloc o1)) := HB.out.alloc HB.out.size _
                have HO1 : Hid (OB (wr.alloc o1) w.heap.size u5 pre) := HO.out.alloc _
                clear t0 t1 t2 t3 t4 t5 t6 t7 hat
                by_cases hmin : u = minI
                · subst hmin
                  have HBAD : Hid (splitR l = badS) := by rw [HSR.out]; rfl
                  unfold minI
                  go_wp2_with fail
                  refine (isTime_any _ _).mono ?_
                  rw [time_min]
                  rintro e w1 ⟨rfl, rfl⟩
                  have HBEL := HB1
                  go_wp2
                  go_step3
                  exact ⟨rfl, _, _, _, _, _, _, _, _, _, _, _, _, _, _, _, _, _, _, _, _, _, _, _, _, _, _, _, _, _, _, _, _, _, _, _, _, _, _, _, _, _, _, _, _, _, _, _, _, _, _, _, _, _, _, _, _, _, _, _, _, _, _, _, _, _, rfl, HBAD, HBEL⟩
                · have hulo2 : -9223372036854775807 ≤ u := by unfold minI at hmin; omega
                  clear hmin
                  go_wp2_with fail
                  refine (isTime_any _ _).mono ?_
                  cases ht : timeB (-u) with
                  | false =>
                    have HBAD : Hid (splitR l = badS) := by rw [HSR.out, ht]; rfl
                    clear ht
                    rintro e w1 ⟨rfl, rfl⟩
                    have HBEL := HB1
                    go_wp2
                    go_step3
                    exact ⟨rfl, _, _, _, _, _, _, _, _, _, _, _, _, _, _, _, _, _, _, _, _, _, _, _, _, _, _, _, _, _, _, _, _, _, _, _, _, _, _, _, _, _, _, _, _, _, _, _, _, _, _, _, _, _, _, _, _, _, _, _, _, _, _, _, _, _, rfl, HBAD, HBEL⟩
                  | true =>
                    have HOK : Hid (splitR l = (pre, -u, 0)) := by rw [HSR.out, ht]; rfl
                    clear ht
                    rintro e w1 ⟨rfl, rfl⟩
                    go_wp2
                    simp only [Exit.jump]
                    go_ret3
                    exact ⟨_, by rw [HOK.out]; rfl, by rw [HOK.out]; exact HO1.out, HB1.out⟩
              · have hl' := hl.out
                have HBAD : Hid (splitR l = badS) := splitR_end hl' (fun hh => hy0c (by have := HY0.out; omega))
                have hyz : ((y : Int) != 0) = true := by simp; omega
                have HBEL := HB
                clear hl' hy0c
                go_wp2
                go_step3
                exact ⟨rfl, _, _, _, _, _, _, _, _, _, _, _, _, _, _, _, _, _, _, _, _, _, _, _, _, _, _, _, _, _, _, _, _, _, _, _, _, _, _, _, _, _, _, _, _, _, _, _, _, _, _, _, _, _, _, _, _, _, _, _, _, _, _, _, _, _, rfl, HBAD, HBEL⟩
            · have HBAD : Hid (splitR l = badS) := S3.out (by omega) HZ.out HY.out
              have hib : ((k : Int) != (n : Int) + 10 - 2 - 8) = true := by simp; omega
              have HBEL := HB
              clear hkn2
              go_wp2
              go_step3
              exact ⟨rfl, _, _, _, _, _, _, _, _, _, _, _, _, _, _, _, _, _, _, _, _, _, _, _, _, _, _, _, _, _, _, _, _, _, _, _, _, _, _, _, _, _, _, _, _, _, _, _, _, _, _, _, _, _, _, _, _, _, _, _, _, _, _, _, _, _, rfl, HBAD, HBEL⟩
        · have HZ : Hid (¬ x = 0) := (by omega : ¬ x = 0)
          have hzb : ((x : Int) != 0) = true := by simp; omega
          clear hz
          go_wp2_with (at_builtin; go_must (refine wpList_app1 (w0 := w) rfl (.tmp 23) (.tmp 28) rfl w.heap.size _ _ rfl HO.out HB.out (Nat.le_refl _) _ x rfl hx2 rfl (by omega) ?_); intro v' w1 ho1 hb1 _; have HO1 := Lib.hid ho1; have HB1 := Lib.hid hb1; clear ho1 hb1)
          go_roundw
          case rel => exact ⟨k + 1, pre ++ [x], by omega, by go_num, HO1, by show _ ≤ _; have := HPL.out; simp; omega, S1.out HZ.out, HB1⟩
          case measure => simp [intOf]; omega
      · have d1 : decide ((k : Int) ≤ (n : Int) + 10 - 2 - 8) = false := decide_eq_false (by omega)
        have HBAD : Hid (splitR l = badS) := HS.out.2 (by omega)
        have hib : ((k : Int) != (n : Int) + 10 - 2 - 8) = true := by simp; omega
        have HBEL := HB
        go_wp2
        go_step3
        exact ⟨rfl, _, _, _, _, _, _, _, _, _, _, _, _, _, _, _, _, _, _, _, _, _, _, _, _, _, _, _, _, _, _, _, _, _, _, _, _, _, _, _, _, _, _, _, _, _, _, _, _, _, _, _, _, _, _, _, _, _, _, _, _, _, _, _, _, _, rfl, HBAD, HBEL⟩
  · rintro a' w' ⟨u0, u1, u2, u3, u4, u5, u6, u7, u8, u9, u10, u11, u12, u13, u14, u15, u16, u17, u18, u19, u20, u21, u22, u23, u24, u25, u26, u27, u28, u29, u30, u31, u32, u33, u34, u35, u36, u37, u38, u39, u40, u41, u42, u43, u44, u45, u46, u47, u48, u49, u50, u51, u52, u53, u54, u55, u56, u57, u58, u59, u60, u61, u62, u63, u64, rfl, HBAD, HBEL⟩
    go_wp2
    simp only [Exit.jump]
    go_ret3
    exact ⟨_, by rw [HBAD.out]; rfl, by rw [HBAD.out]; exact OB.nil _ _, HBEL.out⟩
end Go.Proofs.Ytbmjiheclagfiaa
