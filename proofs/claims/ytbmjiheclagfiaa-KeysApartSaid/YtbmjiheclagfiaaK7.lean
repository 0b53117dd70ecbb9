/-
  The walks of keys.Version and of the reference's Version.
-/
import Derived.Test.YtbmjiheclagfiaaK4
import Derived.Test.YtbmjiheclagfiaaC2
namespace Go.Proofs.Ytbmjiheclagfiaa
open Go.RowKit
set_option linter.unusedVariables false

/-- A key's bytes, each nought followed by ff. -/
def esc : List Nat → List Nat
  | [] => []
  | x :: r => if x = 0 then 0 :: 255 :: esc r else x :: esc r
theorem esc_snoc (l : List Nat) (x : Nat) : esc (l ++ [x]) = esc l ++ (if x = 0 then [0, 255] else [x]) := by
  induction l with
  | nil => simp [esc]
  | cons a l ih =>
    rw [List.cons_append, esc, esc, ih]
    split <;> rfl
theorem esc_le (l : List Nat) : (esc l).length ≤ 2 * l.length := by
  induction l with
  | nil => simp [esc]
  | cons a l ih =>
    rw [esc]
    split <;> simp <;> omega
def versL (key : List Nat) (t : Int) : List Nat := esc key ++ [0, 0] ++ bigL (place (-t))
def versR (key : List Nat) (t : Int) : List Nat × Nat := if timeB t then (versL key t, 0) else ([], 1)
theorem versR_yes {key : List Nat} {t : Int} (h : timeB t = true) : versR key t = (versL key t, 0) := by unfold versR; rw [if_pos h]
theorem versR_no {key : List Nat} {t : Int} (h : timeB t = false) : versR key t = ([], 1) := by unfold versR; rw [h]; rfl
theorem take_snoc (l : List Nat) (k : Nat) (h : k < l.length) : l.take (k + 1) = l.take k ++ [l[k]] := List.take_succ_eq_append_getElem h

set_option maxHeartbeats 4000000 in
theorem version_any (v : Value) (l : List Nat) (t : Int) (w : World) (hv : RB w w.heap.size v l) (hl : l.length ≤ 35184372088832) :
    Calls Try.prog 23 #[v, .int .i64 t] w (Bytes2 w.heap.size w (versR l t)) := by
  have HV := Lib.hid hv
  obtain ⟨A, c, rfl, ha1, ha2, ha3, HA⟩ := hv.open_
  clear hv
  cases ht : timeB t with
  | false =>
    have HR := Lib.hid (versR_no (key := l) ht)
    have HT := Lib.hid ht
    clear ht
    go_enter Try.func23, Try.ntmps23
    go_wp2_with fail
    refine (isTime_any t _).mono ?_
    rw [HT.out]
    rintro r w1 ⟨rfl, rfl⟩
    go_wp2
    go_ret2
    refine ⟨.slice none 0 0, by rw [HR.out]; rfl, by rw [HR.out]; exact OB.nil _ _, by go_grown⟩
  | true =>
    have HR := Lib.hid (versR_yes (key := l) ht)
    obtain ⟨t1, t2⟩ := inB_iff.1 ht
    have HT := Lib.hid ht
    clear ht
    have hmk : ∀ W, (Instr.makeSlice 22 (.int .i64 0) (.int .i64 ((l.length : Int) + 2 + 8))).run Try.prog W = .ok (.slice (some ⟨W.heap.size, 0, none⟩) 0 (l.length + 10)) (W.alloc (.cells (madeCells #[.int .u8 0] (l.length + 10)) 5)) := by
      intro W
      have := run_mk (l.length + 10) (by omega) W
      rw [← this]
      congr 3
    go_enter Try.func23, Try.ntmps23
    go_wp2_with fail
    refine (isTime_any t _).mono ?_
    rw [HT.out]
    rintro r w1 ⟨rfl, rfl⟩
    go_wp2_with fail
    go_loopw [6, 20] (fun v i wr => ∃ k : Nat, k ≤ l.length ∧ i = .int .i64 k ∧ Hid (OB wr w.heap.size v (esc (l.take k))) ∧ Hid (Below w.heap.size w wr)) (fun v i wr => l.length - (intOf i).toNat)
    case atStart => exact ⟨0, Nat.zero_le _, rfl, OB.made w w.heap.size _ _ (Nat.le_refl _) (by omega) (by simp [madeCells]), (Below.refl _ _).alloc (Nat.le_refl _) _⟩
    case round =>
      obtain ⟨k, hk, rfl, HO, HB⟩ := hrel
      by_cases hlt : k < l.length
      · obtain ⟨b1, o1, rfl, hb1, hx, hx2⟩ := HA.out k hlt
        have hx' := (HB.out.cell (p := ⟨b1, o1 + k, none⟩) hb1).trans hx
        have hs := esc_snoc (l.take k) l[k]
        rw [← take_snoc l k hlt] at hs
        have hle := esc_le (l.take k)
        have hle2 : (l.take k).length ≤ k := List.length_take_le _ _
        have hle3 : (esc (l.take k)).length ≤ 70368744177664 := by omega
        clear hle hle2
        obtain ⟨x, hx0⟩ : ∃ x, x = l[k] := ⟨_, rfl⟩
        rw [← hx0] at hx' hx2 hs
        have HS := Lib.hid hs
        clear hs hx0 hx
        generalize esc (l.take k) = pre at HO HS hle3
        rcases Nat.eq_zero_or_pos x with hz | hz
        · have HZ := Lib.hid hz
          have hzb : ((x : Int) == 0) = true := by simp; omega
          clear hz
          go_wp2_with (first
            | (at_builtin; refine wpList_app1 (w0 := w) rfl (.tmp 24) (.tmp 26) rfl w.heap.size _ _ rfl HO.out HB.out (Nat.le_refl _) _ x rfl hx2 rfl (by omega) ?_; intro v' w1 ho1 hb1 _; have HO1 := Lib.hid ho1; have HB1 := Lib.hid hb1; clear ho1 hb1)
            | (at_builtin; go_must (refine wpList_app1 (w0 := w) rfl (.tmp 30) (.tmp 31) rfl w.heap.size _ _ rfl HO1.out HB1.out (Nat.le_refl _) _ 255 rfl (by omega) rfl (by simp; omega) ?_); intro v' w2 ho2 hb2 _; have HO2 := Lib.hid ho2; have HB2 := Lib.hid hb2; clear ho2 hb2))
          go_roundw
          case rel => exact ⟨k + 1, by omega, by go_num, by rw [HS.out, if_pos HZ.out]; have := HO2.out; rw [HZ.out, List.append_assoc] at this; exact this, HB2⟩
          case measure => simp [intOf]; omega
        · have HZ : Hid (¬ x = 0) := (by omega : ¬ x = 0)
          have hzb : ((x : Int) == 0) = false := by simp; omega
          clear hz
          go_wp2_with (at_builtin; refine wpList_app1 (w0 := w) rfl (.tmp 24) (.tmp 26) rfl w.heap.size _ _ rfl HO.out HB.out (Nat.le_refl _) _ x rfl hx2 rfl (by omega) ?_; intro v' w1 ho1 hb1 _; have HO1 := Lib.hid ho1; have HB1 := Lib.hid hb1; clear ho1 hb1)
          go_roundw
          case rel => exact ⟨k + 1, by omega, by go_num, by rw [HS.out, if_neg HZ.out]; exact HO1, HB1⟩
          case measure => simp [intOf]; omega
      · obtain rfl : k = l.length := by omega
        rw [List.take_length] at HO
        have hle := esc_le l
        have hle3 : (esc l).length ≤ 70368744177664 := by omega
        clear hle
        go_wp2_with (first
          | (at_builtin; refine wpList_app rfl (.tmp 34) (.tmp 35) rfl w.heap.size _ (esc l) rfl (HO.out.alloc _) _ _ [0, 0] rfl (by exact RB.lit _ _ _ _ [0, 0] 2 _ rfl (by simp [bcell]) (by simp) (by simp) (by simp)) (by have := HB.out.size; simp; omega) (by simp; omega) ?_; intro v' w1 ho1 hg1 _; have HO1 := Lib.hid ho1; have HG1 := Lib.hid hg1; clear ho1 hg1)
          | fail)
        have HB1 : Hid (Below w.heap.size w w1) := (HB.out.alloc HB.out.size _).grown HG1.out (by have := HB.out.size; simp; omega) (fun k hk => (HO.out.lt k hk).1)
        obtain ⟨q, hq⟩ : ∃ q, place (-t) = q := ⟨_, rfl⟩
        have HQ := Lib.hid hq
        have hqlt : q < 18446744073709551616 := by rw [← hq]; unfold place; omega
        clear hq
        refine (big_any (-t) w1 (by omega) (by omega) q HQ).mono ?_
        rintro r w2 ⟨rfl, o, rfl⟩
        go_wp2_with (at_builtin; go_must (refine wpList_app rfl (.tmp 40) (.tmp 41) rfl w.heap.size _ (esc l ++ [0, 0]) rfl ((HO1.out.alloc _).alloc _) _ _ (bigL q) rfl (by exact RB.lit _ _ _ _ (bigL q) 8 _ (by simp) (by simp [bcell, bigL]) (bigL_lt q) (by simp [bigL]) (by simp [bigL])) (by have := HB1.out.size; simp; omega) (by simp [bigL]; omega) ?_); intro v' w3 ho3 hg3 _; have HO3 := Lib.hid ho3; have HG3 := Lib.hid hg3; clear ho3 hg3)
        go_ret2
        refine ⟨_, by rw [HR.out]; rfl, by rw [HR.out]; unfold versL; rw [HQ.out]; exact HO3.out, ?_⟩
        refine Below.grown (row := _) ?_ HG3.out (by have := HB1.out.size; simp; omega) (fun k hk => (HO1.out.lt k hk).1)
        exact (HB1.out.alloc HB1.out.size _).alloc (by have := HB1.out.size; simp; omega) _

set_option maxHeartbeats 4000000 in
theorem rversion_any (v : Value) (l : List Nat) (t : Int) (w : World) (hv : RB w w.heap.size v l) (hl : l.length ≤ 35184372088832) :
    Calls Try.prog 24 #[v, .int .i64 t] w (Bytes2 w.heap.size w (versR l t)) := by
  have HV := Lib.hid hv
  obtain ⟨A, c, rfl, ha1, ha2, ha3, HA⟩ := hv.open_
  clear hv
  cases ht : timeB t with
  | false =>
    have HR := Lib.hid (versR_no (key := l) ht)
    have hb : ¬ (0 ≤ t ∧ t ≤ 1099511627776) := fun h => by rw [show timeB t = true from inB_yes h.1 h.2] at ht; cases ht
    clear ht
    by_cases h1 : t < 0
    · clear hb
      go_enter Try.func24, Try.ntmps24
      go_wp2
      go_ret2
      refine ⟨.slice none 0 0, by rw [HR.out]; rfl, by rw [HR.out]; exact OB.nil _ _, by go_grown⟩
    · have d1 : decide (t < 0) = false := decide_eq_false h1
      have h2 : 1099511627776 < t := by omega
      clear hb
      go_enter Try.func24, Try.ntmps24
      go_wp2
      go_ret2
      refine ⟨.slice none 0 0, by rw [HR.out]; rfl, by rw [HR.out]; exact OB.nil _ _, by go_grown⟩
  | true =>
    have HR := Lib.hid (versR_yes (key := l) ht)
    obtain ⟨t1, t2⟩ := inB_iff.1 ht
    have d1 : decide (t < 0) = false := decide_eq_false (by omega)
    have d2 : decide (1099511627776 < t) = false := decide_eq_false (by omega)
    clear ht
    go_enter Try.func24, Try.ntmps24
    go_wp2_with fail
    go_loopw [6, 7] (fun v i wr => ∃ k : Nat, k ≤ l.length ∧ i = .int .i64 k ∧ Hid (OB wr w.heap.size v (esc (l.take k))) ∧ Hid (Below w.heap.size w wr)) (fun v i wr => l.length - (intOf i).toNat)
    case atStart => exact ⟨0, Nat.zero_le _, rfl, OB.made w w.heap.size _ _ (Nat.le_refl _) (by omega) rfl, (Below.refl _ _).alloc (Nat.le_refl _) _⟩
    case round =>
      obtain ⟨k, hk, rfl, HO, HB⟩ := hrel
      by_cases hlt : k < l.length
      · obtain ⟨b1, o1, rfl, hb1, hx, hx2⟩ := HA.out k hlt
        have hx' := (HB.out.cell (p := ⟨b1, o1 + k, none⟩) hb1).trans hx
        have hs := esc_snoc (l.take k) l[k]
        rw [← take_snoc l k hlt] at hs
        have hle := esc_le (l.take k)
        have hle2 : (l.take k).length ≤ k := List.length_take_le _ _
        have hle3 : (esc (l.take k)).length ≤ 70368744177664 := by omega
        clear hle hle2
        obtain ⟨x, hx0⟩ : ∃ x, x = l[k] := ⟨_, rfl⟩
        rw [← hx0] at hx' hx2 hs
        have HS := Lib.hid hs
        have HX0 : Hid (w.cell? ⟨b1, o1 + k, none⟩ = some (.int .u8 (x : Int))) := by rw [hx0]; exact hx
        clear hs hx0 hx
        generalize esc (l.take k) = pre at HO HS hle3
        rcases Nat.eq_zero_or_pos x with hz | hz
        · have HZ := Lib.hid hz
          have hzb : ((x : Int) == 0) = true := by simp; omega
          clear hz
          go_wp2_with (first
            | (at_builtin; refine wpList_app1 (w0 := w) rfl (.tmp 21) (.tmp 26) rfl w.heap.size _ _ rfl HO.out HB.out (Nat.le_refl _) _ x rfl hx2 rfl (by omega) ?_; intro v' w1 ho1 hb1' _; have HO1 := Lib.hid ho1; have HB1 := Lib.hid hb1'; have hx1 := (HB1.out.cell (p := ⟨b1, o1 + k, none⟩) hb1).trans HX0.out; clear ho1 hb1')
            | (at_builtin; go_must (refine wpList_app1 (w0 := w) rfl (.tmp 33) (.tmp 34) rfl w.heap.size _ _ rfl HO1.out HB1.out (Nat.le_refl _) _ 255 rfl (by omega) rfl (by simp; omega) ?_); intro v' w2 ho2 hb2 _; have HO2 := Lib.hid ho2; have HB2 := Lib.hid hb2; clear ho2 hb2))
          go_roundw
          case rel => exact ⟨k + 1, by omega, by go_num, by rw [HS.out, if_pos HZ.out]; have := HO2.out; rw [HZ.out, List.append_assoc] at this; exact this, HB2⟩
          case measure => simp [intOf]; omega
        · have HZ : Hid (¬ x = 0) := (by omega : ¬ x = 0)
          have hzb : ((x : Int) == 0) = false := by simp; omega
          clear hz
          go_wp2_with (at_builtin; refine wpList_app1 (w0 := w) rfl (.tmp 21) (.tmp 26) rfl w.heap.size _ _ rfl HO.out HB.out (Nat.le_refl _) _ x rfl hx2 rfl (by omega) ?_; intro v' w1 ho1 hb1' _; have HO1 := Lib.hid ho1; have HB1 := Lib.hid hb1'; have hx1 := (HB1.out.cell (p := ⟨b1, o1 + k, none⟩) hb1).trans HX0.out; clear ho1 hb1')
          go_roundw
          case rel => exact ⟨k + 1, by omega, by go_num, by rw [HS.out, if_neg HZ.out]; exact HO1, HB1⟩
          case measure => simp [intOf]; omega
      · obtain rfl : k = l.length := by omega
        rw [List.take_length] at HO
        have hle := esc_le l
        have hle3 : (esc l).length ≤ 70368744177664 := by omega
        clear hle
        go_wp2_with (first
          | (at_builtin; refine wpList_app1 (w0 := w) rfl (.tmp 36) (.tmp 37) rfl w.heap.size _ _ rfl HO.out HB.out (Nat.le_refl _) _ 0 rfl (by omega) rfl (by omega) ?_; intro v' w1 ho1 hb1 _; have HO1 := Lib.hid ho1; have HB1 := Lib.hid hb1; clear ho1 hb1)
          | (at_builtin; go_must (refine wpList_app1 (w0 := w) rfl (.tmp 39) (.tmp 40) rfl w.heap.size _ _ rfl HO1.out HB1.out (Nat.le_refl _) _ 0 rfl (by omega) rfl (by simp; omega) ?_); intro v' w2 ho2 hb2 _; have HO2 := Lib.hid ho2; have HB2 := Lib.hid hb2; clear ho2 hb2))
        obtain ⟨q, hq⟩ : ∃ q, place (-t) = q := ⟨_, rfl⟩
        have HQ := Lib.hid hq
        clear hq
        refine (rbig_any (-t) w2 (by omega) (by omega) q HQ).mono ?_
        rintro r w3 ⟨v3, rfl, ho3, hb3⟩
        have HO3 := Lib.hid (RBn (HO2.out.rb (Nat.le_refl _)) hb3)
        have HP3 := Lib.hid (ho3.rb (Nat.le_refl _))
        have HB3 := Lib.hid (HB2.out.trans (hb3.mono HB2.out.size))
        clear ho3 hb3
        go_wp2_with fail
        refine (cat_any _ _ _ _ w3 HO3.out HP3.out (by simp [bigL]; omega)).mono ?_
        rintro r w4 ⟨v4, rfl, ho4, hb4⟩
        have HO4 := Lib.hid ho4
        have HB4 := Lib.hid (HB3.out.trans (hb4.mono HB3.out.size))
        clear ho4 hb4
        go_wp2
        go_ret2
        refine ⟨_, by rw [HR.out]; rfl, ?_, HB4.out⟩
        rw [HR.out]
        unfold versL
        rw [HQ.out]
        have := HO4.out.base HB3.out.size
        simpa using this
end Go.Proofs.Ytbmjiheclagfiaa
