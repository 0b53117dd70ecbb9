/-
  The walk of WalBack.
-/
import Derived.Test.YtplkdcegfpiofaaZV36h
import Derived.Test.YtplkdcegfpiofaaYV291
namespace Go.Proofs.Ytplkdcegfpiofaa
open Go.RowKit Go.Maps Go.Shelf
set_option linter.unusedVariables false

/-- What holds between two appends. -/
def BackR (w wr : World) (p sb mb g : Nat) (s : DS) (At : Option Addr) (nt ct count : Nat) : Prop :=
  ∃ B m sv bv ts rs last, CrashAt w wr p sb mb g B none s m sv bv (.slice none 0 0) (.slice At nt ct) [] ts rs false last 0 count ∧ Good s m rs ∧ m.fresh = true ∧ nt = ts.length
theorem RK.one_at {α : Type} {enc : α → List Value} {k : Nat} {w : World} {B b n c : Nat} {xs : List α} (h : RK enc k w B (.slice (some ⟨b, 0, none⟩) n c) xs) (i : Nat) (hi : i < xs.length) : RK enc k w B (.slice (some ⟨b, i * k, none⟩) 1 (c - i)) [xs[i]] := by
  obtain ⟨h1, A, c', e, h3, h4, h5⟩ := h
  injection e with e1 e2 e3
  subst e1 e3
  have hk : 1 * k ≤ xs.length * k := Nat.mul_le_mul_right _ (by omega)
  refine ⟨by simp only [List.length_singleton]; omega, _, _, rfl, by simp only [List.length_singleton]; omega, by omega, .inr ?_⟩
  rcases h5 with h5 | ⟨b', off, e4, hb, hc⟩
  · rw [h5] at hi; simp at hi
  · injection e4 with e4
    injection e4 with e5 e6
    subst e5 e6
    refine ⟨b, i * k, rfl, hb, fun i' x hx j u hu => ?_⟩
    match i', hx with
    | 0, hx =>
      simp at hx
      subst hx
      have := hc i _ (List.getElem?_eq_getElem hi) j u hu
      rw [Nat.zero_add] at this
      rw [Nat.zero_mul, Nat.add_zero]
      exact this
    | i' + 1, hx => simp at hx
theorem cf_Alike : ∀ (args : Array Value) (w : World), (callFunc 30 args).run Try.prog w = .ok (.enter 30 args) w := enters_of Try.func30 (by kernel_rfl) rfl
/-- What the steps of Back's question leave in their slots. -/
def SBack (gt nt ct i rb : Nat) (y : RecV) (q : Nat) (v : Value) (w : World) : Prop := match q with
  | 0 => v = .bool true
  | 1 => v = .bool false
  | 2 => v = .bool false
  | 3 => v = .agg #[.int .i64 (y.lsn : Int), .int .i64 (y.kind : Int), .slice y.A y.n y.c]
  | 4 => ∃ b, v = .slice (some ⟨b, 0, none⟩) 1 1 ∧ b < w.heap.size ∧ RK encRec 3 w w.heap.size v [y]
  | 5 => v = .slice (some ⟨gt, 0, none⟩) nt ct
  | 6 => v = .int .i64 (i : Int)
  | 7 => v = .int .i64 (i : Int)
  | 8 => v = .int .i64 ((i : Int) + 1)
  | 9 => v = .slice (some ⟨gt, i * 3, none⟩) 1 (ct - i)
  | 10 => v = .bool true
  | 11 => v = .bool false
  | 12 => v = .bool false
  | _ => True
theorem sback_below {gt nt ct i rb : Nat} {y : RecV} (q : Nat) (x : Value) (w w' : World) (h : SBack gt nt ct i rb y q x w) (hb : Below w.heap.size w w') : SBack gt nt ct i rb y q x w' := by
  unfold SBack at h ⊢
  split at h <;> first | exact h | skip
  obtain ⟨b, h1, h2, h3⟩ := h
  exact ⟨b, h1, Nat.lt_of_lt_of_le h2 hb.size, (h3.below hb).more hb.size⟩
theorem room_cast {m : LG} {c : Nat} (h : m.count = c) (hc : c ≤ 9) : m.room ≤ 4482 := by unfold LG.room; rw [h]; omega

set_option maxRecDepth 100000 in
set_option maxHeartbeats 4000000 in
theorem walBack_run (w : World) (count : Nat) (bsv : Value) (bs : List BV) (frm : Int) (fl : Bool) (hc : 1 ≤ count ∧ count ≤ 9) (hB : Bodies w bsv bs) :
    Calls Try.prog 5 #[.int .i64 (count : Int), bsv, .int .i64 frm, .bool fl] w fun e w' => e = .returned (.bool true) ∧ Below w.heap.size w w' := by
  obtain ⟨AB, cB, rfl, hB1, hB2, hB3, HC⟩ := hB.rk.open_
  obtain ⟨N, hN⟩ : ∃ N, N = bs.length := ⟨_, rfl⟩
  have hN1 : N ≤ 6000000000000 := by rw [hN]; exact hB.len
  rw [← hN] at hB1 ⊢
  clear hB3
  have HB := Lib.hid hB
  have HN := Lib.hid hN
  have hc1 : ¬ (count : Int) < 1 := by omega
  have hc2 : ¬ (9 : Int) < (count : Int) := by omega
  have HCC := Lib.hid hc
  obtain ⟨s0, hs0⟩ : ∃ s0, s0 = begS (DS.new 10) 1 count := ⟨_, rfl⟩
  obtain ⟨m0, hm0⟩ : ∃ m0, m0 = begL (DS.new 10) 1 count := ⟨_, rfl⟩
  have hbg : Begun (DS.new 10) 1 count := begun_new 10 1 count (by omega) (by omega) (by omega)
  have HG0 : Hid (Good s0 m0 []) := Lib.hid (by rw [hs0, hm0]; exact hbg.good)
  have HF0 : Hid (m0.first = 1 ∧ m0.count = count ∧ m0.fresh = true ∧ m0.most = 2 ∧ m0.run = 2 ∧ m0.st = []) := Lib.hid (by
    have h2 : m0.most = 2 := by rw [hm0]; show (fmtL (DS.new 10) 1 count).most + 1 = 2; rw [hbg.most]
    have h3 : m0.run = 2 := by rw [hm0]; show (fmtL (DS.new 10) 1 count).most + 1 = 2; rw [hbg.most]
    exact ⟨by rw [hm0]; rfl, by rw [hm0]; rfl, by rw [hm0]; rfl, h2, h3, by rw [hm0]; rfl⟩)
  have HS4 : Hid (s0.steps ≤ 4) := Lib.hid (by have := hbg.steps2; rw [hs0]; exact this)
  have HCL : Hid (Clean s0) := Lib.hid (by rw [hs0]; exact hbg.clean2)
  have HL10 : Hid (s0.safe.length = 10) := Lib.hid (by rw [hs0]; exact hbg.len2.trans (new_len 10 (by omega)))
  have HMD : Hid (∀ W : World, Calls Try.prog 23 #[.int .i64 (count : Int)] W (MadeOut W s0 m0)) := Lib.hid (fun W => by rw [hs0, hm0]; exact made_any W count hc)
  clear hB hN hbg hs0 hm0 hc
  go_enter Try.func5, Try.ntmps5
  go_wp2_with fail
  refine (alive9_any w).mono ?_
  rintro e Wa ⟨rfl, hba⟩
  have HBA := Lib.hid hba
  clear hba
  go_wp2_with fail
  refine (HMD.out Wa).mono ?_
  rintro e W0 ⟨p, sb, mb, g, B, sv, bv, rfl, hw0, hz0, hb0⟩
  have HW0 := Lib.hid hw0
  have HZ : Hid (w.heap.size ≤ p ∧ w.heap.size ≤ sb ∧ w.heap.size ≤ mb ∧ w.heap.size ≤ B) := Lib.hid (by have := HBA.out.size; omega)
  have HB0 : Hid (Below w.heap.size w W0) := Lib.hid (HBA.out.trans (hb0.mono HBA.out.size))
  clear hw0 hz0 hb0
  have hb2 : Below W0.heap.size W0 (W0.alloc (.cells #[] 64)) := (Below.refl _ _).alloc (Nat.le_refl _) _
  have ht2 : OK encRec 3 64 (W0.alloc (.cells #[] 64)) w.heap.size (.slice (some ⟨W0.heap.size, 0, none⟩) 0 0) [] := ⟨by simp, World.ownsRow_made W0 #[] 0 HB0.out.size (by simp) (by simp)⟩
  have HR0 : Hid (BackR w (W0.alloc (.cells #[] 64)) p sb mb g s0 (some ⟨W0.heap.size, 0, none⟩) 0 0 count) := Lib.hid (by
    obtain ⟨f1, f2, f3, f4, f5, f6⟩ := HF0.out
    exact ⟨B, m0, sv, bv, [], [], -1, ⟨HW0.out.below hb2, HZ.out, HB0.out.trans (hb2.mono HB0.out.size), OK.nil _ _, ht2, .inl rfl, by simp, rfl, by omega, by have := HS4.out; omega, f1, f2, HCC.out.2, by omega, HG0.out.recs, Nat.zero_le _, .inl ⟨HG0.out.dead, HG0.out, f3⟩⟩, HG0.out, f3, rfl⟩)
  clear hb2 ht2 HG0 HF0 HMD
  go_wp2_with fail
  go_loopw [50, 11] (fun i al wr => ∃ (k : Nat) (At : Option Addr) (nt ct : Nat), i = .int .i64 (k : Int) ∧ al = .slice At nt ct ∧ k ≤ N ∧ Hid (BackR w wr p sb mb g s0 At nt ct count)) (fun i al wr => N - (intOf i).toNat)
  case atStart => exact ⟨0, _, 0, 0, rfl, rfl, Nat.zero_le _, HR0⟩
  case round =>
    obtain ⟨k, At, nt, ct, rfl, rfl, hk, B1, m, sv1, bv1, ts, rs, last, hcr, hgd0, hfr0, hnt⟩ := hrel
    have HCR := Lib.hid hcr
    have HGD0 := Lib.hid hgd0
    have HFR0 := Lib.hid hfr0
    have HNT := Lib.hid hnt
    clear hcr hgd0 hfr0 hnt
    have hzw := HCR.out.below.size
    by_cases hkN : k < N
    · obtain ⟨b, off, rfl, hblt, hcell⟩ := HC.out k (by rw [← HN.out]; exact hkN)
      obtain ⟨x, hx⟩ : ∃ x, x = bs[k]'(by rw [← HN.out]; exact hkN) := ⟨_, rfl⟩
      rw [← hx] at hcell
      have hrx := (HB.out.at_ x (by rw [hx]; exact List.getElem_mem _)).1
      have hrl := (HB.out.at_ x (by rw [hx]; exact List.getElem_mem _)).2
      obtain ⟨xA, xn, xc, xb⟩ := x
      have hc0 : w.cell? ⟨b, off + k, none⟩ = some (.slice xA xn xc) := by have := hcell 0 _ rfl; simpa [BV.v] using this
      have hcw : wr.cell? ⟨b, off + k, none⟩ = some (.slice xA xn xc) := (HCR.out.below.cell (p := ⟨b, off + k, none⟩) hblt).trans hc0
      have HX0 : Hid (RB w w.heap.size (.slice xA xn xc) xb) := Lib.hid hrx
      have hxn : xn = xb.length := by obtain ⟨_, _, e, _⟩ := hrx.open_; injection e
      have hxl : xb.length ≤ 140737488355328 := hrx.2.1
      rw [hxn] at hcw hc0 HX0
      obtain ⟨xl, hxl0⟩ : ∃ xl, xl = xb.length := ⟨_, rfl⟩
      rw [← hxl0] at hcw hc0 HX0 hxl
      have HXL := Lib.hid hxl0
      have hcnt : Hid (m.count ≤ 1000) := Lib.hid (by rw [HCR.out.cnt]; have := HCR.out.cnt9; omega)
      clear hcell hrx hc0 hx hrl hxn hxl0
      obtain ⟨r, hr⟩ : ∃ r, r = k % 255 := ⟨_, rfl⟩
      have hr1 : (k : Int) % 255 = (r : Int) := by omega
      have hr2 : (k : Int).tmod 255 = (r : Int) := by rw [Int.tmod_eq_emod_of_nonneg (by omega)]; exact hr1
      have hr3 : r ≤ 254 := by omega
      obtain ⟨kd, hkd⟩ : ∃ kd, kd = 1 + r := ⟨_, rfl⟩
      have hon : 1 + (r : Int) = (kd : Int) := by omega
      have HKD : Hid (1 ≤ (kd : Int) ∧ (kd : Int) ≤ 255) := Lib.hid (by omega)
      have hkd2 : kd ≤ 255 := by omega
      clear hr hkd
      obtain ⟨rm, hrm⟩ : ∃ rm, rm = m.room := ⟨_, rfl⟩
      have hrm1 : rm ≤ 4482 := by rw [hrm]; exact room_cast HCR.out.cnt HCC.out.2
      obtain ⟨en, hen⟩ : ∃ en, en = m.lsn m.st.length := ⟨_, rfl⟩
      have hen1 : en ≤ 1000000000000 := by
        have h1 := HCR.out.short
        have h2 := HCR.out.most
        have h3 := HCR.out.wal.lg.ok.run.1
        rw [hen]; unfold LG.lsn; omega
      have HRM := Lib.hid hrm
      have HEN := Lib.hid hen
      clear hrm hen
      go_wp2_with fail
      refine (logRoom_any wr p g B1 sv1 bv1 m HCR.out.wal.lg).mono ?_
      rw [← HRM.out]
      rintro e w1 ⟨rfl, q1, hq1⟩
      have hb1 : Below wr.heap.size wr w1 := by rw [hq1]; exact below_drewN (Below.refl _ _) q1
      have HC1 : Hid (CrashAt w w1 p sb mb g B1 none s0 m sv1 bv1 (.slice none 0 0) (.slice At nt ct) [] ts rs false last 0 count) := Lib.hid (HCR.out.below_ hb1)
      clear hb1 hq1
      go_wp2_with fail
      refine (logEnd_any w1 p g B1 sv1 bv1 m HC1.out.wal.lg).mono ?_
      rw [← HEN.out]
      rintro e w2 ⟨rfl, h2⟩
      subst h2
      have HRX : Hid (RB w2 w2.heap.size (.slice xA xl xc) xb) := Lib.hid ((HX0.out.below HC1.out.below).more HC1.out.below.size)
      go_wp2_with fail
      refine (copy_any _ xb w2 HRX.out).mono ?_
      rintro e w3 ⟨v3, rfl, ho3, hb3⟩
      have HO3 := Lib.hid ho3.rbn
      have HC3 : Hid (CrashAt w w3 p sb mb g B1 none s0 m sv1 bv1 (.slice none 0 0) (.slice At nt ct) [] ts rs false last 0 count) := Lib.hid (HC1.out.below_ hb3)
      have hform3 : ∃ A3 n3 c3, v3 = .slice A3 n3 c3 := by
        obtain ⟨A, c, h, -, -, -, -⟩ := ho3.rbn.open_
        exact ⟨_, _, _, h⟩
      obtain ⟨A3, n3, c3, rfl⟩ := hform3
      clear ho3 hb3
      go_wp2_with fail
      refine (Append_any w3 p sb mb g B1 none s0 sv1 bv1 m HC3.out.wal hcnt.out (kd : Int) _ xb HO3.out).mono ?_
      obtain ⟨ra, hra⟩ : ∃ ra, ra = m.append (kd : Int) xb := ⟨_, rfl⟩
      rw [← hra]
      rintro e w4 ⟨rfl, ⟨sv4, bv4, hw4⟩, hm4⟩
      obtain ⟨m4, a4, e4⟩ := ra
      dsimp only at hw4 ⊢
      have HRA := Lib.hid hra
      have HW4 : Hid (WalAt w4 p sb mb none s0 g B1 sv4 bv4 m4) := Lib.hid hw4
      have HM4 := Lib.hid hm4
      clear hw4 hm4 hra
      by_cases he4 : e4 = 0
      · subst he4
        obtain ⟨kx, hkx, ha4, hm4e, hgd, hfr⟩ := HC3.out.app_yes HRA.out HX0.out.1
        have hkx' : kx = kd := by omega
        subst hkx'
        subst ha4
        rw [← HEN.out]
        have HGD := Lib.hid hgd
        have HME := Lib.hid hm4e
        have HFR := Lib.hid hfr
        obtain ⟨q, hq⟩ : ∃ q, q = (recL kx xb).length := ⟨_, rfl⟩
        have hq2 : 2 ≤ q := by rw [hq]; exact recL_two (kx, xb)
        obtain ⟨rm4, hrm4⟩ : ∃ rm4, rm4 = m4.room := ⟨_, rfl⟩
        obtain ⟨en4, hen4⟩ : ∃ en4, en4 = m4.lsn m4.st.length := ⟨_, rfl⟩
        have hst4 : m4.st.length = m.st.length + q := by rw [hm4e, hq]; simp
        have hcn4 : m4.count = m.count := by rw [hm4e]
        have hok4 := HW4.out.lg.ok.st
        have hrme : rm4 + q = rm := by rw [hrm4, HRM.out]; unfold LG.room; rw [hcn4] at hok4 ⊢; omega
        have hene : en4 = en + q := by rw [hen4, HEN.out]; unfold LG.lsn; rw [hst4, show m4.run = m.run by rw [hm4e]]; omega
        have hq3 : q ≤ 4482 := by omega
        have hx1 : ¬ (rm : Int) ≤ (rm4 : Int) := by omega
        have hx2 : (en4 : Int) - (en : Int) = (q : Int) := by omega
        have hx3 : (rm : Int) - (rm4 : Int) = (q : Int) := by omega
        have hen41 : en4 ≤ 1000000010000 := by omega
        have hrm41 : rm4 ≤ 4482 := by omega
        have HRM4 := Lib.hid hrm4
        have HEN4 := Lib.hid hen4
        have HT4 : Hid (OK encRec 3 64 w4 w.heap.size (.slice At nt ct) ts) := Lib.hid (HC3.out.tr.mod HM4.out (fun b hb => (HC3.out.apartT b hb).2.1))
        have HZ4 : Hid (w.heap.size ≤ w4.heap.size) := Lib.hid (Nat.le_trans HC3.out.below.size HM4.out.size)
        clear hgd hm4e hfr hq hrm4 hen4 hst4 hcn4 hok4 hrme hene hkx
        go_wp2_with fail
        refine (logRoom_any w4 p g B1 sv4 bv4 m4 HW4.out.lg).mono ?_
        rw [← HRM4.out]
        rintro e w5 ⟨rfl, q5, hq5⟩
        have HB5 : Hid (Below w4.heap.size w4 w5) := Lib.hid (by rw [hq5]; exact below_drewN (Below.refl _ _) q5)
        clear hq5
        go_wp2_with fail
        refine (logEnd_any w5 p g B1 sv4 bv4 m4 (HW4.out.lg.below HB5.out)).mono ?_
        rw [← HEN4.out]
        rintro e w6 ⟨rfl, h6⟩
        subst h6
        go_wp2_with fail
        refine (logRoom_any w6 p g B1 sv4 bv4 m4 (HW4.out.lg.below HB5.out)).mono ?_
        rw [← HRM4.out]
        rintro e w7 ⟨rfl, q7, hq7⟩
        have hb7 : Below w4.heap.size w4 w7 := HB5.out.trans ((by rw [hq7]; exact below_drewN (Below.refl _ _) q7 : Below w6.heap.size w6 w7).mono HB5.out.size)
        have HW7 : Hid (WalAt w7 p sb mb none s0 g B1 sv4 bv4 m4) := Lib.hid (HW4.out.below hb7)
        have HM7 : Hid (Mod (OwnL g sv1 bv1) w3 w7) := Lib.hid (HM4.out.trans' (Mod.of_below hb7 _))
        have HT7 : Hid (OK encRec 3 64 w7 w.heap.size (.slice At nt ct) ts) := Lib.hid (HT4.out.below hb7)
        have HZ7 : Hid (w.heap.size ≤ w7.heap.size) := Lib.hid (Nat.le_trans HZ4.out hb7.size)
        clear hq7 hb7
        go_wp2_with (first
          | (at_builtin; refine wpList_appN etR encRec_len encRec_one rfl (.tmp 91) (.tmp 98) rfl rfl (HT7.out.alloc _) (ys := [⟨en, kx, xA, xl, xc, xb⟩]) rfl (RK.one_ encRec_len w7 _ _ _ (by rfl) (by omega)) (by have := HC3.out.lens; simp; omega) (by have := HZ7.out; simp; omega) ?_; intro v8 w8 k1 k2 k3; have hcr' := HC3.out.appendYes HW7.out HM7.out HGD.out HME.out HFR.out (x := ⟨en, kx, xA, xl, xc, xb⟩) (r := (kx, xb)) (by rw [HEN.out]; rfl) HX0.out k1 k2 k3; obtain ⟨A8, c8, hv8, _⟩ := (k1.rk encRec_len (Nat.le_refl _)).open_; obtain ⟨n8, hn8⟩ : ∃ n8, n8 = (ts ++ [(⟨en, kx, xA, xl, xc, xb⟩ : RecV)]).length := ⟨_, rfl⟩; rw [← hn8] at hv8; subst hv8; have HRN : Hid (BackR w w8 p sb mb g s0 A8 n8 c8 count) := Lib.hid ⟨_, _, _, _, _, _, _, hcr', HGD.out, by rw [HME.out]; exact HFR.out, hn8⟩; clear k1 k2 k3 hcr' hn8))
        go_roundw
        case rel => exact ⟨k + 1, A8, n8, c8, by go_num, rfl, by omega, HRN⟩
        case measure => simp [intOf]; omega
      · have hfb : (e4 == 0) = false := by simpa using he4
        have hwhy := append_why (m := m) (kind := (kd : Int)) (body := xb) HGD0.out.dead HFR0.out HKD.out (by rw [← HRA.out]; exact he4)
        rw [← HRA.out] at hwhy
        have hmm : m4 = m := HC3.out.app_no HRA.out he4 HX0.out.1
        subst hmm
        have hcr4 : CrashAt w w4 p sb mb g B1 none s0 m4 sv4 bv4 (.slice none 0 0) (.slice At nt ct) [] ts rs false last 0 count := HC3.out.appendNo HW4.out HM4.out
        have HC4 := Lib.hid hcr4
        have HRN : Hid (∀ q, BackR w (w4.drewN q) p sb mb g s0 At nt ct count) := Lib.hid (fun q => ⟨_, _, _, _, _, _, _, HC4.out.below_ (below_drewN (Below.refl _ _) q), HGD0.out, HFR0.out, HNT.out⟩)
        clear hcr4
        rcases hwhy with ⟨h1, h2⟩ | ⟨h1, h2, h3⟩
        · injection h1 with h0 h1
          injection h1 with h4 h5
          subst h4 h5
          have hxl2 : ¬ (xl : Int) ≤ 1200 := by rw [HXL.out]; omega
          clear h0 h2
          go_wp2_with fail
          refine (logRoom_any w4 p g B1 sv4 bv4 m4 HC4.out.wal.lg).mono ?_
          rw [← HRM.out]
          rintro e w5 ⟨rfl, q5, hq5⟩
          subst hq5
          go_wp2_with fail
          go_roundw
          case rel => exact ⟨k + 1, At, nt, ct, by go_num, rfl, by omega, Lib.hid (HRN.out q5)⟩
          case measure => simp [intOf]; omega
        · injection h1 with h0 h1
          injection h1 with h4 h5
          subst h4 h5
          have hxl2 : ¬ (xl : Int) + 4 < (rm : Int) := by rw [HXL.out, HRM.out]; omega
          have hxl3 : xl ≤ 1200 := by rw [HXL.out]; exact h2
          clear h0 h2 h3
          go_wp2_with fail
          refine (logRoom_any w4 p g B1 sv4 bv4 m4 HC4.out.wal.lg).mono ?_
          rw [← HRM.out]
          rintro e w5 ⟨rfl, q5, hq5⟩
          subst hq5
          go_wp2_with fail
          go_roundw
          case rel => exact ⟨k + 1, At, nt, ct, by go_num, rfl, by omega, Lib.hid (HRN.out q5)⟩
          case measure => simp [intOf]; omega
    · have hbg9 : m.begs.length ≤ 900000 := by
        have h1 := HCR.out.lens
        have h2 := HGD0.out.recs.begs_len
        omega
      have hnt : nt ≤ 2241 := by have := HCR.out.lens; have := HNT.out; omega
      have HBG9 := Lib.hid hbg9
      have HNTR : Hid (nt = rs.length) := Lib.hid (by have := HCR.out.lens; have := HNT.out; simp at *; omega)
      clear hbg9
      go_wp2_with fail
      refine (Records_any wr p g B1 sv1 bv1 m rs frm HCR.out.wal.lg HGD0.out.recs HBG9.out).mono ?_
      rintro e w1 ⟨r, v1, rfl, d1, d2, d3, hr1, hb1⟩
      have HCUT : Hid (m.cutAt frm r) := Lib.hid ⟨d1, d2, d3⟩
      have HC1 : Hid (CrashAt w w1 p sb mb g B1 none s0 m sv1 bv1 (.slice none 0 0) (.slice At nt ct) [] ts rs false last 0 count) := Lib.hid (HCR.out.below_ hb1)
      have hform : ∃ A1 n1 c1, v1 = .slice A1 n1 c1 := by
        obtain ⟨xs, h1, _⟩ := hr1
        obtain ⟨A, c, e, _⟩ := h1.open_
        exact ⟨_, _, _, e⟩
      obtain ⟨A1, n1, c1, rfl⟩ := hform
      have HR1 := Lib.hid hr1
      clear d1 d2 d3 hr1 hb1
      obtain ⟨en, hen⟩ : ∃ en, en = m.lsn m.st.length := ⟨_, rfl⟩
      have HEN := Lib.hid hen
      clear hen
      go_wp2_with fail
      refine (logEnd_any w1 p g B1 sv1 bv1 m HC1.out.wal.lg).mono ?_
      rw [← HEN.out]
      rintro e w2 ⟨rfl, h2⟩
      subst h2
      go_wp2_with fail
      go_loopw [20, 19] (fun i a wq => ∃ (j x : Nat), i = .int .i64 ((j : Int) - 1) ∧ a = .int .i64 (x : Int) ∧ j ≤ nt ∧ Hid (x = m.lsn (strm (rs.take j)).length) ∧ Hid (Below w2.heap.size w2 wq)) (fun i a wq => (intOf i + 1).toNat)
      case atStart => exact ⟨nt, en, by first | rfl | simp, rfl, Nat.le_refl _, Lib.hid (by rw [HEN.out, HNTR.out, List.take_length, HGD0.out.recs.st]), Lib.hid (Below.refl _ _)⟩
      case round =>
        obtain ⟨j, x, rfl, rfl, hj, HX, HBQ⟩ := hrel
        by_cases hj0 : j = 0
        · subst hj0
          have HCQ : Hid (CrashAt w wr p sb mb g B1 none s0 m sv1 bv1 (.slice none 0 0) (.slice At nt ct) [] ts rs false last 0 count) := Lib.hid (HC1.out.below_ HBQ.out)
          have HX0 : Hid (x = m.lsn 0) := Lib.hid (by rw [HX.out]; rfl)
          go_wp2_with fail
          refine (Back_any wr p g B1 sv1 bv1 m rs (x : Int) HCQ.out.wal.lg HGD0.out.recs HBG9.out).mono ?_
          rintro e w3 ⟨⟨r2, hc2, hcase⟩, hb3⟩
          rw [HX0.out] at hc2
          have hr2 := cut_zero HGD0.out.recs hc2
          subst hr2
          rcases hcase with ⟨_, rfl⟩ | ⟨y, h, _⟩
          · have hb4 : Below wr.heap.size wr (w3.alloc (.cells #[.int .i64 0, .int .i64 0, .slice none 0 0] 64)) := hb3.alloc hb3.size _
            have HC4 : Hid (CrashAt w (w3.alloc (.cells #[.int .i64 0, .int .i64 0, .slice none 0 0] 64)) p sb mb g B1 none s0 m sv1 bv1 (.slice none 0 0) (.slice At nt ct) [] ts rs false last 0 count) := Lib.hid (HCQ.out.below_ hb4)
            have HR4 : Hid (RecsAt (w3.alloc (.cells #[.int .i64 0, .int .i64 0, .slice none 0 0] 64)) (.slice A1 n1 c1) ((List.range (m.begs.length - r)).map (fun j => m.tell (r + j)))) := Lib.hid (HR1.out.below (HBQ.out.trans (hb4.mono HBQ.out.size)))
            obtain ⟨W4, hW4⟩ : ∃ W4, W4 = w3.alloc (.cells #[.int .i64 0, .int .i64 0, .slice none 0 0] 64) := ⟨_, rfl⟩
            rw [← hW4] at HC4 HR4
            have HW4 := Lib.hid hW4
            clear hc2 hb3 hb4 hW4
            go_wp2_with fail
            all_goals (
              rw [← HW4.out]
              refine (From_any W4 _ ts frm HC4.out.rowT.1 (by have := HC4.out.lens; omega)).mono ?_
              rintro e w5 ⟨A5, n5, c5, rfl, ho5, hb5⟩
              have HC5 : Hid (CrashAt w w5 p sb mb g B1 none s0 m sv1 bv1 (.slice none 0 0) (.slice At nt ct) [] ts rs false last 0 count) := Lib.hid (HC4.out.below_ hb5)
              have hr5 := HR4.out.below hb5
              obtain ⟨xs, x1, x2, x3⟩ := hr5
              have HXR : Hid (RecRow w5 (.slice A1 n1 c1) xs) := Lib.hid ⟨x1, x2⟩
              have HYR : Hid (RecRow w5 (.slice A5 n5 c5) (ts.filter fun y => decide (frm ≤ (y.lsn : Int)))) := Lib.hid ⟨ho5.rk encRec_len (Nat.le_refl _), fun y hy => HC5.out.rowT.2 y (List.mem_filter.1 hy).1⟩
              have HXY : Hid (xs.map RecV.told = (ts.filter fun y => decide (frm ≤ (y.lsn : Int))).map RecV.told) := Lib.hid (x3.trans (HGD0.out.recs.from_ (by have := HC5.out.told; simpa using this) HCUT.out).symm)
              clear ho5 hb5 x1 x2 x3
              go_wp2_with fail
              refine (alike_yes w5 _ _ xs _ HXR.out HYR.out HXY.out).mono ?_
              rintro e w6 ⟨rfl, hb6⟩
              have HC6 : Hid (CrashAt w w6 p sb mb g B1 none s0 m sv1 bv1 (.slice none 0 0) (.slice At nt ct) [] ts rs false last 0 count) := Lib.hid (HC5.out.below_ hb6)
              clear hb6
              go_wp2_with fail
              refine (Records_all w6 p g B1 sv1 bv1 m rs HC6.out.wal.lg HGD0.out.recs HBG9.out).mono ?_
              rintro e w7 ⟨A7, n7, c7, rfl, hn7, hr7, hb7⟩
              have HC7 : Hid (CrashAt w w7 p sb mb g B1 none s0 m sv1 bv1 (.slice none 0 0) (.slice At nt ct) [] ts rs false last 0 count) := Lib.hid (HC6.out.below_ hb7)
              obtain ⟨zs, z1, z2, z3⟩ := hr7
              have HZR : Hid (RecRow w7 (.slice A7 n7 c7) zs) := Lib.hid ⟨z1, z2⟩
              have HTL : Hid (ts.map RecV.told = toldOf m rs) := Lib.hid (by have := HC7.out.told; simpa using this)
              have HZT : Hid (zs.map RecV.told = ts.map RecV.told) := Lib.hid (z3.trans HTL.out.symm)
              clear hn7 hb7 z1 z2 z3
              go_wp2_with fail
              refine (alike_yes w7 _ _ zs ts HZR.out HC7.out.rowT HZT.out).mono ?_
              rintro e w8 ⟨rfl, hb8⟩
              have HC8 : Hid (CrashAt w w8 p sb mb g B1 none s0 m sv1 bv1 (.slice none 0 0) (.slice At nt ct) [] ts rs false last 0 count) := Lib.hid (HC7.out.below_ hb8)
              clear hb8
              cases fl with
              | false =>
                go_wp2_with fail
                go_ret
                exact ⟨rfl, HC8.out.below⟩
              | true =>
                have hst8 : s0.steps < 1000000000000 := by have := HS4.out; omega
                go_wp2_with fail
                refine (Flush_any w8 p sb mb g B1 none s0 sv1 bv1 m HC8.out.wal (by omega)).mono ?_
                have hfl0 := Clean.flush HGD0.out HCL.out
                obtain ⟨f1, f2, f3, f4, f5⟩ := HGD0.out.flush_ok hfl0
                obtain ⟨rf, hrf⟩ : ∃ rf, rf = m.flush s0 := ⟨_, rfl⟩
                rw [← hrf] at hfl0 f1 f2 f3 f4 f5 ⊢
                clear hrf
                obtain ⟨s9, m9, e9⟩ := rf
                dsimp only at hfl0 f1 f2 f3 f4 f5 ⊢
                subst hfl0
                rintro e w9 ⟨rfl, hw9, hm9⟩
                have HW9 : Hid (WalAt w9 p sb mb none s9 g B1 sv1 bv1 m9) := Lib.hid hw9
                have HB9 : Hid (Below w.heap.size w w9) := Lib.hid (below_by HC8.out.below hm9 (HC8.out.wal.ownW HC8.out.hz))
                have HT9 : Hid (OK encRec 3 64 w9 w.heap.size (.slice At nt ct) ts) := Lib.hid (HC8.out.tr.mod hm9 (fun b hb => (HC8.out.apartT b hb).1))
                have HBD : Hid (∀ x ∈ ts, RB w w.heap.size x.v x.body) := Lib.hid (fun x hx => HC8.out.bodies x (by simpa using hx))
                have HG9 : Hid (Good s9 m9 rs) := Lib.hid f1
                have HL9 : Hid (s9.safe.length = 10) := Lib.hid (f4.trans HL10.out)
                have HM9 : Hid (m9.safe = m9.st.length ∧ m9.first = 1 ∧ m9.count = count ∧ m9.run = m.run) := Lib.hid (by rw [f2]; exact ⟨rfl, HC8.out.first, HC8.out.cnt, rfl⟩)
                obtain ⟨en9, hen9⟩ : ∃ en9, en9 = m9.lsn m9.st.length := ⟨_, rfl⟩
                have HEN9 := Lib.hid hen9
                have HSF9 : Hid (en9 = m9.lsn m9.safe) := Lib.hid (by rw [hen9, HM9.out.1])
                have HHZ : Hid (w.heap.size ≤ p ∧ w.heap.size ≤ sb ∧ w.heap.size ≤ mb ∧ w.heap.size ≤ B1) := Lib.hid HC8.out.hz
                clear hw9 hm9 f1 f2 f3 f4 f5 hen9
                go_wp2_with fail
                refine (logSafe_any w9 p g B1 sv1 bv1 m9 HW9.out.lg).mono ?_
                rw [← HSF9.out]
                rintro e w10 ⟨rfl, h10⟩
                subst h10
                go_wp2_with fail
                refine (logEnd_any w10 p g B1 sv1 bv1 m9 HW9.out.lg).mono ?_
                rw [← HEN9.out]
                rintro e w11 ⟨rfl, h11⟩
                subst h11
                go_wp2_with fail
                refine (On_any w11 p sb mb none s9 (.slice none 0 0) [] HW9.out.dk (RK.nil _ _) (by simp) (.inl rfl)).mono ?_
                rintro e w12 ⟨rfl, hd12, hm12⟩
                have HD12 := Lib.hid hd12
                have HB12 : Hid (Below w.heap.size w w12) := Lib.hid (below_by HB9.out hm12 (fun k hk => HW9.out.ownW HHZ.out k (.inl hk)))
                have HT12 : Hid (OK encRec 3 64 w12 w.heap.size (.slice At nt ct) ts) := Lib.hid (HT9.out.mod hm12 (fun b hb e => (row_apart HW9.out HT9.out (by decide) (by decide) (by decide) (by decide) (by decide) b hb).1 (.inl e)))
                have hre := HG9.out.reopen HM9.out.1 []
                rw [HM9.out.2.1, HM9.out.2.2.1] at hre
                have HRE := Lib.hid hre
                clear hd12 hm12 hre
                go_wp2_with fail
                refine (Open_any w12 p sb mb none (s9.on []) 1 count HD12.out rfl (by rw [len_on, HL9.out]; have := HCC.out; omega) ⟨HCC.out.1, by have := HCC.out; omega⟩ HRE.out.1).mono ?_
                rintro e w13 ⟨g2, sv2, bv2, Ao, no, co, rfl, hno, hw13, hr13, hb13⟩
                have htl : (LG.opened (s9.on []) 1 count).tells = toldOf m rs := HRE.out.2.1.tells.trans (toldOf_run (by rw [HRE.out.2.2.1, HM9.out.2.2.2]))
                rw [htl] at hr13
                obtain ⟨ys, y1, y2, y3⟩ := hr13
                have HYR2 : Hid (RecRow w13 (.slice Ao no co) ys) := Lib.hid ⟨y1, y2⟩
                have HB13 : Hid (Below w.heap.size w w13) := Lib.hid (HB12.out.trans (hb13.mono HB12.out.size))
                have HTR2 : Hid (RecRow w13 (.slice At nt ct) ts) := Lib.hid ⟨(HT12.out.below hb13).rk encRec_len (Nat.le_refl _), fun x hx => ((HBD.out x hx).below HB13.out).more HB13.out.size⟩
                have HYT : Hid (ys.map RecV.told = ts.map RecV.told) := Lib.hid (y3.trans HTL.out.symm)
                clear hno hw13 hb13 htl y1 y2 y3
                go_wp2_with fail
                refine (alike_yes w13 _ _ ys ts HYR2.out HTR2.out HYT.out).mono ?_
                rintro e w14 ⟨rfl, hb14⟩
                have HB14 : Hid (Below w.heap.size w w14) := Lib.hid (HB13.out.trans (hb14.mono HB13.out.size))
                clear hb14
                go_wp2_with fail
                go_ret
                exact ⟨rfl, HB14.out⟩)
          · exact absurd h (by omega)
        · obtain ⟨i, rfl⟩ : ∃ i, j = i + 1 := ⟨j - 1, by omega⟩
          have hi1 : ((i + 1 : Nat) : Int) - 1 = (i : Int) := by omega
          rw [hi1]
          have HIR : Hid (i < rs.length) := Lib.hid (by have := HNTR.out; omega)
          have HITS : Hid (i < ts.length) := Lib.hid (by have := HNT.out; omega)
          have HCQ : Hid (CrashAt w wr p sb mb g B1 none s0 m sv1 bv1 (.slice none 0 0) (.slice At nt ct) [] ts rs false last 0 count) := Lib.hid (HC1.out.below_ HBQ.out)
          have hform : ∃ gt, At = some ⟨gt, 0, none⟩ := by
            rcases HCQ.out.tr.2.2 with ⟨e, hn⟩ | ⟨g5, cap5, cur5, e, _⟩
            · have := HITS.out; rw [hn] at this; omega
            · injection e with e _ _; exact ⟨g5, e⟩
          obtain ⟨gt, rfl⟩ := hform
          have hct : nt ≤ ct := by
            obtain ⟨_, c, e, h2, _⟩ := HCQ.out.rowT.1.open_
            injection e with _ e1 e2
            omega
          go_wp2_with fail
          refine (Back_any wr p g B1 sv1 bv1 m rs (x : Int) HCQ.out.wal.lg HGD0.out.recs HBG9.out).mono ?_
          rintro e w3 ⟨⟨r2, hc2, hcase⟩, hb3⟩
          rw [HX.out] at hc2
          have hr2 := cut_unique HGD0.out.recs HIR.out hc2
          subst hr2
          rcases hcase with ⟨h, _⟩ | ⟨y, _, ht, ho, rfl⟩
          · exact absurd h (by omega)
          · have hti := HGD0.out.recs.told_at (ks := ts) (by have := HCQ.out.told; simpa using this) HITS.out
            have HTY : Hid ([y].map RecV.told = [ts[i]'HITS.out].map RecV.told) := Lib.hid (by rw [List.map_singleton, List.map_singleton, hti.1, ht]; rfl)
            have HYL : Hid (y.lsn = m.lsn (strm (rs.take i)).length) := Lib.hid (by
              have e := congrArg Prod.fst ht
              rw [← HGD0.out.recs.beg i HIR.out]
              exact e)
            have HO3 := Lib.hid ho
            have HC3 : Hid (CrashAt w w3 p sb mb g B1 none s0 m sv1 bv1 (.slice none 0 0) (.slice (some ⟨gt, 0, none⟩) nt ct) [] ts rs false last 0 count) := Lib.hid (HCQ.out.below_ hb3)
            have HB3 : Hid (Below w2.heap.size w2 w3) := Lib.hid (HBQ.out.trans (hb3.mono HBQ.out.size))
            obtain ⟨yl, yk, yA, yn, yc, yb⟩ := y
            unfold encT RecV.v
            clear ht ho hb3 hti hc2
            dsimp only at HYL
            go_wp2_with fail
            obtain ⟨W4, hW4⟩ : ∃ W4, W4 = w3.alloc (.cells #[.int .i64 (yl : Int), .int .i64 (yk : Int), .slice yA yn yc] 64) := ⟨_, rfl⟩
            have hb4 : Below w3.heap.size w3 W4 := by rw [hW4]; exact (Below.refl _ _).alloc (Nat.le_refl _) _
            have b4 : Blk W4 w3.heap.size 64 #[.int .i64 (yl : Int), .int .i64 (yk : Int), .slice yA yn yc] := by rw [hW4]; exact Blk.new _ _ _
            have r0 : W4.cell? ⟨w3.heap.size, 0, none⟩ = some (.int .i64 (yl : Int)) := b4.cell 0
            have r1 : W4.cell? ⟨w3.heap.size, 1, none⟩ = some (.int .i64 (yk : Int)) := b4.cell 1
            have r2 : W4.cell? ⟨w3.heap.size, 2, none⟩ = some (.slice yA yn yc) := b4.cell 2
            have HC4 : Hid (CrashAt w W4 p sb mb g B1 none s0 m sv1 bv1 (.slice none 0 0) (.slice (some ⟨gt, 0, none⟩) nt ct) [] ts rs false last 0 count) := Lib.hid (HC3.out.below_ hb4)
            have HO4 : Hid (RB W4 W4.heap.size (.slice yA yn yc) yb) := Lib.hid (HO3.out.rbn.below hb4 |>.more hb4.size)
            have HB4 : Hid (Below w2.heap.size w2 W4) := Lib.hid (HB3.out.trans (hb4.mono HB3.out.size))
            have HBB4 := Lib.hid b4
            rw [← hW4]
            have HLT4 : Hid (w3.heap.size < W4.heap.size) := Lib.hid b4.lt
            have HRB : Hid (∀ W, Below W4.heap.size W4 W → RecRow W (.slice (some ⟨gt, i * 3, none⟩) 1 (ct - i)) [ts[i]'HITS.out]) := Lib.hid (fun W hW => by
                have h1 := (HC4.out.below_ hW).rowT
                exact ⟨h1.1.one_at i HITS.out, fun x hx => by rw [List.mem_singleton.1 hx]; exact h1.2 _ (List.getElem_mem _)⟩)
            have hni : i < nt := by omega
            clear hW4 hb4 b4
            rename_i K hK
            refine wp_region_slots (SBack gt nt ct i w3.heap.size ⟨yl, yk, yA, yn, yc, yb⟩) (fun _ w7 => Below W4.heap.size W4 w7) (by kernel_rfl) (by kernel_rfl) (by kernel_rfl) ((Below.refl _ _).drew) ?_ ?_
            · intro L a w7 q o' h ho h0 hd
              have hlow : Below W4.heap.size W4 w7 := h.world
              have hz7 := hlow.size
              revert L a w7
              revert q o'
              refine each_array ?_
              refine ⟨?_, ?_, ?_, ?_, ?_, ?_, ?_, ?_, ?_, ?_, ?_, ?_, ?_, trivial⟩ <;> intro L a w7 h h0 hd hlow hz7
              · exact h.val rfl rfl (ro_move w7 (h.still 22 (by kernel_rfl))) hlow rfl
              · exact h.val rfl rfl (ro_not w7 (h.ran 0 _ 147 rfl rfl (hd ⟨0, .data⟩ (by simp) rfl))) hlow rfl
              · exact h.val rfl rfl (ro_move w7 (h.ran 1 _ 148 rfl rfl (hd ⟨1, .data⟩ (by simp) rfl))) hlow rfl
              · exact h.valG rfl (wanted_of rfl rfl rfl (h.ran 2 _ 149 rfl rfl (hd ⟨2, .guard⟩ (by simp) rfl))) (ro_load_rec w7 (h.still 21 (by kernel_rfl)) ((hlow.cell (p := ⟨w3.heap.size, 0, none⟩) HLT4.out).trans r0) ((hlow.cell (p := ⟨w3.heap.size, 1, none⟩) HLT4.out).trans r1) ((hlow.cell (p := ⟨w3.heap.size, 2, none⟩) HLT4.out).trans r2)) hlow rfl
              · refine h.memG rfl (wanted_of rfl rfl rfl (h.ran 2 _ 149 rfl rfl (hd ⟨2, .guard⟩ (by simp) rfl))) (ro_build_rec w7 (h.ran 3 _ 150 rfl rfl (hd ⟨3, .data⟩ (by simp) rfl))) ?_ (hlow.alloc hz7 _) ?_
                · exact fun k u _ hs => sback_below k u w7 _ hs ((Below.refl _ _).alloc (Nat.le_refl _) _)
                · exact ⟨_, rfl, by simp, RK.one_ encRec_len w7 64 _ (⟨yl, yk, yA, yn, yc, yb⟩ : RecV) rfl (by omega) |>.more (by simp)⟩
              · exact h.valG rfl (wanted_of rfl rfl rfl (h.ran 2 _ 149 rfl rfl (hd ⟨2, .guard⟩ (by simp) rfl))) (ro_move w7 (h.still 11 (by kernel_rfl))) hlow rfl
              · exact h.valG rfl (wanted_of rfl rfl rfl (h.ran 2 _ 149 rfl rfl (hd ⟨2, .guard⟩ (by simp) rfl))) (ro_move w7 (h.still 20 (by kernel_rfl))) hlow rfl
              · exact h.valG rfl (wanted_of rfl rfl rfl (h.ran 2 _ 149 rfl rfl (hd ⟨2, .guard⟩ (by simp) rfl))) (ro_move w7 (h.still 20 (by kernel_rfl))) hlow rfl
              · exact h.valG rfl (wanted_of rfl rfl rfl (h.ran 2 _ 149 rfl rfl (hd ⟨2, .guard⟩ (by simp) rfl))) (ro_add1 w7 (by omega) (h.ran 7 _ 154 rfl rfl (hd ⟨7, .data⟩ (by simp) rfl))) hlow rfl
              · exact h.valG rfl (wanted_of rfl rfl rfl (h.ran 2 _ 149 rfl rfl (hd ⟨2, .guard⟩ (by simp) rfl))) (ro_slice_rec w7 (h.ran 5 _ 152 rfl rfl (hd ⟨5, .data⟩ (by simp) rfl)) (h.ran 6 _ 153 rfl rfl (hd ⟨6, .data⟩ (by simp) rfl)) (h.ran 8 _ 155 rfl rfl (hd ⟨8, .data⟩ (by simp) rfl)) hni (by omega) hct) hlow rfl
              · obtain ⟨bq, hbq, hbq2, hrk⟩ := h.ran 4 _ 151 rfl rfl (hd ⟨4, .data⟩ (by simp) rfl)
                refine h.callG rfl (wanted_of rfl rfl rfl (h.ran 2 _ 149 rfl rfl (hd ⟨2, .guard⟩ (by simp) rfl))) (ro_call2 cf_Alike w7 rfl (h.ran 9 _ 156 rfl rfl (hd ⟨9, .data⟩ (by simp) rfl))) ((alike_yes w7 _ _ [⟨yl, yk, yA, yn, yc, yb⟩] [ts[i]'HITS.out] ⟨hrk, fun x hx => by rw [List.mem_singleton.1 hx]; exact (HO4.out.below hlow).more hz7⟩ (HRB.out w7 hlow) HTY.out).mono ?_)
                rintro r w8 ⟨rfl, hb8⟩
                exact ⟨_, rfl, fun k u _ hs => sback_below k u w7 w8 hs hb8, hlow.trans (hb8.mono hz7), rfl⟩
              · exact h.valG rfl (wanted_of rfl rfl rfl (h.ran 2 _ 149 rfl rfl (hd ⟨2, .guard⟩ (by simp) rfl))) (ro_not w7 (h.ran 10 _ 157 rfl rfl (hd ⟨10, .data⟩ (by simp) rfl))) hlow rfl
              · exact h.val rfl rfl (ro_pickT w7 (h.ran 2 _ 149 rfl rfl (hd ⟨2, .data⟩ (by simp) rfl)) (h.ran 11 _ 158 rfl rfl (hd ⟨11, .data⟩ (by simp) rfl))) hlow rfl
            · intro L a w7 hL hdf hsz' hw hother hall
              have h159 : a.tmps.getD 159 undef = .bool false := hall 12 _ 159 rfl rfl
              have HW7 : Hid (Below W4.heap.size W4 w7) := hw
              refine hK _ _ ?_
              obtain ⟨tm, df⟩ := a
              obtain rfl : df = [] := hdf
              have htm := tmps_eq [147, 148, 149, 150, 151, 152, 153, 154, 155, 156, 157, 158, 159] (by kernel_rfl) hsz' hother
              dsimp only at htm h159
              simp only [List.foldl] at htm
              rw [h159] at htm
              generalize tm.getD 147 undef = y147 at htm
              generalize tm.getD 148 undef = y148 at htm
              generalize tm.getD 149 undef = y149 at htm
              generalize tm.getD 150 undef = y150 at htm
              generalize tm.getD 151 undef = y151 at htm
              generalize tm.getD 152 undef = y152 at htm
              generalize tm.getD 153 undef = y153 at htm
              generalize tm.getD 154 undef = y154 at htm
              generalize tm.getD 155 undef = y155 at htm
              generalize tm.getD 156 undef = y156 at htm
              generalize tm.getD 157 undef = y157 at htm
              generalize tm.getD 158 undef = y158 at htm
              clear hother hall hsz' hw h159 hL
              rw [htm]
              clear htm
              simp only [List.setIfInBounds_toArray, List.set_cons_succ, List.set_cons_zero]
              have t0 : w7.cell? ⟨w3.heap.size, 0, none⟩ = some (.int .i64 (yl : Int)) := (HW7.out.cell (p := ⟨w3.heap.size, 0, none⟩) HLT4.out).trans r0
              clear r0 r1 r2
              go_wp2_with fail
              go_roundw
              case rel => exact ⟨i, yl, by go_num, rfl, by omega, HYL, Lib.hid (HB4.out.trans (HW7.out.mono HB4.out.size))⟩
              case measure => simp [intOf]
end Go.Proofs.Ytplkdcegfpiofaa

/-
  The walk of WalBack, at all arguments.
-/
namespace Go.Proofs.Ytplkdcegfpiofaa
open Go.RowKit Go.Maps
set_option linter.unusedVariables false

set_option maxRecDepth 100000 in
set_option maxHeartbeats 1000000 in
theorem walBack_early (w : World) (A : Option Addr) (n c : Nat) (count frm : Int) (fl : Bool) (hbad : count < 1 ∨ 9 < count) :
    Calls Try.prog 5 #[.int .i64 count, .slice A n c, .int .i64 frm, .bool fl] w fun e w' => e = .returned (.bool true) ∧ Below w.heap.size w w' := by
  by_cases h1 : count < 1
  · clear hbad
    go_enter Try.func5, Try.ntmps5
    go_wp2_with fail
    refine (alive9_any w).mono ?_
    rintro e W0 ⟨rfl, hb0⟩
    have HB0 := Lib.hid hb0
    clear hb0
    go_wp2_with fail
    go_ret
    exact ⟨rfl, HB0.out⟩
  · have h2 : 9 < count := by omega
    clear hbad
    go_enter Try.func5, Try.ntmps5
    go_wp2_with fail
    refine (alive9_any w).mono ?_
    rintro e W0 ⟨rfl, hb0⟩
    have HB0 := Lib.hid hb0
    clear hb0
    go_wp2_with fail
    go_ret
    exact ⟨rfl, HB0.out⟩
theorem walBack_walk (w : World) (count : Int) (v : Value) (bs : List BV) (frm : Int) (fl : Bool) (h1 : (Lit.int .i64 count).wf = true) (h : Bodies w v bs) (h2 : (Lit.int .i64 frm).wf = true) :
    Calls Try.prog 5 #[.int .i64 count, v, .int .i64 frm, .bool fl] w fun e w' => e = .returned (.bool true) ∧ Below w.heap.size w w' := by
  by_cases hbad : count < 1 ∨ 9 < count
  · obtain ⟨A, c, e, _⟩ := h.rk.open_
    subst e
    exact walBack_early w A _ c count frm fl hbad
  · obtain ⟨n, rfl⟩ : ∃ n : Nat, count = (n : Int) := ⟨count.toNat, by omega⟩
    exact walBack_run w n v bs frm fl (by omega) h
end Go.Proofs.Ytplkdcegfpiofaa
