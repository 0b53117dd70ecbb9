/-
  The walk of WalDies.
-/
import Derived.Test.YtliimkcainefpaaZV26
namespace Go.Proofs.Ytliimkcainefpaa
open Go.RowKit Go.Maps
set_option linter.unusedVariables false

theorem rf_one (W : World) (t : TypeId) (x y : Int) : RF (W.alloc (.cells #[.int .i64 x, .int .i64 y] t)) (W.alloc (.cells #[.int .i64 x, .int .i64 y] t)).heap.size (.slice (some ⟨W.heap.size, 0, none⟩) 1 1) [(x, y)] := by
  refine ⟨by simp, some ⟨W.heap.size, 0, none⟩, 1, rfl, by simp, by omega, .inr ⟨W.heap.size, 0, rfl, by simp, fun i f hf j u hu => ?_⟩⟩
  match i, hf with
  | 0, hf =>
    simp at hf
    subst hf
    match j, hu with
    | 0, hu => simp [encF] at hu; subst hu; simp
    | 1, hu => simp [encF] at hu; subst hu; simp
    | j + 2, hu => simp [encF] at hu
  | i + 1, hf => simp at hf
theorem WalAt.planned {w w' : World} {p sb mb plb g B : Nat} {pl : Option Nat} {s s' : DS} {sv bv : Value} {m : LG} (h : WalAt w p sb mb pl s g B sv bv m) (hd : DiskAt w' p sb mb (some plb) s') (hm : Mod (fun k => k = p) w w') (hp : w.heap.size ≤ plb) : WalAt w' p sb mb (some plb) s' g B sv bv m := by
  refine ⟨hd, h.lg.mod hm (fun k hk e => ?_), h.sep, fun b hb hk => ?_⟩
  · have := (h.lg.own k hk).1; have := h.sep; omega
  · injection hb with hb
    have := (h.lg.own b hk).2
    omega
theorem DiesAt.below {wr w1 : World} {p sb mb plb g B X k : Nat} {q : Int} {dead : Bool} {s : DS} {m : LG} {sv bv : Value} (h : DiesAt wr p sb mb plb g B X q k dead s m sv bv) (hb : Below wr.heap.size wr w1) : DiesAt w1 p sb mb plb g B X q k dead s m sv bv := ⟨h.1.below hb, h.2⟩

set_option maxRecDepth 100000 in
set_option maxHeartbeats 4000000 in
theorem walDies_run (w : World) (bsv : Value) (bs : List BV) (st : Nat) (q : Int) (hB : Bodies w bsv bs) (hst : 1 ≤ st ∧ st ≤ 1000) (hq : 1 ≤ q ∧ q ≤ 3) :
    Calls Try.prog 7 #[bsv, .int .i64 (st : Int), .int .i64 q] w fun e w' => e = .returned (.bool true) ∧ Below w.heap.size w w' := by
  obtain ⟨AB, cB, rfl, hB1, hB2, hB3, HC⟩ := hB.rk.open_
  obtain ⟨N, hN⟩ : ∃ N, N = bs.length := ⟨_, rfl⟩
  have hN1 : N ≤ 6000000000000 := by rw [hN]; exact hB.len
  rw [← hN] at hB1 ⊢
  clear hB3
  have HB := Lib.hid hB
  have HN := Lib.hid hN
  have hst1 : ¬ (st : Int) < 1 := by omega
  have hst2 : ¬ (1000 : Int) < (st : Int) := by omega
  have hq1 : ¬ q < 1 := by omega
  have hq2 : ¬ (3 : Int) < q := by omega
  have HQ := Lib.hid hq
  obtain ⟨s0, hs0⟩ : ∃ s0, s0 = begS (DS.new 10) 1 6 := ⟨_, rfl⟩
  obtain ⟨m0, hm0⟩ : ∃ m0, m0 = begL (DS.new 10) 1 6 := ⟨_, rfl⟩
  have hbg : Begun (DS.new 10) 1 6 := begun_new 10 1 6 (by omega) (by omega) (by omega)
  have HG0 : Hid (Good s0 m0 []) := Lib.hid (by rw [hs0, hm0]; exact hbg.good)
  have HC0 : Hid (m0.count = 6) := Lib.hid (by rw [hm0]; rfl)
  have hs4 : s0.steps ≤ 4 := by have := hbg.steps2; rw [hs0]; exact this
  obtain ⟨n0, hn0⟩ : ∃ n0, n0 = s0.steps := ⟨_, rfl⟩
  rw [← hn0] at hs4
  have HN0 := Lib.hid hn0
  have HMD : Hid (∀ W : World, Calls Try.prog 25 #[.int .i64 6] W (MadeOut W s0 m0)) := Lib.hid (fun W => by rw [hs0, hm0]; exact made_any W 6 (by omega))
  clear hB hN hbg hs0 hm0 hn0 hq
  go_enter Try.func7, Try.ntmps7
  go_wp2_with fail
  refine (alive9_any w).mono ?_
  rintro e W0 ⟨rfl, hb0⟩
  have HB0 := Lib.hid hb0
  clear hb0
  go_wp2_with fail
  refine (HMD.out W0).mono ?_
  rintro e W1 ⟨p, sb, mb, g, B, sv, bv, rfl, hw1, hz1, hb1⟩
  have HW1 := Lib.hid hw1
  have HZ : Hid (w.heap.size ≤ p ∧ w.heap.size ≤ sb ∧ w.heap.size ≤ mb ∧ w.heap.size ≤ B) := Lib.hid (by have := HB0.out.size; omega)
  have HB1 : Hid (Below w.heap.size w W1) := Lib.hid (HB0.out.trans (hb1.mono HB0.out.size))
  clear hw1 hz1 hb1
  go_wp2_with fail
  refine (Steps_any W1 p sb mb none s0 HW1.out.dk).mono ?_
  rw [← HN0.out]
  rintro e W2 ⟨rfl, hw2⟩
  subst hw2
  go_wp2_with fail
  obtain ⟨X, hX⟩ : ∃ X, X = n0 + st := ⟨_, rfl⟩
  have HX := Lib.hid hX
  have hfl : Hid ([((n0 : Int) + (st : Int), q)] = [((X : Int), q)]) := Lib.hid (by rw [hX]; push_cast; rfl)
  clear hX
  have hwa : Below W1.heap.size W1 (W1.alloc (.cells #[.int .i64 ((n0 : Int) + (st : Int)), .int .i64 q] 83)) := (Below.refl _ _).alloc (Nat.le_refl _) _
  refine (Plan_any _ p sb mb none s0 _ [((n0 : Int) + (st : Int), q)] (HW1.out.dk.below hwa) (rf_one W1 _ _ _) (by intro f hf; simp at hf; subst hf; exact ⟨by dsimp only; omega, by dsimp only; omega⟩) (.inr (fun b hb e => by simp [Value.ownBlock] at hb; have := HW1.out.dk.lt.1; omega)) (by have := HN0.out; omega)).mono ?_
  rw [hfl.out]
  rintro e W2 ⟨rfl, hd2, hm2⟩
  obtain ⟨plb, hplb⟩ : ∃ plb, plb = (W1.alloc (.cells #[.int .i64 ((n0 : Int) + (st : Int)), .int .i64 q] 83)).heap.size := ⟨_, rfl⟩
  rw [← hplb] at hd2
  have HW2 : Hid (WalAt W2 p sb mb (some plb) (s0.planned [((X : Int), q)]) g B sv bv m0) := Lib.hid ((HW1.out.below hwa).planned hd2 hm2 (by rw [hplb]; exact Nat.le_refl _))
  have HB2 : Hid (Below w.heap.size w W2) := Lib.hid (below_by (HB1.out.trans (hwa.mono HB1.out.size)) hm2 (fun k hk => by have := HZ.out; omega))
  have HP2 : Hid (w.heap.size ≤ plb) := Lib.hid (by rw [hplb]; have := HB1.out.size; simp; omega)
  have HD2 : Hid (DiesAt W2 p sb mb plb g B X q 0 false (s0.planned [((X : Int), q)]) m0 sv bv) := Lib.hid ⟨HW2.out, by show s0.steps ≤ _; have := HN0.out; omega, HC0.out, (fun h => by cases h), fun _ => ⟨[], HG0.out.planned _, planned_one (by have := HX.out; have := HN0.out; omega) HQ.out⟩⟩
  clear hwa hd2 hm2 hplb HW2 HB1 HW1 hfl
  go_wp2_with fail
  go_loopw [57, 10] (fun i d wr => ∃ (k : Nat) (dead : Bool) (s : DS) (m : LG) (sv bv : Value), i = .int .i64 k ∧ d = .bool dead ∧ k ≤ N ∧ Hid (DiesAt wr p sb mb plb g B X q k dead s m sv bv) ∧ Hid (Below w.heap.size w wr)) (fun i d wr => N - (intOf i).toNat)
  case atStart => exact ⟨0, false, _, _, _, _, rfl, rfl, Nat.zero_le _, HD2, HB2⟩
  case round =>
    obtain ⟨k, dead, s, m, sv, bv, rfl, rfl, hk, HD, HBW⟩ := hrel
    have hzw := HBW.out.size
    by_cases hkN : k < N
    · obtain ⟨b, off, rfl, hblt, hcell⟩ := HC.out k (by rw [← HN.out]; exact hkN)
      obtain ⟨x, hx⟩ : ∃ x, x = bs[k]'(by rw [← HN.out]; exact hkN) := ⟨_, rfl⟩
      rw [← hx] at hcell
      have hrx := (HB.out.at_ x (by rw [hx]; exact List.getElem_mem _)).1
      obtain ⟨xA, xn, xc, xb⟩ := x
      have hc0 : w.cell? ⟨b, off + k, none⟩ = some (.slice xA xn xc) := by have := hcell 0 _ rfl; simpa [BV.v] using this
      have hcw : wr.cell? ⟨b, off + k, none⟩ = some (.slice xA xn xc) := (HBW.out.cell (p := ⟨b, off + k, none⟩) hblt).trans hc0
      have HRX : Hid (RB wr wr.heap.size (.slice xA xn xc) xb) := Lib.hid ((hrx.below HBW.out).more hzw)
      clear hcell hrx hc0 hx
      obtain ⟨t0, ht0⟩ : ∃ t0, t0 = s.steps := ⟨_, rfl⟩
      have HT0 := Lib.hid ht0
      have hcnt : Hid (m.count ≤ 1000) := Lib.hid (by rw [HD.out.2.2.1]; omega)
      have hsteps : Hid (s.steps ≤ 4 + 8 * k) := Lib.hid HD.out.2.1
      have ht0b : t0 ≤ 4 + 8 * k := by rw [ht0]; exact hsteps.out
      clear ht0
      by_cases h100 : 100 < xn
      · have hform : ∃ b1 o1, xA = some ⟨b1, o1, none⟩ := by
          obtain ⟨A', c', e, _, _, _, hc⟩ := HRX.out.open_
          injection e with e1 e2 e3
          obtain ⟨b1, o1, e4, _⟩ := hc.out 0 (by omega)
          exact ⟨b1, o1, by rw [e1, e4]⟩
        obtain ⟨b1, o1, rfl⟩ := hform
        have hxc : xn ≤ xc ∧ xc ≤ 9223372036854775807 := by
          obtain ⟨A', c', e, h3, h4, _⟩ := HRX.out.open_
          injection e with e1 e2 e3
          omega
        obtain ⟨hxc1, hxc2⟩ := hxc
        obtain ⟨l, HRY⟩ : ∃ l, Hid (RB wr wr.heap.size (.slice (some ⟨b1, o1, none⟩) 100 xc) l) := ⟨_, Lib.hid (HRX.out.cutTo 100 (by omega))⟩
        have h100i : (100 : Int) < (xn : Int) := by omega
        cases dead with
        | true =>
            clear HRX
            go_wp2_with fail
            refine (Steps_any wr p sb mb (some plb) s HD.out.1.dk).mono ?_
            rw [← HT0.out]
            rintro e w1 ⟨rfl, hw1⟩
            subst hw1
            go_wp2_with fail
            refine (copy_any _ l wr HRY.out).mono ?_
            rintro e w2 ⟨v2, rfl, ho2, hb2⟩
            have HO2 := Lib.hid ho2.rbn
            have HW2 : Hid (WalAt w2 p sb mb (some plb) s g B sv bv m) := Lib.hid (HD.out.1.below hb2)
            have HB2 : Hid (Below w.heap.size w w2) := Lib.hid (HBW.out.trans (hb2.mono hzw))
            have hform2 : ∃ A2 n2 c2, v2 = .slice A2 n2 c2 := by
              obtain ⟨A2, c2, h, -, -, -, -⟩ := ho2.rbn.open_
              exact ⟨_, _, _, h⟩
            obtain ⟨A2, n2, c2, rfl⟩ := hform2
            clear ho2 hb2
            go_wp2_with fail
            refine (Append_any w2 p sb mb g B (some plb) s sv bv m HW2.out hcnt.out 1 _ l HO2.out).mono ?_
            rw [dead_append 1 l (HD.out.2.2.2.1 rfl)]
            rintro e w3 ⟨rfl, ⟨sv3, bv3, hw3⟩, hm3⟩
            have HW3 : Hid (WalAt w3 p sb mb (some plb) s g B sv3 bv3 m) := Lib.hid hw3
            have HB3 : Hid (Below w.heap.size w w3) := Lib.hid (below_by HB2.out hm3 (HW2.out.ownL HZ.out.2.2.2))
            clear hw3 hm3
            go_wp2_with fail
            refine (Flush_any w3 p sb mb g B (some plb) s sv3 bv3 m HW3.out (by have := hsteps.out; omega)).mono ?_
            rw [dead_flush s (HD.out.2.2.2.1 rfl)]
            rintro e w4 ⟨rfl, hw4, hm4⟩
            have HW4 : Hid (WalAt w4 p sb mb (some plb) s g B sv3 bv3 m) := Lib.hid hw4
            have HB4 : Hid (Below w.heap.size w w4) := Lib.hid (below_by HB3.out hm4 (HW3.out.ownW HZ.out))
            clear hw4 hm4
            go_wp2_with fail
            refine (Steps_any w4 p sb mb (some plb) s HW4.out.dk).mono ?_
            rw [← HT0.out]
            rintro e w5 ⟨rfl, hw5⟩
            subst hw5
            go_wp2_with fail
            refine (Steps_any w4 p sb mb (some plb) s HW4.out.dk).mono ?_
            rw [← HT0.out]
            rintro e w6 ⟨rfl, hw6⟩
            subst hw6
            go_wp2_with fail
            go_roundw
            case rel => exact ⟨k + 1, true, s, m, sv3, bv3, by go_num, rfl, by omega, Lib.hid ⟨HW4.out, by have := hsteps.out; omega, HD.out.2.2.1, HD.out.2.2.2.1, fun h => by cases h⟩, HB4⟩
            case measure => simp [intOf]; omega
        | false =>
            obtain ⟨rs, hgood, hpl⟩ := HD.out.2.2.2.2 rfl
            have HGD := Lib.hid hgood
            have HPL := Lib.hid hpl
            clear hgood hpl
            clear HRX
            go_wp2_with fail
            refine (Steps_any wr p sb mb (some plb) s HD.out.1.dk).mono ?_
            rw [← HT0.out]
            rintro e w1 ⟨rfl, hw1⟩
            subst hw1
            go_wp2_with fail
            refine (copy_any _ l wr HRY.out).mono ?_
            rintro e w2 ⟨v2, rfl, ho2, hb2⟩
            have HO2 := Lib.hid ho2.rbn
            have HW2 : Hid (WalAt w2 p sb mb (some plb) s g B sv bv m) := Lib.hid (HD.out.1.below hb2)
            have HB2 : Hid (Below w.heap.size w w2) := Lib.hid (HBW.out.trans (hb2.mono hzw))
            have hform2 : ∃ A2 n2 c2, v2 = .slice A2 n2 c2 := by
              obtain ⟨A2, c2, h, -, -, -, -⟩ := ho2.rbn.open_
              exact ⟨_, _, _, h⟩
            obtain ⟨A2, n2, c2, rfl⟩ := hform2
            clear ho2 hb2
            go_wp2_with fail
            refine (Append_any w2 p sb mb g B (some plb) s sv bv m HW2.out hcnt.out 1 _ l HO2.out).mono ?_
            obtain ⟨r, hr⟩ : ∃ r, r = m.append 1 l := ⟨_, rfl⟩
            have hg3 : ∃ rs3, Good s r.1 rs3 := by
              rw [hr]
              rcases HGD.out.append 1 l HRY.out.1 with h | h
              · exact ⟨_, h.2.2.2.2.2.2.2⟩
              · rw [h.2.2]; exact ⟨_, HGD.out⟩
            have hc3 : r.1.count = 6 := by rw [hr, append_count]; exact HD.out.2.2.1
            rw [← hr]
            clear hr
            rintro e w3 ⟨rfl, ⟨sv3, bv3, hw3⟩, hm3⟩
            obtain ⟨m3, a3, e3⟩ := r
            dsimp only at hw3 hg3 hc3 ⊢
            obtain ⟨rs3, hg3⟩ := hg3
            have hdies := dies_flush hg3 hc3 HQ.out HPL.out
            have HW3 : Hid (WalAt w3 p sb mb (some plb) s g B sv3 bv3 m3) := Lib.hid hw3
            have HB3 : Hid (Below w.heap.size w w3) := Lib.hid (below_by HB2.out hm3 (HW2.out.ownL HZ.out.2.2.2))
            have HC3 := Lib.hid hc3
            clear hw3 hm3 hg3 hc3
            go_wp2_with fail
            refine (Flush_any w3 p sb mb g B (some plb) s sv3 bv3 m3 HW3.out (by have := hsteps.out; omega)).mono ?_
            obtain ⟨r4, hr4⟩ : ∃ r4, r4 = m3.flush s := ⟨_, rfl⟩
            rw [← hr4]
            obtain ⟨d1, d2, d3, d4, d5⟩ := hdies
            rw [← hr4] at d1 d2 d3 d4 d5
            clear hr4
            obtain ⟨s4, m4, f4⟩ := r4
            dsimp only at d1 d2 d3 d4 d5 ⊢
            obtain ⟨t4, ht4⟩ : ∃ t4, t4 = s4.steps := ⟨_, rfl⟩
            rw [← ht4, ← HT0.out] at d1
            rw [← ht4] at d2
            have HT4 := Lib.hid ht4
            rw [HX.out] at d1
            have D2 := Lib.hid d2
            have D3 := Lib.hid d3
            have D4 := Lib.hid d4
            have D5 : Hid (m4.count = 6) := Lib.hid (by rw [d5]; exact HC3.out)
            clear d2 d3 d4 d5 ht4
            rintro e w4 ⟨rfl, hw4, hm4⟩
            have HW4 : Hid (WalAt w4 p sb mb (some plb) s4 g B sv3 bv3 m4) := Lib.hid hw4
            have HB4 : Hid (Below w.heap.size w w4) := Lib.hid (below_by HB3.out hm4 (HW3.out.ownW HZ.out))
            have hst4 : Hid (s4.steps ≤ 4 + 8 * (k + 1)) := Lib.hid (by have := D2.out; have := hsteps.out; rw [← HT4.out]; omega)
            clear hw4 hm4
            by_cases hf4 : f4 = 0
            · subst hf4
              have hno : ¬ (t0 < n0 + st ∧ n0 + st ≤ t4) := fun h => d1.2 h rfl
              have HD3 := Lib.hid (D3.out rfl)
              clear d1
              by_cases hbf : t0 < n0 + st
              · have hbi : (t0 : Int) < (n0 : Int) + (st : Int) := by omega
                have hai : ¬ (n0 : Int) + (st : Int) ≤ (t4 : Int) := by omega
                clear hno
                go_wp2_with fail
                refine (Steps_any w4 p sb mb (some plb) s4 HW4.out.dk).mono ?_
                rw [← HT4.out]
                rintro e w5 ⟨rfl, hw5⟩
                subst hw5
                go_wp2_with fail
                refine (Steps_any w4 p sb mb (some plb) s4 HW4.out.dk).mono ?_
                rw [← HT4.out]
                rintro e w6 ⟨rfl, hw6⟩
                subst hw6
                go_wp2_with fail
                refine (Flush_any w4 p sb mb g B (some plb) s4 sv3 bv3 m4 HW4.out (by have := hst4.out; omega)).mono ?_
                rw [HD3.out.2.2]
                rintro e w7 ⟨rfl, hw7, hm7⟩
                have HW7 : Hid (WalAt w7 p sb mb (some plb) s4 g B sv3 bv3 m4) := Lib.hid hw7
                have HB7 : Hid (Below w.heap.size w w7) := Lib.hid (below_by HB4.out hm7 (HW4.out.ownW HZ.out))
                clear hw7 hm7
                go_wp2_with fail
                refine (Steps_any w7 p sb mb (some plb) s4 HW7.out.dk).mono ?_
                rw [← HT4.out]
                rintro e w8 ⟨rfl, hw8⟩
                subst hw8
                go_wp2_with fail
                go_roundw
                case rel => exact ⟨k + 1, false, s4, m4, sv3, bv3, by go_num, rfl, by omega, Lib.hid ⟨HW7.out, hst4.out, D5.out, (fun h => by cases h), fun _ => ⟨_, HD3.out.1, HD3.out.2.1⟩⟩, HB7⟩
                case measure => simp [intOf]; omega
              · have hbi : ¬ (t0 : Int) < (n0 : Int) + (st : Int) := by omega
                clear hno
                go_wp2_with fail
                refine (Steps_any w4 p sb mb (some plb) s4 HW4.out.dk).mono ?_
                rw [← HT4.out]
                rintro e w6 ⟨rfl, hw6⟩
                subst hw6
                go_wp2_with fail
                refine (Flush_any w4 p sb mb g B (some plb) s4 sv3 bv3 m4 HW4.out (by have := hst4.out; omega)).mono ?_
                rw [HD3.out.2.2]
                rintro e w7 ⟨rfl, hw7, hm7⟩
                have HW7 : Hid (WalAt w7 p sb mb (some plb) s4 g B sv3 bv3 m4) := Lib.hid hw7
                have HB7 : Hid (Below w.heap.size w w7) := Lib.hid (below_by HB4.out hm7 (HW4.out.ownW HZ.out))
                clear hw7 hm7
                go_wp2_with fail
                refine (Steps_any w7 p sb mb (some plb) s4 HW7.out.dk).mono ?_
                rw [← HT4.out]
                rintro e w8 ⟨rfl, hw8⟩
                subst hw8
                go_wp2_with fail
                go_roundw
                case rel => exact ⟨k + 1, false, s4, m4, sv3, bv3, by go_num, rfl, by omega, Lib.hid ⟨HW7.out, hst4.out, D5.out, (fun h => by cases h), fun _ => ⟨_, HD3.out.1, HD3.out.2.1⟩⟩, HB7⟩
                case measure => simp [intOf]; omega
            · have hyes := d1.1 hf4
              have hbi : (t0 : Int) < (n0 : Int) + (st : Int) := by omega
              have hai : (n0 : Int) + (st : Int) ≤ (t4 : Int) := by omega
              have HDD := Lib.hid (D4.out hf4)
              have hfb : (f4 != 0) = true := by simpa using hf4
              have hfc : (f4 == 0) = false := by simpa using hf4
              clear d1 hyes
              go_wp2_with fail
              refine (Steps_any w4 p sb mb (some plb) s4 HW4.out.dk).mono ?_
              rw [← HT4.out]
              rintro e w5 ⟨rfl, hw5⟩
              subst hw5
              go_wp2_with fail
              refine (Steps_any w4 p sb mb (some plb) s4 HW4.out.dk).mono ?_
              rw [← HT4.out]
              rintro e w6 ⟨rfl, hw6⟩
              subst hw6
              go_wp2_with fail
              go_roundw
              case rel => exact ⟨k + 1, true, s4, m4, sv3, bv3, by go_num, rfl, by omega, Lib.hid ⟨HW4.out, hst4.out, D5.out, (fun _ => HDD.out), fun h => by cases h⟩, HB4⟩
              case measure => simp [intOf]; omega
      · obtain ⟨l, HRY⟩ : ∃ l, Hid (RB wr wr.heap.size (.slice xA xn xc) l) := ⟨_, HRX⟩
        have h100i : ¬ (100 : Int) < (xn : Int) := by omega
        cases dead with
        | true =>
            clear HRX
            go_wp2_with fail
            refine (Steps_any wr p sb mb (some plb) s HD.out.1.dk).mono ?_
            rw [← HT0.out]
            rintro e w1 ⟨rfl, hw1⟩
            subst hw1
            go_wp2_with fail
            refine (copy_any _ l wr HRY.out).mono ?_
            rintro e w2 ⟨v2, rfl, ho2, hb2⟩
            have HO2 := Lib.hid ho2.rbn
            have HW2 : Hid (WalAt w2 p sb mb (some plb) s g B sv bv m) := Lib.hid (HD.out.1.below hb2)
            have HB2 : Hid (Below w.heap.size w w2) := Lib.hid (HBW.out.trans (hb2.mono hzw))
            have hform2 : ∃ A2 n2 c2, v2 = .slice A2 n2 c2 := by
              obtain ⟨A2, c2, h, -, -, -, -⟩ := ho2.rbn.open_
              exact ⟨_, _, _, h⟩
            obtain ⟨A2, n2, c2, rfl⟩ := hform2
            clear ho2 hb2
            go_wp2_with fail
            refine (Append_any w2 p sb mb g B (some plb) s sv bv m HW2.out hcnt.out 1 _ l HO2.out).mono ?_
            rw [dead_append 1 l (HD.out.2.2.2.1 rfl)]
            rintro e w3 ⟨rfl, ⟨sv3, bv3, hw3⟩, hm3⟩
            have HW3 : Hid (WalAt w3 p sb mb (some plb) s g B sv3 bv3 m) := Lib.hid hw3
            have HB3 : Hid (Below w.heap.size w w3) := Lib.hid (below_by HB2.out hm3 (HW2.out.ownL HZ.out.2.2.2))
            clear hw3 hm3
            go_wp2_with fail
            refine (Flush_any w3 p sb mb g B (some plb) s sv3 bv3 m HW3.out (by have := hsteps.out; omega)).mono ?_
            rw [dead_flush s (HD.out.2.2.2.1 rfl)]
            rintro e w4 ⟨rfl, hw4, hm4⟩
            have HW4 : Hid (WalAt w4 p sb mb (some plb) s g B sv3 bv3 m) := Lib.hid hw4
            have HB4 : Hid (Below w.heap.size w w4) := Lib.hid (below_by HB3.out hm4 (HW3.out.ownW HZ.out))
            clear hw4 hm4
            go_wp2_with fail
            refine (Steps_any w4 p sb mb (some plb) s HW4.out.dk).mono ?_
            rw [← HT0.out]
            rintro e w5 ⟨rfl, hw5⟩
            subst hw5
            go_wp2_with fail
            refine (Steps_any w4 p sb mb (some plb) s HW4.out.dk).mono ?_
            rw [← HT0.out]
            rintro e w6 ⟨rfl, hw6⟩
            subst hw6
            go_wp2_with fail
            go_roundw
            case rel => exact ⟨k + 1, true, s, m, sv3, bv3, by go_num, rfl, by omega, Lib.hid ⟨HW4.out, by have := hsteps.out; omega, HD.out.2.2.1, HD.out.2.2.2.1, fun h => by cases h⟩, HB4⟩
            case measure => simp [intOf]; omega
        | false =>
            obtain ⟨rs, hgood, hpl⟩ := HD.out.2.2.2.2 rfl
            have HGD := Lib.hid hgood
            have HPL := Lib.hid hpl
            clear hgood hpl
            clear HRX
            go_wp2_with fail
            refine (Steps_any wr p sb mb (some plb) s HD.out.1.dk).mono ?_
            rw [← HT0.out]
            rintro e w1 ⟨rfl, hw1⟩
            subst hw1
            go_wp2_with fail
            refine (copy_any _ l wr HRY.out).mono ?_
            rintro e w2 ⟨v2, rfl, ho2, hb2⟩
            have HO2 := Lib.hid ho2.rbn
            have HW2 : Hid (WalAt w2 p sb mb (some plb) s g B sv bv m) := Lib.hid (HD.out.1.below hb2)
            have HB2 : Hid (Below w.heap.size w w2) := Lib.hid (HBW.out.trans (hb2.mono hzw))
            have hform2 : ∃ A2 n2 c2, v2 = .slice A2 n2 c2 := by
              obtain ⟨A2, c2, h, -, -, -, -⟩ := ho2.rbn.open_
              exact ⟨_, _, _, h⟩
            obtain ⟨A2, n2, c2, rfl⟩ := hform2
            clear ho2 hb2
            go_wp2_with fail
            refine (Append_any w2 p sb mb g B (some plb) s sv bv m HW2.out hcnt.out 1 _ l HO2.out).mono ?_
            obtain ⟨r, hr⟩ : ∃ r, r = m.append 1 l := ⟨_, rfl⟩
            have hg3 : ∃ rs3, Good s r.1 rs3 := by
              rw [hr]
              rcases HGD.out.append 1 l HRY.out.1 with h | h
              · exact ⟨_, h.2.2.2.2.2.2.2⟩
              · rw [h.2.2]; exact ⟨_, HGD.out⟩
            have hc3 : r.1.count = 6 := by rw [hr, append_count]; exact HD.out.2.2.1
            rw [← hr]
            clear hr
            rintro e w3 ⟨rfl, ⟨sv3, bv3, hw3⟩, hm3⟩
            obtain ⟨m3, a3, e3⟩ := r
            dsimp only at hw3 hg3 hc3 ⊢
            obtain ⟨rs3, hg3⟩ := hg3
            have hdies := dies_flush hg3 hc3 HQ.out HPL.out
            have HW3 : Hid (WalAt w3 p sb mb (some plb) s g B sv3 bv3 m3) := Lib.hid hw3
            have HB3 : Hid (Below w.heap.size w w3) := Lib.hid (below_by HB2.out hm3 (HW2.out.ownL HZ.out.2.2.2))
            have HC3 := Lib.hid hc3
            clear hw3 hm3 hg3 hc3
            go_wp2_with fail
            refine (Flush_any w3 p sb mb g B (some plb) s sv3 bv3 m3 HW3.out (by have := hsteps.out; omega)).mono ?_
            obtain ⟨r4, hr4⟩ : ∃ r4, r4 = m3.flush s := ⟨_, rfl⟩
            rw [← hr4]
            obtain ⟨d1, d2, d3, d4, d5⟩ := hdies
            rw [← hr4] at d1 d2 d3 d4 d5
            clear hr4
            obtain ⟨s4, m4, f4⟩ := r4
            dsimp only at d1 d2 d3 d4 d5 ⊢
            obtain ⟨t4, ht4⟩ : ∃ t4, t4 = s4.steps := ⟨_, rfl⟩
            rw [← ht4, ← HT0.out] at d1
            rw [← ht4] at d2
            have HT4 := Lib.hid ht4
            rw [HX.out] at d1
            have D2 := Lib.hid d2
            have D3 := Lib.hid d3
            have D4 := Lib.hid d4
            have D5 : Hid (m4.count = 6) := Lib.hid (by rw [d5]; exact HC3.out)
            clear d2 d3 d4 d5 ht4
            rintro e w4 ⟨rfl, hw4, hm4⟩
            have HW4 : Hid (WalAt w4 p sb mb (some plb) s4 g B sv3 bv3 m4) := Lib.hid hw4
            have HB4 : Hid (Below w.heap.size w w4) := Lib.hid (below_by HB3.out hm4 (HW3.out.ownW HZ.out))
            have hst4 : Hid (s4.steps ≤ 4 + 8 * (k + 1)) := Lib.hid (by have := D2.out; have := hsteps.out; rw [← HT4.out]; omega)
            clear hw4 hm4
            by_cases hf4 : f4 = 0
            · subst hf4
              have hno : ¬ (t0 < n0 + st ∧ n0 + st ≤ t4) := fun h => d1.2 h rfl
              have HD3 := Lib.hid (D3.out rfl)
              clear d1
              by_cases hbf : t0 < n0 + st
              · have hbi : (t0 : Int) < (n0 : Int) + (st : Int) := by omega
                have hai : ¬ (n0 : Int) + (st : Int) ≤ (t4 : Int) := by omega
                clear hno
                go_wp2_with fail
                refine (Steps_any w4 p sb mb (some plb) s4 HW4.out.dk).mono ?_
                rw [← HT4.out]
                rintro e w5 ⟨rfl, hw5⟩
                subst hw5
                go_wp2_with fail
                refine (Steps_any w4 p sb mb (some plb) s4 HW4.out.dk).mono ?_
                rw [← HT4.out]
                rintro e w6 ⟨rfl, hw6⟩
                subst hw6
                go_wp2_with fail
                refine (Flush_any w4 p sb mb g B (some plb) s4 sv3 bv3 m4 HW4.out (by have := hst4.out; omega)).mono ?_
                rw [HD3.out.2.2]
                rintro e w7 ⟨rfl, hw7, hm7⟩
                have HW7 : Hid (WalAt w7 p sb mb (some plb) s4 g B sv3 bv3 m4) := Lib.hid hw7
                have HB7 : Hid (Below w.heap.size w w7) := Lib.hid (below_by HB4.out hm7 (HW4.out.ownW HZ.out))
                clear hw7 hm7
                go_wp2_with fail
                refine (Steps_any w7 p sb mb (some plb) s4 HW7.out.dk).mono ?_
                rw [← HT4.out]
                rintro e w8 ⟨rfl, hw8⟩
                subst hw8
                go_wp2_with fail
                go_roundw
                case rel => exact ⟨k + 1, false, s4, m4, sv3, bv3, by go_num, rfl, by omega, Lib.hid ⟨HW7.out, hst4.out, D5.out, (fun h => by cases h), fun _ => ⟨_, HD3.out.1, HD3.out.2.1⟩⟩, HB7⟩
                case measure => simp [intOf]; omega
              · have hbi : ¬ (t0 : Int) < (n0 : Int) + (st : Int) := by omega
                clear hno
                go_wp2_with fail
                refine (Steps_any w4 p sb mb (some plb) s4 HW4.out.dk).mono ?_
                rw [← HT4.out]
                rintro e w6 ⟨rfl, hw6⟩
                subst hw6
                go_wp2_with fail
                refine (Flush_any w4 p sb mb g B (some plb) s4 sv3 bv3 m4 HW4.out (by have := hst4.out; omega)).mono ?_
                rw [HD3.out.2.2]
                rintro e w7 ⟨rfl, hw7, hm7⟩
                have HW7 : Hid (WalAt w7 p sb mb (some plb) s4 g B sv3 bv3 m4) := Lib.hid hw7
                have HB7 : Hid (Below w.heap.size w w7) := Lib.hid (below_by HB4.out hm7 (HW4.out.ownW HZ.out))
                clear hw7 hm7
                go_wp2_with fail
                refine (Steps_any w7 p sb mb (some plb) s4 HW7.out.dk).mono ?_
                rw [← HT4.out]
                rintro e w8 ⟨rfl, hw8⟩
                subst hw8
                go_wp2_with fail
                go_roundw
                case rel => exact ⟨k + 1, false, s4, m4, sv3, bv3, by go_num, rfl, by omega, Lib.hid ⟨HW7.out, hst4.out, D5.out, (fun h => by cases h), fun _ => ⟨_, HD3.out.1, HD3.out.2.1⟩⟩, HB7⟩
                case measure => simp [intOf]; omega
            · have hyes := d1.1 hf4
              have hbi : (t0 : Int) < (n0 : Int) + (st : Int) := by omega
              have hai : (n0 : Int) + (st : Int) ≤ (t4 : Int) := by omega
              have HDD := Lib.hid (D4.out hf4)
              have hfb : (f4 != 0) = true := by simpa using hf4
              have hfc : (f4 == 0) = false := by simpa using hf4
              clear d1 hyes
              go_wp2_with fail
              refine (Steps_any w4 p sb mb (some plb) s4 HW4.out.dk).mono ?_
              rw [← HT4.out]
              rintro e w5 ⟨rfl, hw5⟩
              subst hw5
              go_wp2_with fail
              refine (Steps_any w4 p sb mb (some plb) s4 HW4.out.dk).mono ?_
              rw [← HT4.out]
              rintro e w6 ⟨rfl, hw6⟩
              subst hw6
              go_wp2_with fail
              go_roundw
              case rel => exact ⟨k + 1, true, s4, m4, sv3, bv3, by go_num, rfl, by omega, Lib.hid ⟨HW4.out, hst4.out, D5.out, (fun _ => HDD.out), fun h => by cases h⟩, HB4⟩
              case measure => simp [intOf]; omega
    · cases hdd : dead with
      | false =>
        rw [hdd] at HD
        go_wp2_with fail
        go_ret
        exact ⟨rfl, HBW.out⟩
      | true =>
        rw [hdd] at HD
        have hdm := HD.out.2.2.2.1 rfl
        have HDM := Lib.hid hdm
        obtain ⟨t0, ht0⟩ : ∃ t0, t0 = s.steps := ⟨_, rfl⟩
        have HT0 := Lib.hid ht0
        have hsteps : Hid (s.steps ≤ 4 + 8 * k) := Lib.hid HD.out.2.1
        clear ht0 hdm
        go_wp2_with fail
        refine (Steps_any wr p sb mb (some plb) s HD.out.1.dk).mono ?_
        rw [← HT0.out]
        rintro e w1 ⟨rfl, hw1⟩
        subst hw1
        go_wp2_with fail
        refine (Reset_any wr p sb mb g B (some plb) s sv bv m HD.out.1 (by have := hsteps.out; omega)).mono ?_
        rw [dead_reset s HDM.out]
        rintro e w2 ⟨rfl, ⟨sv2, bv2, hw2⟩, hm2⟩
        have HW2 := Lib.hid hw2
        have HB2 : Hid (Below w.heap.size w w2) := Lib.hid (below_by HBW.out hm2 (HD.out.1.ownW HZ.out))
        clear hw2 hm2
        go_wp2_with fail
        refine (Steps_any w2 p sb mb (some plb) s HW2.out.dk).mono ?_
        rw [← HT0.out]
        rintro e w3 ⟨rfl, hw3⟩
        subst hw3
        go_wp2_with fail
        go_ret
        exact ⟨rfl, HB2.out⟩
end Go.Proofs.Ytliimkcainefpaa

/-
  The walk of WalDies, at all arguments.
-/
namespace Go.Proofs.Ytliimkcainefpaa
open Go.RowKit Go.Maps
set_option linter.unusedVariables false

set_option maxRecDepth 100000 in
set_option maxHeartbeats 1000000 in
theorem walDies_early (w : World) (bsv : Value) (A : Option Addr) (n c : Nat) (hbs : bsv = .slice A n c) (st q : Int) (hbad : q < 1 ∨ 3 < q ∨ st < 1 ∨ 1000 < st) :
    Calls Try.prog 7 #[bsv, .int .i64 st, .int .i64 q] w fun e w' => e = .returned (.bool true) ∧ Below w.heap.size w w' := by
  subst hbs
  have hmd : Hid (∀ W : World, Calls Try.prog 25 #[.int .i64 6] W (MadeOut W (begS (DS.new 10) 1 6) (begL (DS.new 10) 1 6))) := Lib.hid (fun W => made_any W 6 (by omega))
  by_cases h1 : q < 1
  · clear hbad
    go_enter Try.func7, Try.ntmps7
    go_wp2_with fail
    refine (alive9_any w).mono ?_
    rintro e W0 ⟨rfl, hb0⟩
    have HB0 := Lib.hid hb0
    clear hb0
    go_wp2_with fail
    refine (hmd.out W0).mono ?_
    rintro e W1 ⟨p, sb, mb, g, B, sv, bv, rfl, hw1, hz1, hb1⟩
    have HB1 : Hid (Below w.heap.size w W1) := Lib.hid (HB0.out.trans (hb1.mono HB0.out.size))
    clear hw1 hz1 hb1
    go_wp2_with fail
    go_ret
    exact ⟨rfl, HB1.out⟩
  · by_cases h2 : 3 < q
    · clear hbad
      go_enter Try.func7, Try.ntmps7
      go_wp2_with fail
      refine (alive9_any w).mono ?_
      rintro e W0 ⟨rfl, hb0⟩
      have HB0 := Lib.hid hb0
      clear hb0
      go_wp2_with fail
      refine (hmd.out W0).mono ?_
      rintro e W1 ⟨p, sb, mb, g, B, sv, bv, rfl, hw1, hz1, hb1⟩
      have HB1 : Hid (Below w.heap.size w W1) := Lib.hid (HB0.out.trans (hb1.mono HB0.out.size))
      clear hw1 hz1 hb1
      go_wp2_with fail
      go_ret
      exact ⟨rfl, HB1.out⟩
    · by_cases h3 : st < 1
      · clear hbad
        go_enter Try.func7, Try.ntmps7
        go_wp2_with fail
        refine (alive9_any w).mono ?_
        rintro e W0 ⟨rfl, hb0⟩
        have HB0 := Lib.hid hb0
        clear hb0
        go_wp2_with fail
        refine (hmd.out W0).mono ?_
        rintro e W1 ⟨p, sb, mb, g, B, sv, bv, rfl, hw1, hz1, hb1⟩
        have HB1 : Hid (Below w.heap.size w W1) := Lib.hid (HB0.out.trans (hb1.mono HB0.out.size))
        clear hw1 hz1 hb1
        go_wp2_with fail
        go_ret
        exact ⟨rfl, HB1.out⟩
      · have h4 : 1000 < st := by omega
        clear hbad
        go_enter Try.func7, Try.ntmps7
        go_wp2_with fail
        refine (alive9_any w).mono ?_
        rintro e W0 ⟨rfl, hb0⟩
        have HB0 := Lib.hid hb0
        clear hb0
        go_wp2_with fail
        refine (hmd.out W0).mono ?_
        rintro e W1 ⟨p, sb, mb, g, B, sv, bv, rfl, hw1, hz1, hb1⟩
        have HB1 : Hid (Below w.heap.size w W1) := Lib.hid (HB0.out.trans (hb1.mono HB0.out.size))
        clear hw1 hz1 hb1
        go_wp2_with fail
        go_ret
        exact ⟨rfl, HB1.out⟩
theorem walDies_walk (w : World) (bsv : Value) (bs : List BV) (st q : Int) (h : Bodies w bsv bs) (h1 : (Lit.int .i64 st).wf = true) (h2 : (Lit.int .i64 q).wf = true) :
    Calls Try.prog 7 #[bsv, .int .i64 st, .int .i64 q] w fun e w' => e = .returned (.bool true) ∧ Below w.heap.size w w' := by
  by_cases hbad : q < 1 ∨ 3 < q ∨ st < 1 ∨ 1000 < st
  · obtain ⟨A, c, e, _⟩ := h.rk.open_
    exact walDies_early w bsv A _ c e st q hbad
  · obtain ⟨n, rfl⟩ : ∃ n : Nat, st = (n : Int) := ⟨st.toNat, by omega⟩
    exact walDies_run w bsv bs n q h (by omega) (by omega)
end Go.Proofs.Ytliimkcainefpaa
