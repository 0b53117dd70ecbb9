/-
  The walk of PageOrder.
-/
import Derived.Test.YtknhlbbgjfcjaaaJ19
namespace Go.Proofs.Ytknhlbbgjfcjaaa
open Go.RowKit Go.Maps
set_option linter.unusedVariables false

theorem same_q {w : World} {n B : Nat} {u v : Value} {a : List Nat} (hu : RB w B u a) (hv : RB w B v a) : Calls Try.prog 25 #[u, v] (w.drewN n) fun e w' => e = .returned (.bool true) ∧ ∃ m, w' = (w.drewN n).drewN m :=
  same_yes u v a _ B (hu.drewN n) (hv.drewN n)
theorem Txt.cellD {w : World} {Q : Nat → Prop} {v : Value} {L : List (List Nat)} {ys : List Sl} (h : Txt w Q v L ys) {i : Nat} (hi : i < L.length) :
    ∃ b o c, v = .slice (some ⟨b, o, none⟩) L.length c ∧ b < w.heap.size ∧ ∃ y0 y1 y2, w.cell? ⟨b, o + i, none⟩ = some (.slice y0 y1 y2) ∧ RB w w.heap.size (.slice y0 y1 y2) (L.getD i []) := by
  obtain ⟨b, o, c, h1, h2, y, _, h4, h5⟩ := h.cell hi
  have e : L.getD i [] = L[i] := by rw [List.getD, List.getElem?_eq_getElem hi]; rfl
  exact ⟨b, o, c, h1, h2, y.1, y.2.1, y.2.2, h4, by rw [e]; exact h5⟩
theorem insD_lt {m : PG} {i k : Nat} {l : List Nat} (h : i ≤ m.items.length) (hk : k < i) : (m.insert i l).items.getD k [] = m.items.getD k [] := by
  unfold PG.insert
  dsimp only
  have ht : (m.items.take i).length = i := by rw [List.length_take]; omega
  rw [List.getD, List.getD, List.append_assoc, List.getElem?_append_left (by omega), List.getElem?_take, if_pos hk]
theorem insD_gt {m : PG} {i k : Nat} {l : List Nat} (h : i ≤ m.items.length) (hk : i < k) : (m.insert i l).items.getD k [] = m.items.getD (k - 1) [] := by
  unfold PG.insert
  dsimp only
  have ht : (m.items.take i).length = i := by rw [List.length_take]; omega
  rw [List.getD, List.getD, List.append_assoc, List.getElem?_append_right (by omega), ht, List.getElem?_append_right (by simp; omega), List.getElem?_drop]
  congr 2
  simp; omega
theorem repD {m : PG} {i k : Nat} {l : List Nat} (h : i < m.items.length) : (m.replace i l).items.getD k [] = if k = i then l else m.items.getD k [] := by
  unfold PG.replace
  dsimp only
  rw [List.getD, List.getElem?_set]
  by_cases hk : i = k
  · subst hk; rw [if_pos rfl, if_pos h, if_pos rfl]; rfl
  · rw [if_neg hk, if_neg (fun e => hk e.symm)]; rfl
theorem insE_zero {m : PG} {i : Int} {l : List Nat} (h : m.insE i l = 0) : 0 ≤ i ∧ i ≤ m.items.length := by
  unfold PG.insE at h
  split at h <;> omega

set_option maxRecDepth 100000 in
set_option maxHeartbeats 2000000 in
theorem pageOrder_any (w : World) (sv : Value) (os : List PgOpV) (i : Int) (iv : Value) (l : List Nat) (hs : PgScript w sv os) (hv : RB w w.heap.size iv l) :
    Calls Try.prog 7 #[sv, .int .i64 i, iv] w fun e w' => e = .returned (.bool true) ∧ Below w.heap.size w w' := by
  have HSC := Lib.hid hs
  have HV := Lib.hid hv
  obtain ⟨AI, cI, rfl, hll, _, hl47, -⟩ := hv.open_
  clear hs hv
  go_enter Try.func7, Try.ntmps7
  go_wp2_with fail
  refine (filled_any w sv os HSC.out).mono ?_
  rintro e w1 ⟨p, v, xs, rfl, hp1, hb1⟩
  obtain ⟨m, hm⟩ : ∃ m, m = (PG.new 3 9).runs os := ⟨_, rfl⟩
  rw [← hm] at hp1
  have HP1 := Lib.hid hp1
  have HB1 := Lib.hid hb1
  clear hp1 hb1 hm
  go_wp2_with fail
  refine (alive8_any w1).mono ?_
  rintro e w2 ⟨rfl, hb2⟩
  have HP2 := Lib.hid (HP1.out.below hb2)
  have HB2 := Lib.hid (HB1.out.trans (hb2.mono HB1.out.size))
  clear hb2
  go_wp2_with fail
  refine (items_any w2 p _ v xs m HP2.out).mono ?_
  rintro e w3 ⟨u, ys, rfl, ht3, hb3⟩
  obtain ⟨AU, cU, rfl⟩ := ht3.open_
  have HPx := Lib.hid (HP2.out.below hb3)
  have HBx := Lib.hid (HB2.out.trans (hb3.mono HB2.out.size))
  have hz3 := hb3.size
  have hz2 := HB2.out.size
  obtain ⟨n, hn⟩ : ∃ n, n = m.items.length := ⟨_, rfl⟩
  have hn100 : n ≤ 100 := by rw [hn]; exact HP2.out.ok.num
  have hn1 : IntKind.i64.wrap ((n : Int) + 1) = (n : Int) + 1 := by rw [IntKind.wrap_i64]; omega
  rw [← hn] at ht3 ⊢
  have HTx := Lib.hid ht3
  have HN1 := Lib.hid hn
  have HRL2 := Lib.hid HP2.out.rowlt
  have hbase := HP2.out.base
  have HQx : Hid (∀ k, (k = p ∨ v.ownBlock = some k) → ¬ (w2.heap.size ≤ k ∧ k < w3.heap.size)) := fun k e h => by have := HRL2.out k e; omega
  have HOx : Hid (∀ k, (k = p ∨ v.ownBlock = some k) → w.heap.size ≤ k) := fun k e => by rcases e with e | e; omega; exact (HP2.out.row.lt k e).1
  clear ht3 hb3 hn
  by_cases hi : i < 0
  · have hi2 : ¬ 0 ≤ i := by omega
    go_wp2_with fail
    obtain ⟨m2, hm2⟩ : ∃ m2, m2 = if m.insE i l = 0 then m.insert i.toNat l else m := ⟨_, rfl⟩
    refine (pageInsert_u HPx.out i ((HV.out.below HBx.out).more HBx.out.size) hm2).mono ?_
    rintro e wA ⟨rfl, hout⟩
    obtain ⟨fe, hfe⟩ : ∃ fe, fe = m.insE i l := ⟨_, rfl⟩
    rw [← hfe] at hm2 ⊢
    obtain ⟨vA, xsA, hpA, hsA, _⟩ := hout
    have HTA := Lib.hid (HTx.out.mod hsA.mod HQx.out)
    have HBA := Lib.hid (HBx.out.trans (hsA.mod.below HBx.out.size (fun k e => HOx.out k e)))
    have HPA := Lib.hid hpA
    have HFE := Lib.hid hfe
    have HM2 := Lib.hid hm2
    clear hpA hsA hfe hm2
    by_cases hz : fe = 0
    · exfalso
      have := insE_zero (HFE.out.symm.trans hz)
      omega
    · have hz2 : (fe == 0) = false := by simpa using hz
      have hmm : m2 = m := by rw [HM2.out, if_neg hz]
      rw [hmm] at HPA
      clear hmm HM2
      go_wp2_with fail
      refine (items_any wA p _ vA xsA _ HPA.out).mono ?_
      rintro e wB ⟨uB, ysB, rfl, htB, hbB⟩
      have HTB := Lib.hid (HTA.out.below hbB)
      have HBB := Lib.hid (HBA.out.trans (hbB.mono HBA.out.size))
      have HUB := Lib.hid htB
      clear htB hbB
      obtain ⟨AB, cB, hue⟩ := HUB.out.open_
      rw [← HN1.out] at hue
      subst hue
      go_wp2_with fail
      refine (same8_any wB _ _ _ _ _ _ _ _ HUB.out HTB.out).mono ?_
      rw [sameT_self]
      rintro e wC ⟨rfl, hbC⟩
      have HBC := Lib.hid (HBB.out.trans (hbC.mono HBB.out.size))
      clear hbC
      go_wp2_with fail
      go_ret
      exact ⟨rfl, HBC.out⟩
  · have hi2 : 0 ≤ i := by omega
    by_cases hin : i < (n : Int)
    · obtain ⟨r, hr⟩ : ∃ r : Nat, i = (r : Int) := ⟨i.toNat, by omega⟩
      have hrn : r < n := by omega
      have HR0 := Lib.hid hr
      clear hr
      obtain ⟨m1, hm1⟩ : ∃ m1, m1 = if m.repE i l = 0 then m.replace i.toNat l else m := ⟨_, rfl⟩
      go_wp2_with fail
      refine (pageReplace_u HPx.out i ((HV.out.below HBx.out).more HBx.out.size) hm1).mono ?_
      rintro e w4 ⟨rfl, hout⟩
      obtain ⟨fr, hfr⟩ : ∃ fr, fr = m.repE i l := ⟨_, rfl⟩
      rw [← hfr] at hm1 ⊢
      obtain ⟨v4, xs4, hp4, hs4, _⟩ := hout
      have HT4 := Lib.hid (HTx.out.mod hs4.mod HQx.out)
      have HB4 := Lib.hid (HBx.out.trans (hs4.mod.below HBx.out.size (fun k e => HOx.out k e)))
      have HP4 := Lib.hid hp4
      have HM1 := Lib.hid hm1
      have hown4 : ∀ k, (k = p ∨ v4.ownBlock = some k) → w.heap.size ≤ k ∧ (k < w2.heap.size ∨ w3.heap.size ≤ k) ∧ k < w4.heap.size := fun k e => by
        have hlt := hp4.rowlt k e
        rcases e with e | e
        · have := HRL2.out k (.inl e); omega
        · rcases hs4.own with h | h
          · rw [h] at e; have := HRL2.out k (.inr e); have := HOx.out k (.inr e); omega
          · have := h k e; have := HBx.out.size; omega
      have HOWN4 := Lib.hid hown4
      clear hp4 hs4 hm1 hown4
      by_cases hz : fr = 0
      · subst hz
        have hrm : r < m.items.length := by rw [← HN1.out]; exact hrn
        have hmm : m1 = m.replace r l := by rw [HM1.out, if_pos rfl, HR0.out, Int.toNat_natCast]
        have hn2 : n = m1.items.length := by rw [hmm]; unfold PG.replace; rw [List.length_set]; exact HN1.out
        have HRD : Hid (∀ k, m1.items.getD k [] = if k = r then l else m.items.getD k []) := fun k => by rw [hmm]; exact repD hrm
        have HN2 := Lib.hid hn2
        clear hmm hn2 hrm HM1
        go_wp2_with fail
        refine (items_any w4 p _ v4 xs4 m1 HP4.out).mono ?_
        rintro e w5 ⟨u5, ys5, rfl, ht5, hb5⟩
        obtain ⟨A5, c5, hue⟩ := ht5.open_
        rw [← HN2.out] at hue
        subst hue
        have HP5 := Lib.hid (HP4.out.below hb5)
        have HB5 := Lib.hid (HB4.out.trans (hb5.mono HB4.out.size))
        have HT5 := Lib.hid (HT4.out.below hb5)
        have HU5 := Lib.hid ht5
        clear ht5 hb5
        have hr := HR0.out
        clear HR0
        subst hr
        go_wp2_with fail
        go_loopw [43] (fun x wr => ∃ k : Nat, k ≤ n ∧ x = .int .i64 k ∧ Hid (Below w5.heap.size w5 wr)) (fun x wr => n - (intOf x).toNat)
        case atStart => exact ⟨0, Nat.zero_le _, rfl, Below.refl _ _⟩
        case round =>
          obtain ⟨k, hk, rfl, HBr⟩ := hrel
          by_cases hlt : k < n
          · have HUr := Lib.hid (HU5.out.below HBr.out)
            have HTr := Lib.hid (HT5.out.below HBr.out)
            obtain ⟨b, o, c6, e1, hb, y0, y1, y2, hcy, hry⟩ := HUr.out.cellD (i := k) (by rw [← HN2.out]; exact hlt)
            rw [← HN2.out] at e1
            injection e1 with e1 e2 e3
            subst e1 e3
            obtain ⟨b', o', c7, e1', hb', z0, z1, z2, hcz, hrz⟩ := HTr.out.cellD (i := k) (by rw [← HN1.out]; exact hlt)
            rw [← HN1.out] at e1'
            injection e1' with e1' e2' e3'
            subst e1' e3'
            rw [HRD.out k] at hry
            by_cases hkr : k = r
            · subst hkr
              rw [if_pos rfl] at hry
              have HRY := Lib.hid hry
              have HRZ := Lib.hid (((HV.out.below HB5.out).more HB5.out.size).below HBr.out |>.more HBr.out.size)
              clear hry hrz e2 e2'
              go_wp2_with fail
              refine (same_b HRY.out HRZ.out).mono ?_
              rw [sameB_self]
              rintro e w6 ⟨rfl, hb6⟩
              have HB6 := Lib.hid (HBr.out.trans (hb6.mono HBr.out.size))
              clear hb6
              go_wp2_with fail
              go_roundw
              case rel => exact ⟨k + 1, by omega, by go_num, HB6⟩
              case measure => simp [intOf]; omega
            · rw [if_neg hkr] at hry
              have HRY := Lib.hid hry
              have HRZ := Lib.hid hrz
              have g5 : ((k : Int) == (r : Int)) = false := by simp; omega
              clear hry hrz e2 e2'
              go_wp2_with fail
              refine (same_b HRY.out HRZ.out).mono ?_
              rw [sameB_self]
              rintro e w6 ⟨rfl, hb6⟩
              have HB6 := Lib.hid (HBr.out.trans (hb6.mono HBr.out.size))
              clear hb6
              go_wp2_with fail
              go_roundw
              case rel => exact ⟨k + 1, by omega, by go_num, HB6⟩
              case measure => simp [intOf]; omega
          · obtain rfl : n = k := by omega
            have HPy := Lib.hid (HP5.out.below HBr.out)
            have HBy := Lib.hid (HB5.out.trans (HBr.out.mono HB5.out.size))
            have HTy := Lib.hid (HU5.out.below HBr.out)
            have HOy : Hid (∀ q, (q = p ∨ v4.ownBlock = some q) → w.heap.size ≤ q) := fun q e => (HOWN4.out q e).1
            have HQy : Hid (∀ q, (q = p ∨ v4.ownBlock = some q) → ¬ (w4.heap.size ≤ q ∧ q < w5.heap.size)) := fun q e h => by have := HOWN4.out q e; omega
            clear HPx HBx HTx HOx HQx HN1
            have HPx := HPy
            have HBx := HBy
            have HTx := HTy
            have HOx := HOy
            have HQx := HQy
            have HN1 := HN2
            clear HPy HBy HTy HOy HQy HN2
            obtain ⟨i, hie⟩ : ∃ i : Int, i = (r : Int) := ⟨_, rfl⟩
            have HIE := Lib.hid hie
            rw [← hie]
            clear hie
            go_wp2_with fail
            obtain ⟨m2, hm2⟩ : ∃ m2, m2 = if m1.insE i l = 0 then m1.insert i.toNat l else m1 := ⟨_, rfl⟩
            refine (pageInsert_u HPx.out i ((HV.out.below HBx.out).more HBx.out.size) hm2).mono ?_
            rintro e wA ⟨rfl, hout⟩
            obtain ⟨fe, hfe⟩ : ∃ fe, fe = m1.insE i l := ⟨_, rfl⟩
            rw [← hfe] at hm2 ⊢
            obtain ⟨vA, xsA, hpA, hsA, _⟩ := hout
            have HTA := Lib.hid (HTx.out.mod hsA.mod HQx.out)
            have HBA := Lib.hid (HBx.out.trans (hsA.mod.below HBx.out.size (fun k e => HOx.out k e)))
            have HPA := Lib.hid hpA
            have HFE := Lib.hid hfe
            have HM2 := Lib.hid hm2
            clear hpA hsA hfe hm2
            by_cases hz : fe = 0
            · subst hz
              obtain ⟨hi0, hi1⟩ := insE_zero HFE.out.symm
              obtain ⟨j, rfl⟩ : ∃ j : Nat, i = (j : Int) := ⟨i.toNat, by omega⟩
              have hjm : j ≤ m1.items.length := by omega
              have hmm : m2 = m1.insert j l := HM2.out
              subst hmm
              have hn2 : n + 1 = (m1.insert j l).items.length := by rw [insert_len hjm, HN1.out]
              have HN2 := Lib.hid hn2
              have HJM := Lib.hid hjm
              have hjn : j ≤ n := by have := HN1.out; omega
              clear hi0 hi1 hn2 hjm HM2
              go_wp2_with fail
              refine (items_any wA p _ vA xsA _ HPA.out).mono ?_
              rintro e wB ⟨uB, ysB, rfl, htB, hbB⟩
              have HTB := Lib.hid (HTA.out.below hbB)
              have HBB := Lib.hid (HBA.out.trans (hbB.mono HBA.out.size))
              have HUB := Lib.hid htB
              clear htB hbB
              obtain ⟨AB, cB, hue⟩ := HUB.out.open_
              rw [← HN2.out] at hue
              subst hue
              go_wp2_with fail
              go_loopw [76] (fun x wr => ∃ k : Nat, k ≤ n + 1 ∧ x = .int .i64 k ∧ Hid (Below wB.heap.size wB wr)) (fun x wr => n + 1 - (intOf x).toNat)
              case atStart => exact ⟨0, Nat.zero_le _, rfl, Below.refl _ _⟩
              case round =>
                obtain ⟨k, hk, rfl, HBr⟩ := hrel
                by_cases hlt : k < n + 1
                · have HUr := Lib.hid (HUB.out.below HBr.out)
                  have HTr := Lib.hid (HTB.out.below HBr.out)
                  obtain ⟨b, o, c5, e1, hb, y0, y1, y2, hcy, hry⟩ := HUr.out.cellD (i := k) (by rw [← HN2.out]; exact hlt)
                  rw [← HN2.out] at e1
                  injection e1 with e1 e2 e3
                  subst e1 e3
                  have hklt : (k : Int) < (n : Int) + 1 := by omega
                  rcases Nat.lt_trichotomy k j with hkj | hkj | hkj
                  · obtain ⟨b', o', c6, e1', hb', z0, z1, z2, hcz, hrz⟩ := HTr.out.cellD (i := k) (by rw [← HN1.out]; omega)
                    rw [← HN1.out] at e1'
                    injection e1' with e1' e2' e3'
                    subst e1' e3'
                    rw [insD_lt HJM.out hkj] at hry
                    have HRY := Lib.hid hry
                    have HRZ := Lib.hid hrz
                    have hkn : k < n := by omega
                    have g1 : decide (k < j) = true := by simpa using hkj
                    have g2 : decide (k = j) = false := by simp; omega
                    have g3 : decide (j < k) = false := by simp; omega
                    have g4 : ¬ k = j := by omega
                    have g5 : ((k : Int) == (j : Int)) = false := by simp; omega
                    clear hry hrz e2 e2'
                    go_wp2_with fail
                    go_quiet ((go_at_call 25; refine Calls.quiet_of (same_q HRY.out HRZ.out)))
                    go_wp2_with fail
                    go_roundw
                    case rel => exact ⟨k + 1, by omega, by go_num, below_drewN HBr.out _⟩
                    case measure => simp [intOf]; omega
                  · subst hkj
                    rw [insert_get HJM.out] at hry
                    have HRY := Lib.hid hry
                    have HRZ := Lib.hid (((HV.out.below HBB.out).more HBB.out.size).below HBr.out |>.more HBr.out.size)
                    have g1 : decide (k < k) = false := by simp
                    have g5 : ((k : Int) == (k : Int)) = true := by simp
                    clear hry e2
                    go_wp2_with fail
                    go_quiet ((go_at_call 25; refine Calls.quiet_of (same_q HRY.out HRZ.out)))
                    go_wp2_with fail
                    go_roundw
                    case rel => exact ⟨k + 1, by omega, by go_num, below_drewN HBr.out _⟩
                    case measure => simp [intOf]; omega
                  · obtain ⟨q, hq⟩ : ∃ q, q = k - 1 := ⟨_, rfl⟩
                    obtain ⟨b', o', c6, e1', hb', z0, z1, z2, hcz, hrz⟩ := HTr.out.cellD (i := q) (by rw [← HN1.out]; omega)
                    rw [← HN1.out] at e1'
                    injection e1' with e1' e2' e3'
                    subst e1' e3'
                    rw [insD_gt HJM.out hkj, ← hq] at hry
                    have HRY := Lib.hid hry
                    have HRZ := Lib.hid hrz
                    have hqn : q < n := by omega
                    have hk100 : k ≤ 1000 := by have := HPA.out.ok.num; have := HN2.out; omega
                    have hw2 : (k : Int) - 1 = (q : Int) := by omega
                    have hw3 : IntKind.i64.wrap (q : Int) = (q : Int) := by rw [IntKind.wrap_i64]; omega
                    have g1 : decide (k < j) = false := by simp; omega
                    have g2 : decide (k = j) = false := by simp; omega
                    have g3 : decide (j < k) = true := by simpa using hkj
                    have g4 : ¬ k = j := by omega
                    have g5 : ((k : Int) == (j : Int)) = false := by simp; omega
                    clear hq
                    clear hry hrz e2 e2'
                    go_wp2_with fail
                    go_quiet ((go_at_call 25; refine Calls.quiet_of (same_q HRY.out HRZ.out)))
                    go_wp2_with fail
                    go_roundw
                    case rel => exact ⟨k + 1, by omega, by go_num, below_drewN HBr.out _⟩
                    case measure => simp [intOf]; omega
                · obtain rfl : k = n + 1 := by omega
                  go_wp2_with fail
                  go_ret
                  exact ⟨rfl, HBB.out.trans (HBr.out.mono HBB.out.size)⟩
            · have hz2 : (fe == 0) = false := by simpa using hz
              have hmm : m2 = m1 := by rw [HM2.out, if_neg hz]
              rw [hmm] at HPA
              clear hmm HM2
              go_wp2_with fail
              refine (items_any wA p _ vA xsA _ HPA.out).mono ?_
              rintro e wB ⟨uB, ysB, rfl, htB, hbB⟩
              have HTB := Lib.hid (HTA.out.below hbB)
              have HBB := Lib.hid (HBA.out.trans (hbB.mono HBA.out.size))
              have HUB := Lib.hid htB
              clear htB hbB
              obtain ⟨AB, cB, hue⟩ := HUB.out.open_
              rw [← HN1.out] at hue
              subst hue
              go_wp2_with fail
              refine (same8_any wB _ _ _ _ _ _ _ _ HUB.out HTB.out).mono ?_
              rw [sameT_self]
              rintro e wC ⟨rfl, hbC⟩
              have HBC := Lib.hid (HBB.out.trans (hbC.mono HBB.out.size))
              clear hbC
              go_wp2_with fail
              go_ret
              exact ⟨rfl, HBC.out⟩
      · have hmm : m1 = m := by rw [HM1.out, if_neg hz]
        rw [hmm] at HP4
        have hz2 : (fr == 0) = false := by simpa using hz
        have HPy := HP4
        have HBy := HB4
        have HTy := HT4
        have HOy : Hid (∀ q, (q = p ∨ v4.ownBlock = some q) → w.heap.size ≤ q) := fun q e => (HOWN4.out q e).1
        have HQy : Hid (∀ q, (q = p ∨ v4.ownBlock = some q) → ¬ (w2.heap.size ≤ q ∧ q < w3.heap.size)) := fun q e h => by have := HOWN4.out q e; omega
        clear HPx HBx HTx HOx HQx hmm HM1
        have HPx := HPy
        have HBx := HBy
        have HTx := HTy
        have HOx := HOy
        have HQx := HQy
        clear HPy HBy HTy HOy HQy HP4 HB4 HT4
        go_wp2_with fail
        obtain ⟨m2, hm2⟩ : ∃ m2, m2 = if m.insE i l = 0 then m.insert i.toNat l else m := ⟨_, rfl⟩
        refine (pageInsert_u HPx.out i ((HV.out.below HBx.out).more HBx.out.size) hm2).mono ?_
        rintro e wA ⟨rfl, hout⟩
        obtain ⟨fe, hfe⟩ : ∃ fe, fe = m.insE i l := ⟨_, rfl⟩
        rw [← hfe] at hm2 ⊢
        obtain ⟨vA, xsA, hpA, hsA, _⟩ := hout
        have HTA := Lib.hid (HTx.out.mod hsA.mod HQx.out)
        have HBA := Lib.hid (HBx.out.trans (hsA.mod.below HBx.out.size (fun k e => HOx.out k e)))
        have HPA := Lib.hid hpA
        have HFE := Lib.hid hfe
        have HM2 := Lib.hid hm2
        clear hpA hsA hfe hm2
        by_cases hzz : fe = 0
        · subst hzz
          obtain ⟨hi0, hi1⟩ := insE_zero HFE.out.symm
          obtain ⟨j, rfl⟩ : ∃ j : Nat, i = (j : Int) := ⟨i.toNat, by omega⟩
          have hjm : j ≤ m.items.length := by omega
          have hmm : m2 = m.insert j l := HM2.out
          subst hmm
          have hn2 : n + 1 = (m.insert j l).items.length := by rw [insert_len hjm, HN1.out]
          have HN2 := Lib.hid hn2
          have HJM := Lib.hid hjm
          have hjn : j ≤ n := by have := HN1.out; omega
          clear hi0 hi1 hn2 hjm HM2
          go_wp2_with fail
          refine (items_any wA p _ vA xsA _ HPA.out).mono ?_
          rintro e wB ⟨uB, ysB, rfl, htB, hbB⟩
          have HTB := Lib.hid (HTA.out.below hbB)
          have HBB := Lib.hid (HBA.out.trans (hbB.mono HBA.out.size))
          have HUB := Lib.hid htB
          clear htB hbB
          obtain ⟨AB, cB, hue⟩ := HUB.out.open_
          rw [← HN2.out] at hue
          subst hue
          go_wp2_with fail
          go_loopw [76] (fun x wr => ∃ k : Nat, k ≤ n + 1 ∧ x = .int .i64 k ∧ Hid (Below wB.heap.size wB wr)) (fun x wr => n + 1 - (intOf x).toNat)
          case atStart => exact ⟨0, Nat.zero_le _, rfl, Below.refl _ _⟩
          case round =>
            obtain ⟨k, hk, rfl, HBr⟩ := hrel
            by_cases hlt : k < n + 1
            · have HUr := Lib.hid (HUB.out.below HBr.out)
              have HTr := Lib.hid (HTB.out.below HBr.out)
              obtain ⟨b, o, c5, e1, hb, y0, y1, y2, hcy, hry⟩ := HUr.out.cellD (i := k) (by rw [← HN2.out]; exact hlt)
              rw [← HN2.out] at e1
              injection e1 with e1 e2 e3
              subst e1 e3
              have hklt : (k : Int) < (n : Int) + 1 := by omega
              rcases Nat.lt_trichotomy k j with hkj | hkj | hkj
              · obtain ⟨b', o', c6, e1', hb', z0, z1, z2, hcz, hrz⟩ := HTr.out.cellD (i := k) (by rw [← HN1.out]; omega)
                rw [← HN1.out] at e1'
                injection e1' with e1' e2' e3'
                subst e1' e3'
                rw [insD_lt HJM.out hkj] at hry
                have HRY := Lib.hid hry
                have HRZ := Lib.hid hrz
                have hkn : k < n := by omega
                have g1 : decide (k < j) = true := by simpa using hkj
                have g2 : decide (k = j) = false := by simp; omega
                have g3 : decide (j < k) = false := by simp; omega
                have g4 : ¬ k = j := by omega
                have g5 : ((k : Int) == (j : Int)) = false := by simp; omega
                clear hry hrz e2 e2'
                go_wp2_with fail
                go_quiet ((go_at_call 25; refine Calls.quiet_of (same_q HRY.out HRZ.out)))
                go_wp2_with fail
                go_roundw
                case rel => exact ⟨k + 1, by omega, by go_num, below_drewN HBr.out _⟩
                case measure => simp [intOf]; omega
              · subst hkj
                rw [insert_get HJM.out] at hry
                have HRY := Lib.hid hry
                have HRZ := Lib.hid (((HV.out.below HBB.out).more HBB.out.size).below HBr.out |>.more HBr.out.size)
                have g1 : decide (k < k) = false := by simp
                have g5 : ((k : Int) == (k : Int)) = true := by simp
                clear hry e2
                go_wp2_with fail
                go_quiet ((go_at_call 25; refine Calls.quiet_of (same_q HRY.out HRZ.out)))
                go_wp2_with fail
                go_roundw
                case rel => exact ⟨k + 1, by omega, by go_num, below_drewN HBr.out _⟩
                case measure => simp [intOf]; omega
              · obtain ⟨q, hq⟩ : ∃ q, q = k - 1 := ⟨_, rfl⟩
                obtain ⟨b', o', c6, e1', hb', z0, z1, z2, hcz, hrz⟩ := HTr.out.cellD (i := q) (by rw [← HN1.out]; omega)
                rw [← HN1.out] at e1'
                injection e1' with e1' e2' e3'
                subst e1' e3'
                rw [insD_gt HJM.out hkj, ← hq] at hry
                have HRY := Lib.hid hry
                have HRZ := Lib.hid hrz
                have hqn : q < n := by omega
                have hk100 : k ≤ 1000 := by have := HPA.out.ok.num; have := HN2.out; omega
                have hw2 : (k : Int) - 1 = (q : Int) := by omega
                have hw3 : IntKind.i64.wrap (q : Int) = (q : Int) := by rw [IntKind.wrap_i64]; omega
                have g1 : decide (k < j) = false := by simp; omega
                have g2 : decide (k = j) = false := by simp; omega
                have g3 : decide (j < k) = true := by simpa using hkj
                have g4 : ¬ k = j := by omega
                have g5 : ((k : Int) == (j : Int)) = false := by simp; omega
                clear hq
                clear hry hrz e2 e2'
                go_wp2_with fail
                go_quiet ((go_at_call 25; refine Calls.quiet_of (same_q HRY.out HRZ.out)))
                go_wp2_with fail
                go_roundw
                case rel => exact ⟨k + 1, by omega, by go_num, below_drewN HBr.out _⟩
                case measure => simp [intOf]; omega
            · obtain rfl : k = n + 1 := by omega
              go_wp2_with fail
              go_ret
              exact ⟨rfl, HBB.out.trans (HBr.out.mono HBB.out.size)⟩
        · have hzz2 : (fe == 0) = false := by simpa using hzz
          have hmm : m2 = m := by rw [HM2.out, if_neg hzz]
          rw [hmm] at HPA
          clear hmm HM2
          go_wp2_with fail
          refine (items_any wA p _ vA xsA _ HPA.out).mono ?_
          rintro e wB ⟨uB, ysB, rfl, htB, hbB⟩
          have HTB := Lib.hid (HTA.out.below hbB)
          have HBB := Lib.hid (HBA.out.trans (hbB.mono HBA.out.size))
          have HUB := Lib.hid htB
          clear htB hbB
          obtain ⟨AB, cB, hue⟩ := HUB.out.open_
          rw [← HN1.out] at hue
          subst hue
          go_wp2_with fail
          refine (same8_any wB _ _ _ _ _ _ _ _ HUB.out HTB.out).mono ?_
          rw [sameT_self]
          rintro e wC ⟨rfl, hbC⟩
          have HBC := Lib.hid (HBB.out.trans (hbC.mono HBB.out.size))
          clear hbC
          go_wp2_with fail
          go_ret
          exact ⟨rfl, HBC.out⟩
    · have hin2 : ¬ i < (n : Int) := hin
      go_wp2_with fail
      obtain ⟨m2, hm2⟩ : ∃ m2, m2 = if m.insE i l = 0 then m.insert i.toNat l else m := ⟨_, rfl⟩
      refine (pageInsert_u HPx.out i ((HV.out.below HBx.out).more HBx.out.size) hm2).mono ?_
      rintro e wA ⟨rfl, hout⟩
      obtain ⟨fe, hfe⟩ : ∃ fe, fe = m.insE i l := ⟨_, rfl⟩
      rw [← hfe] at hm2 ⊢
      obtain ⟨vA, xsA, hpA, hsA, _⟩ := hout
      have HTA := Lib.hid (HTx.out.mod hsA.mod HQx.out)
      have HBA := Lib.hid (HBx.out.trans (hsA.mod.below HBx.out.size (fun k e => HOx.out k e)))
      have HPA := Lib.hid hpA
      have HFE := Lib.hid hfe
      have HM2 := Lib.hid hm2
      clear hpA hsA hfe hm2
      by_cases hz : fe = 0
      · subst hz
        obtain ⟨hi0, hi1⟩ := insE_zero HFE.out.symm
        obtain ⟨j, rfl⟩ : ∃ j : Nat, i = (j : Int) := ⟨i.toNat, by omega⟩
        have hjm : j ≤ m.items.length := by omega
        have hmm : m2 = m.insert j l := HM2.out
        subst hmm
        have hn2 : n + 1 = (m.insert j l).items.length := by rw [insert_len hjm, HN1.out]
        have HN2 := Lib.hid hn2
        have HJM := Lib.hid hjm
        have hjn : j ≤ n := by have := HN1.out; omega
        clear hi0 hi1 hn2 hjm HM2
        go_wp2_with fail
        refine (items_any wA p _ vA xsA _ HPA.out).mono ?_
        rintro e wB ⟨uB, ysB, rfl, htB, hbB⟩
        have HTB := Lib.hid (HTA.out.below hbB)
        have HBB := Lib.hid (HBA.out.trans (hbB.mono HBA.out.size))
        have HUB := Lib.hid htB
        clear htB hbB
        obtain ⟨AB, cB, hue⟩ := HUB.out.open_
        rw [← HN2.out] at hue
        subst hue
        go_wp2_with fail
        go_loopw [76] (fun x wr => ∃ k : Nat, k ≤ n + 1 ∧ x = .int .i64 k ∧ Hid (Below wB.heap.size wB wr)) (fun x wr => n + 1 - (intOf x).toNat)
        case atStart => exact ⟨0, Nat.zero_le _, rfl, Below.refl _ _⟩
        case round =>
          obtain ⟨k, hk, rfl, HBr⟩ := hrel
          by_cases hlt : k < n + 1
          · have HUr := Lib.hid (HUB.out.below HBr.out)
            have HTr := Lib.hid (HTB.out.below HBr.out)
            obtain ⟨b, o, c5, e1, hb, y0, y1, y2, hcy, hry⟩ := HUr.out.cellD (i := k) (by rw [← HN2.out]; exact hlt)
            rw [← HN2.out] at e1
            injection e1 with e1 e2 e3
            subst e1 e3
            have hklt : (k : Int) < (n : Int) + 1 := by omega
            rcases Nat.lt_trichotomy k j with hkj | hkj | hkj
            · obtain ⟨b', o', c6, e1', hb', z0, z1, z2, hcz, hrz⟩ := HTr.out.cellD (i := k) (by rw [← HN1.out]; omega)
              rw [← HN1.out] at e1'
              injection e1' with e1' e2' e3'
              subst e1' e3'
              rw [insD_lt HJM.out hkj] at hry
              have HRY := Lib.hid hry
              have HRZ := Lib.hid hrz
              have hkn : k < n := by omega
              have g1 : decide (k < j) = true := by simpa using hkj
              have g2 : decide (k = j) = false := by simp; omega
              have g3 : decide (j < k) = false := by simp; omega
              have g4 : ¬ k = j := by omega
              have g5 : ((k : Int) == (j : Int)) = false := by simp; omega
              clear hry hrz e2 e2'
              go_wp2_with fail
              go_quiet ((go_at_call 25; refine Calls.quiet_of (same_q HRY.out HRZ.out)))
              go_wp2_with fail
              go_roundw
              case rel => exact ⟨k + 1, by omega, by go_num, below_drewN HBr.out _⟩
              case measure => simp [intOf]; omega
            · subst hkj
              rw [insert_get HJM.out] at hry
              have HRY := Lib.hid hry
              have HRZ := Lib.hid (((HV.out.below HBB.out).more HBB.out.size).below HBr.out |>.more HBr.out.size)
              have g1 : decide (k < k) = false := by simp
              have g5 : ((k : Int) == (k : Int)) = true := by simp
              clear hry e2
              go_wp2_with fail
              go_quiet ((go_at_call 25; refine Calls.quiet_of (same_q HRY.out HRZ.out)))
              go_wp2_with fail
              go_roundw
              case rel => exact ⟨k + 1, by omega, by go_num, below_drewN HBr.out _⟩
              case measure => simp [intOf]; omega
            · obtain ⟨q, hq⟩ : ∃ q, q = k - 1 := ⟨_, rfl⟩
              obtain ⟨b', o', c6, e1', hb', z0, z1, z2, hcz, hrz⟩ := HTr.out.cellD (i := q) (by rw [← HN1.out]; omega)
              rw [← HN1.out] at e1'
              injection e1' with e1' e2' e3'
              subst e1' e3'
              rw [insD_gt HJM.out hkj, ← hq] at hry
              have HRY := Lib.hid hry
              have HRZ := Lib.hid hrz
              have hqn : q < n := by omega
              have hk100 : k ≤ 1000 := by have := HPA.out.ok.num; have := HN2.out; omega
              have hw2 : (k : Int) - 1 = (q : Int) := by omega
              have hw3 : IntKind.i64.wrap (q : Int) = (q : Int) := by rw [IntKind.wrap_i64]; omega
              have g1 : decide (k < j) = false := by simp; omega
              have g2 : decide (k = j) = false := by simp; omega
              have g3 : decide (j < k) = true := by simpa using hkj
              have g4 : ¬ k = j := by omega
              have g5 : ((k : Int) == (j : Int)) = false := by simp; omega
              clear hq
              clear hry hrz e2 e2'
              go_wp2_with fail
              go_quiet ((go_at_call 25; refine Calls.quiet_of (same_q HRY.out HRZ.out)))
              go_wp2_with fail
              go_roundw
              case rel => exact ⟨k + 1, by omega, by go_num, below_drewN HBr.out _⟩
              case measure => simp [intOf]; omega
          · obtain rfl : k = n + 1 := by omega
            go_wp2_with fail
            go_ret
            exact ⟨rfl, HBB.out.trans (HBr.out.mono HBB.out.size)⟩
      · have hz2 : (fe == 0) = false := by simpa using hz
        have hmm : m2 = m := by rw [HM2.out, if_neg hz]
        rw [hmm] at HPA
        clear hmm HM2
        go_wp2_with fail
        refine (items_any wA p _ vA xsA _ HPA.out).mono ?_
        rintro e wB ⟨uB, ysB, rfl, htB, hbB⟩
        have HTB := Lib.hid (HTA.out.below hbB)
        have HBB := Lib.hid (HBA.out.trans (hbB.mono HBA.out.size))
        have HUB := Lib.hid htB
        clear htB hbB
        obtain ⟨AB, cB, hue⟩ := HUB.out.open_
        rw [← HN1.out] at hue
        subst hue
        go_wp2_with fail
        refine (same8_any wB _ _ _ _ _ _ _ _ HUB.out HTB.out).mono ?_
        rw [sameT_self]
        rintro e wC ⟨rfl, hbC⟩
        have HBC := Lib.hid (HBB.out.trans (hbC.mono HBB.out.size))
        clear hbC
        go_wp2_with fail
        go_ret
        exact ⟨rfl, HBC.out⟩
theorem pageOrder_row (w : World) (sv : Value) (os : List PgOpV) (i : Int) (iv : Value) (l : List Nat) (hs : PgScript w sv os) (hi : (Lit.int .i64 i).wf = true) (hv : RB w w.heap.size iv l) (hb : l.length ≤ 140737488351232) :
    Calls Try.prog 7 #[sv, .int .i64 i, iv] w fun e w' => e = .returned (.bool true) ∧ Below w.heap.size w w' := pageOrder_any w sv os i iv l hs hv
end Go.Proofs.Ytknhlbbgjfcjaaa
