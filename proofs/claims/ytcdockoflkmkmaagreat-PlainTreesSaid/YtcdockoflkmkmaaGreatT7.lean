/-
  The walk of skeinlaw06's PlainTrees.
-/
import Derived.Test.YtcdockoflkmkmaaGreatT6
import Derived.Test.YtcdockoflkmkmaaGreatT1
namespace Go.Proofs.YtcdockoflkmkmaaGreat
open Go.RowKit
set_option linter.unusedVariables false

theorem chk_no {V : List Int} {E : List Ed} {vs : List Int} (h : rightN V E = true) {x : Int} (hx : x ∈ vs) (hn : x ∉ V) : chkV V E vs = 51 := by
  unfold chkV
  rw [if_pos h, if_neg]
  intro h2
  have := List.all_eq_true.1 h2 x hx
  exact hn (by simpa using this)

/-- How the lists are counted on. -/
structure TrAt (ls : List (List Int)) (u v : Int) (n : Nat) (A B : Int) (k cn : Nat) (a b : Int) : Prop where
  cnt : cn + lens (ls.drop k) = n
  fa : posL u (ls.drop k) k a = A
  fb : posL v (ls.drop k) k b = B
/-- .. within the list t of place k. -/
structure TrIn (ls : List (List Int)) (t : List Int) (u v : Int) (n : Nat) (A B : Int) (k j cn : Nat) (a b : Int) : Prop where
  cnt : cn + ((t.length - j) + lens (ls.drop (k + 1))) = n
  fa : posL u (ls.drop (k + 1)) (k + 1) (if (t.drop j).contains u then (k : Int) else a) = A
  fb : posL v (ls.drop (k + 1)) (k + 1) (if (t.drop j).contains v then (k : Int) else b) = B
section
variable {ls : List (List Int)} {t : List Int} {u v : Int} {n : Nat} {A B : Int} {k j cn : Nat} {a b : Int}
theorem TrAt.enter (h : TrAt ls u v n A B k cn a b) (ht : ls[k]? = some t) : TrIn ls t u v n A B k 0 cn a b := by
  obtain ⟨hk, rfl⟩ := List.getElem?_eq_some_iff.1 ht
  obtain ⟨h1, h2, h3⟩ := h
  rw [List.drop_eq_getElem_cons hk] at h1 h2 h3
  exact ⟨h1, h2, h3⟩
theorem TrIn.leave (h : TrIn ls t u v n A B k t.length cn a b) : TrAt ls u v n A B (k + 1) cn a b := by
  obtain ⟨h1, h2, h3⟩ := h
  rw [List.drop_eq_nil_of_le (Nat.le_refl _)] at h2 h3
  exact ⟨by omega, h2, h3⟩
theorem TrIn.next (h : TrIn ls t u v n A B k j cn a b) {x : Int} (hx : t[j]? = some x) (z : Int) (hz : (k : Int) = z) : TrIn ls t u v n A B k (j + 1) (cn + 1) (if (x == u) = true then z else a) (if (x == v) = true then z else b) := by
  subst hz
  simp only [beq_iff_eq]
  obtain ⟨hj, rfl⟩ := List.getElem?_eq_some_iff.1 hx
  obtain ⟨h1, h2, h3⟩ := h
  have key : ∀ (y z : Int), (if (t.drop j).contains y then (k : Int) else z) = if (t.drop (j + 1)).contains y then (k : Int) else (if t[j] = y then (k : Int) else z) := by
    intro y z
    rw [List.drop_eq_getElem_cons hj]
    by_cases h1 : t[j] = y
    · rw [if_pos h1, if_pos (by simp [h1])]; simp
    · rw [if_neg h1]
      have : ((t[j] :: t.drop (j + 1)).contains y) = (t.drop (j + 1)).contains y := by
        have h4 : (y == t[j]) = false := by simpa using fun e => h1 e.symm
        simp only [List.contains_cons, h4, Bool.false_or]
      rw [this]
  rw [key] at h2 h3
  exact ⟨by omega, h2, h3⟩
theorem TrIn.le (h : TrIn ls t u v n A B k j cn a b) : cn ≤ n := by have := h.cnt; omega
theorem TrAt.done (h : TrAt ls u v n A B ls.length cn a b) : cn = n ∧ a = A ∧ b = B := by
  obtain ⟨h1, h2, h3⟩ := h
  rw [List.drop_eq_nil_of_le (Nat.le_refl _)] at h1 h2 h3
  exact ⟨by simpa using h1, h2, h3⟩
end

theorem plainTrees_no (sv se : Value) (V : List Int) (E : List Ed) (u v : Int) (w : World) (hv : RI w w.heap.size sv V) (he : RE w w.heap.size se E) (hr : rightN V E = false) :
    Calls Tryz.prog 7 #[netV sv se, .int .i64 u, .int .i64 v] w fun e w' => e = .returned (.bool true) ∧ Below w.heap.size w w' := by
  have HV := Lib.hid hv
  have HE := Lib.hid he
  clear hv he
  go_enter Tryz.func7, Tryz.ntmps7
  go_wp2_with fail
  refine (alive_any _).mono ?_
  rintro e w1 ⟨rfl, hb⟩
  have b0 : w1.cell? ⟨w.heap.size, 0, none⟩ = some sv := (hb.cell (p := ⟨w.heap.size, 0, none⟩) (by show w.heap.size < _; simp)).trans (by simp)
  have b1 : w1.cell? ⟨w.heap.size, 1, none⟩ = some se := (hb.cell (p := ⟨w.heap.size, 1, none⟩) (by show w.heap.size < _; simp)).trans (by simp)
  have HB1 : Hid (Below w.heap.size w w1) := ((Below.refl _ _).alloc (Nat.le_refl _) _).trans (hb.mono (by simp))
  clear hb
  go_wp2_with fail
  refine (trees_no _ _ V E _ w.heap.size (HV.out.below HB1.out) (HE.out.below HB1.out) HB1.out.size hr).mono ?_
  rintro e w2 ⟨rfl, hb⟩
  have HB2 : Hid (Below w.heap.size w w2) := HB1.out.trans (hb.mono HB1.out.size)
  clear hb b0 b1
  go_wp2_with fail
  go_ret
  exact ⟨rfl, HB2.out⟩

set_option maxRecDepth 100000 in
set_option maxHeartbeats 8000000 in
theorem plainTrees_yes (sv se : Value) (V : List Int) (E : List Ed) (u v : Int) (w : World) (hv : RI w w.heap.size sv V) (he : RE w w.heap.size se E) (hr : rightN V E = true) :
    Calls Tryz.prog 7 #[netV sv se, .int .i64 u, .int .i64 v] w fun e w' => e = .returned (.bool true) ∧ Below w.heap.size w w' := by
  have HV := Lib.hid hv
  have HE := Lib.hid he
  have HR : Hid (Right V E) := right_of hr
  have HP := Lib.hid (parts_of HR.out)
  obtain ⟨Av, cv, rfl, hv1, hv2, hv3, _⟩ := hv.open_
  clear hv he
  obtain ⟨n, hn⟩ : ∃ n, n = V.length := ⟨_, rfl⟩
  rw [← hn] at hv1 hv3 HV ⊢
  have HN := Lib.hid hn
  clear hn
  go_enter Tryz.func7, Tryz.ntmps7
  go_wp2_with fail
  refine (alive_any _).mono ?_
  rintro e w1 ⟨rfl, hb⟩
  have b0 : w1.cell? ⟨w.heap.size, 0, none⟩ = some (.slice Av n cv) := (hb.cell (p := ⟨w.heap.size, 0, none⟩) (by show w.heap.size < _; simp)).trans (by simp)
  have b1 : w1.cell? ⟨w.heap.size, 1, none⟩ = some se := (hb.cell (p := ⟨w.heap.size, 1, none⟩) (by show w.heap.size < _; simp)).trans (by simp)
  have HB1 : Hid (Below w.heap.size w w1) := ((Below.refl _ _).alloc (Nat.le_refl _) _).trans (hb.mono (by simp))
  have hz1 := hb.size
  simp only [World.alloc, Array.size_push] at hz1
  clear hb
  go_wp2_with fail
  refine (trees_ok _ _ V E _ w.heap.size (HV.out.below HB1.out) (HE.out.below HB1.out) HB1.out.size hr).mono ?_
  rintro e w2 ⟨lv, rfl, hl, hb⟩
  have c0 : w2.cell? ⟨w.heap.size, 0, none⟩ = some (.slice Av n cv) := (hb.cell (p := ⟨w.heap.size, 0, none⟩) (by show w.heap.size < _; omega)).trans b0
  have c1 : w2.cell? ⟨w.heap.size, 1, none⟩ = some se := (hb.cell (p := ⟨w.heap.size, 1, none⟩) (by show w.heap.size < _; omega)).trans b1
  have HB2 : Hid (Below w.heap.size w w2) := HB1.out.trans (hb.mono HB1.out.size)
  have hz2 := hb.size
  clear hb b0 b1
  obtain ⟨Al, cl, rfl, hl1, hl2, hl3, HC⟩ := hl.open_
  clear hl
  obtain ⟨ls, hls⟩ : ∃ ls, ls = treesL V E := ⟨_, rfl⟩
  rw [← hls] at HP HC hl1 hl3 ⊢
  clear hls
  obtain ⟨m, hm⟩ : ∃ m, m = ls.length := ⟨_, rfl⟩
  rw [← hm] at hl1 hl3 ⊢
  have HM := Lib.hid hm
  clear hm
  by_cases hbig : 100 < n
  · go_wp2_with fail
    go_ret
    exact ⟨rfl, HB2.out⟩
  have hvr : Hid (RI w2 w.heap.size (.slice Av n cv) V) := HV.out.below HB2.out
  have hst : Hid (TrAt ls u v n (posL u ls 0 (-1)) (posL v ls 0 (-1)) 0 0 (-1) (-1)) := ⟨by rw [HN.out, List.drop_zero, HP.out.count]; omega, rfl, rfl⟩
  obtain ⟨A, hA⟩ : ∃ A, A = posL u ls 0 (-1) := ⟨_, rfl⟩
  obtain ⟨B, hB⟩ : ∃ B, B = posL v ls 0 (-1) := ⟨_, rfl⟩
  rw [← hA, ← hB] at hst
  have HA := Lib.hid hA
  have HBv := Lib.hid hB
  clear hA hB
  go_wp2_with fail
  go_loop [9, 10, 11, 40] (fun c a b i => ∃ (k cn : Nat) (a' b' : Int), k ≤ m ∧ cn ≤ n ∧ c = .int .i64 cn ∧ a = .int .i64 a' ∧ b = .int .i64 b' ∧ i = .int .i64 k ∧ Hid (TrAt ls u v n A B k cn a' b')) (fun _ _ _ i => m - (intOf i).toNat)
  case atStart => exact ⟨0, 0, -1, -1, Nat.zero_le _, Nat.zero_le _, rfl, rfl, rfl, rfl, hst⟩
  case round =>
    obtain ⟨k, cn, a', b', hk, hcn, rfl, rfl, rfl, rfl, HT⟩ := hrel
    by_cases hlt : k < m
    · obtain ⟨b, o, s, rfl, hbl, hcs, hrs⟩ := HC.out k (by have := HM.out; omega)
      obtain ⟨t, ht⟩ : ∃ t, t = ls[k]'(by have := HM.out; omega) := ⟨_, rfl⟩
      have htk : ls[k]? = some t := by rw [ht]; exact List.getElem?_eq_getElem _
      rw [← ht] at hrs
      clear ht
      obtain ⟨At, ct, rfl, ht1, ht2, ht3, HCt⟩ := hrs.open_
      clear hrs
      have hsub := HP.out.sub htk
      have hwith := HP.out.within htk
      have hpos := HP.out.nonempty htk
      have HIN := Lib.hid (HT.out.enter htk)
      have HSub := Lib.hid hsub
      have HWith := Lib.hid hwith
      have HTk := Lib.hid htk
      clear HT hsub hwith htk
      obtain ⟨l, hl⟩ : ∃ l, l = t.length := ⟨_, rfl⟩
      rw [← hl] at ht1 ht3 hpos hcs
      have HL := Lib.hid hl
      clear hl
      by_cases hkp : 0 < k
      · obtain ⟨k1, rfl⟩ : ∃ k1, k = k1 + 1 := ⟨k - 1, by omega⟩
        obtain ⟨b9, o9, s9, e9, hb9, hc9, hr9⟩ := HC.out k1 (by have := HM.out; omega)
        obtain ⟨rfl, rfl⟩ : b = b9 ∧ o = o9 := by injection e9 with e9; injection e9 with e1 e2; exact ⟨e1, e2⟩
        obtain ⟨t9, ht9⟩ : ∃ t, t = ls[k1]'(by have := HM.out; omega) := ⟨_, rfl⟩
        have htk9 : ls[k1]? = some t9 := by rw [ht9]; exact List.getElem?_eq_getElem _
        rw [← ht9] at hr9
        obtain ⟨x9, x0, g9, g0, hx9⟩ := HP.out.heads htk9 HTk.out
        obtain ⟨A9, c9, rfl, h91, h92, h93, HC9⟩ := hr9.open_
        obtain ⟨hl9, hg9⟩ := List.getElem?_eq_some_iff.1 g9
        obtain ⟨b8, o8, rfl, hb8, hx8⟩ := HC9.out 0 hl9
        rw [hg9] at hx8
        have hx8 := cellI hx8
        rw [Nat.add_zero] at hx8
        obtain ⟨l9, hl9e⟩ : ∃ l9, l9 = t9.length := ⟨_, rfl⟩
        rw [← hl9e] at h91 h93 hl9 hc9
        have HX0 : Hid (t[0]? = some x0) := g0
        clear HC9 e9 hl9e g9 g0 hg9 htk9 ht9 hr9
        go_wp2_with fail
        go_loop [9, 10, 11, 47] (fun c a b i => ∃ (j cn : Nat) (a' b' : Int), j ≤ l ∧ cn ≤ n ∧ c = .int .i64 cn ∧ a = .int .i64 a' ∧ b = .int .i64 b' ∧ i = .int .i64 j ∧ Hid (TrIn ls t u v n A B (k1 + 1) j cn a' b')) (fun _ _ _ i => l - (intOf i).toNat)
        case atStart => exact ⟨0, cn, a', b', Nat.zero_le _, hcn, rfl, rfl, rfl, rfl, HIN⟩
        case round =>
          obtain ⟨j, cn1, a1, b1, hj, hcn1, rfl, rfl, rfl, rfl, HT1⟩ := hrel
          by_cases hjl : j < l
          · obtain ⟨bt, ot, rfl, hbt, hxc⟩ := HCt.out j (by have := HL.out; omega)
            obtain ⟨x, hx⟩ : ∃ x, x = t[j]'(by have := HL.out; omega) := ⟨_, rfl⟩
            have hxj : t[j]? = some x := by rw [hx]; exact List.getElem?_eq_getElem _
            have hxm : x ∈ t := by rw [hx]; exact List.getElem_mem _
            rw [← hx] at hxc
            have hxc := cellI hxc
            clear hx
            have HXV : Hid (V.contains x = true) := by show _ = _; simpa using HSub.out x hxm
            have HN1 := Lib.hid (HT1.out.next hxj ((k1 : Int) + 1) (by omega))
            have hcn2 : cn1 + 1 ≤ n := HN1.out.le
            have HXJ := Lib.hid hxj
            clear HT1 hxm hxj
            by_cases hjp : 0 < j
            · obtain ⟨j1, rfl⟩ : ∃ j1, j = j1 + 1 := ⟨j - 1, by omega⟩
              obtain ⟨b7, o7, e7, hb7, hx7⟩ := HCt.out j1 (by have := HL.out; omega)
              obtain ⟨rfl, rfl⟩ : bt = b7 ∧ ot = o7 := by injection e7 with e7; injection e7 with e1 e2; exact ⟨e1, e2⟩
              obtain ⟨y, hy⟩ : ∃ y, y = t[j1]'(by have := HL.out; omega) := ⟨_, rfl⟩
              have hyx : y < x := by
                have h1 := List.pairwise_iff_getElem.1 HWith.out j1 (j1 + 1) (by have := HL.out; omega) (by have := HL.out; omega) (by omega)
                obtain ⟨h2, h3⟩ := List.getElem?_eq_some_iff.1 HXJ.out
                rw [h3, ← hy] at h1; exact h1
              rw [← hy] at hx7
              have hx7 := cellI hx7
              clear hy e7
              clear HXJ
              go_wp2_with (go_at_call 30; refine (Has_any _ V x true HXV.out _ _ hvr.out).mono ?_; rintro e w' ⟨rfl, rfl⟩)
              all_goals
                go_round
                case rel => exact ⟨j1 + 1 + 1, cn1 + 1, _, _, by omega, hcn2, by go_num, rfl, rfl, by go_num, by have := HN1.out; first | (rw [if_pos (show (x == u) = true by assumption), if_pos (show (x == v) = true by assumption)] at this; exact this) | (rw [if_pos (show (x == u) = true by assumption), if_neg (by rw [show (x == v) = false by assumption]; decide)] at this; exact this) | (rw [if_neg (by rw [show (x == u) = false by assumption]; decide), if_pos (show (x == v) = true by assumption)] at this; exact this) | (rw [if_neg (by rw [show (x == u) = false by assumption]; decide), if_neg (by rw [show (x == v) = false by assumption]; decide)] at this; exact this)⟩
                case measure => simp [intOf]; omega
            · have hx98 : x9 < x := by have h1 := HX0.out; have h2 := HXJ.out; obtain rfl : j = 0 := (by omega); rw [h1] at h2; injection h2 with h2; omega
              clear HXJ
              go_wp2_with (go_at_call 30; refine (Has_any _ V x true HXV.out _ _ hvr.out).mono ?_; rintro e w' ⟨rfl, rfl⟩)
              all_goals
                go_round
                case rel => exact ⟨j + 1, cn1 + 1, _, _, by omega, hcn2, by go_num, rfl, rfl, by go_num, by have := HN1.out; first | (rw [if_pos (show (x == u) = true by assumption), if_pos (show (x == v) = true by assumption)] at this; exact this) | (rw [if_pos (show (x == u) = true by assumption), if_neg (by rw [show (x == v) = false by assumption]; decide)] at this; exact this) | (rw [if_neg (by rw [show (x == u) = false by assumption]; decide), if_pos (show (x == v) = true by assumption)] at this; exact this) | (rw [if_neg (by rw [show (x == u) = false by assumption]; decide), if_neg (by rw [show (x == v) = false by assumption]; decide)] at this; exact this)⟩
                case measure => simp [intOf]; omega
          · obtain rfl : j = l := by omega
            have HL2 : Hid (TrAt ls u v n A B (k1 + 1 + 1) cn1 a1 b1) := by have := HT1.out; rw [HL.out] at this; exact this.leave
            clear HT1
            go_wp2_with fail
            go_round
            case rel => exact ⟨k1 + 1 + 1, cn1, a1, b1, by omega, hcn1, rfl, rfl, rfl, by go_num, HL2⟩
            case measure => simp [intOf]; omega
      · skip
        go_wp2_with fail
        go_loop [9, 10, 11, 47] (fun c a b i => ∃ (j cn : Nat) (a' b' : Int), j ≤ l ∧ cn ≤ n ∧ c = .int .i64 cn ∧ a = .int .i64 a' ∧ b = .int .i64 b' ∧ i = .int .i64 j ∧ Hid (TrIn ls t u v n A B (k) j cn a' b')) (fun _ _ _ i => l - (intOf i).toNat)
        case atStart => exact ⟨0, cn, a', b', Nat.zero_le _, hcn, rfl, rfl, rfl, rfl, HIN⟩
        case round =>
          obtain ⟨j, cn1, a1, b1, hj, hcn1, rfl, rfl, rfl, rfl, HT1⟩ := hrel
          by_cases hjl : j < l
          · obtain ⟨bt, ot, rfl, hbt, hxc⟩ := HCt.out j (by have := HL.out; omega)
            obtain ⟨x, hx⟩ : ∃ x, x = t[j]'(by have := HL.out; omega) := ⟨_, rfl⟩
            have hxj : t[j]? = some x := by rw [hx]; exact List.getElem?_eq_getElem _
            have hxm : x ∈ t := by rw [hx]; exact List.getElem_mem _
            rw [← hx] at hxc
            have hxc := cellI hxc
            clear hx
            have HXV : Hid (V.contains x = true) := by show _ = _; simpa using HSub.out x hxm
            have HN1 := Lib.hid (HT1.out.next hxj _ rfl)
            have hcn2 : cn1 + 1 ≤ n := HN1.out.le
            have HXJ := Lib.hid hxj
            clear HT1 hxm hxj
            by_cases hjp : 0 < j
            · obtain ⟨j1, rfl⟩ : ∃ j1, j = j1 + 1 := ⟨j - 1, by omega⟩
              obtain ⟨b7, o7, e7, hb7, hx7⟩ := HCt.out j1 (by have := HL.out; omega)
              obtain ⟨rfl, rfl⟩ : bt = b7 ∧ ot = o7 := by injection e7 with e7; injection e7 with e1 e2; exact ⟨e1, e2⟩
              obtain ⟨y, hy⟩ : ∃ y, y = t[j1]'(by have := HL.out; omega) := ⟨_, rfl⟩
              have hyx : y < x := by
                have h1 := List.pairwise_iff_getElem.1 HWith.out j1 (j1 + 1) (by have := HL.out; omega) (by have := HL.out; omega) (by omega)
                obtain ⟨h2, h3⟩ := List.getElem?_eq_some_iff.1 HXJ.out
                rw [h3, ← hy] at h1; exact h1
              rw [← hy] at hx7
              have hx7 := cellI hx7
              clear hy e7
              clear HXJ
              go_wp2_with (go_at_call 30; refine (Has_any _ V x true HXV.out _ _ hvr.out).mono ?_; rintro e w' ⟨rfl, rfl⟩)
              all_goals
                go_round
                case rel => exact ⟨j1 + 1 + 1, cn1 + 1, _, _, by omega, hcn2, by go_num, rfl, rfl, by go_num, by have := HN1.out; first | (rw [if_pos (show (x == u) = true by assumption), if_pos (show (x == v) = true by assumption)] at this; exact this) | (rw [if_pos (show (x == u) = true by assumption), if_neg (by rw [show (x == v) = false by assumption]; decide)] at this; exact this) | (rw [if_neg (by rw [show (x == u) = false by assumption]; decide), if_pos (show (x == v) = true by assumption)] at this; exact this) | (rw [if_neg (by rw [show (x == u) = false by assumption]; decide), if_neg (by rw [show (x == v) = false by assumption]; decide)] at this; exact this)⟩
                case measure => simp [intOf]; omega
            · skip
              clear HXJ
              go_wp2_with (go_at_call 30; refine (Has_any _ V x true HXV.out _ _ hvr.out).mono ?_; rintro e w' ⟨rfl, rfl⟩)
              all_goals
                go_round
                case rel => exact ⟨j + 1, cn1 + 1, _, _, by omega, hcn2, by go_num, rfl, rfl, by go_num, by have := HN1.out; first | (rw [if_pos (show (x == u) = true by assumption), if_pos (show (x == v) = true by assumption)] at this; exact this) | (rw [if_pos (show (x == u) = true by assumption), if_neg (by rw [show (x == v) = false by assumption]; decide)] at this; exact this) | (rw [if_neg (by rw [show (x == u) = false by assumption]; decide), if_pos (show (x == v) = true by assumption)] at this; exact this) | (rw [if_neg (by rw [show (x == u) = false by assumption]; decide), if_neg (by rw [show (x == v) = false by assumption]; decide)] at this; exact this)⟩
                case measure => simp [intOf]; omega
          · obtain rfl : j = l := by omega
            have HL2 : Hid (TrAt ls u v n A B (k + 1) cn1 a1 b1) := by have := HT1.out; rw [HL.out] at this; exact this.leave
            clear HT1
            go_wp2_with fail
            go_round
            case rel => exact ⟨k + 1, cn1, a1, b1, by omega, hcn1, rfl, rfl, rfl, by go_num, HL2⟩
            case measure => simp [intOf]; omega
    · obtain rfl : k = m := by omega
      obtain ⟨h1, h2, h3⟩ : cn = n ∧ a' = A ∧ b' = B := by have := HT.out; rw [HM.out] at this; exact this.done
      rw [h1, h2, h3]
      clear h1 h2 h3 HT
      by_cases huV : u ∈ V
      · obtain ⟨p, hp1, _⟩ := HP.out.find huV
        have hAp : A = (p : Int) := HA.out.trans hp1
        by_cases hvV : v ∈ V
        · have HC0 : Hid (chkV V E [u, v] = 0) := chk_yes hr (by intro z hz; simp at hz; rcases hz with rfl | rfl <;> assumption)
          obtain ⟨q, hq1, _⟩ := HP.out.find hvV
          have hBq : B = (q : Int) := HBv.out.trans hq1
          have hsame := HP.out.same huV hvV
          rw [hp1, hq1] at hsame
          rw [hAp, hBq]
          clear hp1 hq1 hAp hBq HA HBv
          by_cases hpq : p = q
          · have HJ : Hid (joinedB V E u v = true) := by
              unfold joinedB
              show _ = _
              rw [decide_eq_true_iff]; exact hsame.1 (by omega)
            clear hsame
            subst hpq
            go_wp2_with fail
            refine (Joined_ok _ _ V E u v _ w.heap.size (HV.out.below HB2.out) (HE.out.below HB2.out) HB2.out.size HC0.out).mono ?_
            rw [HJ.out]
            rintro e w3 ⟨rfl, hb⟩
            have d0 : w3.cell? ⟨w.heap.size, 0, none⟩ = some (.slice Av n cv) := (hb.cell (p := ⟨w.heap.size, 0, none⟩) (by show w.heap.size < _; omega)).trans c0
            have HB3 : Hid (Below w.heap.size w w3) := HB2.out.trans (hb.mono HB2.out.size)
            clear hb c0 c1
            go_wp2_with fail
            go_ret
            exact ⟨rfl, HB3.out⟩
          · have HJ : Hid (joinedB V E u v = false) := by
              unfold joinedB
              show _ = _
              rw [decide_eq_false_iff_not]; intro h; have := hsame.2 h; omega
            clear hsame
            go_wp2_with fail
            refine (Joined_ok _ _ V E u v _ w.heap.size (HV.out.below HB2.out) (HE.out.below HB2.out) HB2.out.size HC0.out).mono ?_
            rw [HJ.out]
            rintro e w3 ⟨rfl, hb⟩
            have d0 : w3.cell? ⟨w.heap.size, 0, none⟩ = some (.slice Av n cv) := (hb.cell (p := ⟨w.heap.size, 0, none⟩) (by show w.heap.size < _; omega)).trans c0
            have HB3 : Hid (Below w.heap.size w w3) := HB2.out.trans (hb.mono HB2.out.size)
            clear hb c0 c1
            go_wp2_with fail
            go_ret
            refine ⟨?_, HB3.out⟩
            have hpe : ((p : Int) == (q : Int)) = false := by simpa using (show ¬ (p : Int) = (q : Int) by omega)
            show Ending.returned (.bool (!((p : Int) == (q : Int)))) = _
            rw [hpe]; rfl
        · have HC0 : Hid (chkV V E [u, v] = 51) := chk_no hr (x := v) (by simp) hvV
          have hBq : B = -1 := HBv.out.trans (HP.out.lost hvV)
          rw [hAp, hBq]
          clear hp1 hAp hBq HA HBv
          go_wp2_with fail
          refine (Joined_no _ _ V E u v 51 _ w.heap.size (HV.out.below HB2.out) (HE.out.below HB2.out) HB2.out.size HC0.out (by decide)).mono ?_
          rintro e w3 ⟨rfl, hb⟩
          have d0 : w3.cell? ⟨w.heap.size, 0, none⟩ = some (.slice Av n cv) := (hb.cell (p := ⟨w.heap.size, 0, none⟩) (by show w.heap.size < _; omega)).trans c0
          have HB3 : Hid (Below w.heap.size w w3) := HB2.out.trans (hb.mono HB2.out.size)
          clear hb c0 c1
          go_wp2_with fail
          go_ret
          exact ⟨rfl, HB3.out⟩
      · have HC0 : Hid (chkV V E [u, v] = 51) := chk_no hr (x := u) (by simp) huV
        have hAp : A = -1 := HA.out.trans (HP.out.lost huV)
        rw [hAp]
        clear hAp HA HBv
        go_wp2_with fail
        refine (Joined_no _ _ V E u v 51 _ w.heap.size (HV.out.below HB2.out) (HE.out.below HB2.out) HB2.out.size HC0.out (by decide)).mono ?_
        rintro e w3 ⟨rfl, hb⟩
        have d0 : w3.cell? ⟨w.heap.size, 0, none⟩ = some (.slice Av n cv) := (hb.cell (p := ⟨w.heap.size, 0, none⟩) (by show w.heap.size < _; omega)).trans c0
        have HB3 : Hid (Below w.heap.size w w3) := HB2.out.trans (hb.mono HB2.out.size)
        clear hb c0 c1
        go_wp2_with fail
        go_ret
        exact ⟨rfl, HB3.out⟩

theorem plainTrees_walk (sv se : Value) (V : List Int) (E : List Ed) (u v : Int) (w : World) (hv : RI w w.heap.size sv V) (he : RE w w.heap.size se E) (hu : (Lit.int .i64 u).wf = true) (hv' : (Lit.int .i64 v).wf = true) :
    Calls Tryz.prog 7 #[netV sv se, .int .i64 u, .int .i64 v] w fun e w' => e = .returned (.bool true) ∧ Below w.heap.size w w' := by
  cases hr : rightN V E with
  | false => exact plainTrees_no sv se V E u v w hv he hr
  | true => exact plainTrees_yes sv se V E u v w hv he hr
end Go.Proofs.YtcdockoflkmkmaaGreat
