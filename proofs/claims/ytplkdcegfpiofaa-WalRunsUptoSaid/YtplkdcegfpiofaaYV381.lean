/-
  The walks of the log's ahead and Records; sort.Search at ahead's closure.
-/
import Derived.Test.YtplkdcegfpiofaaZV26
namespace Go.Proofs.Ytplkdcegfpiofaa
open Go.RowKit Go.Maps
set_option linter.unusedVariables false

theorem drewN_drewN (w : World) (a b : Nat) : (w.drewN a).drewN b = w.drewN (a + b) := by simp [World.drewN, Nat.add_assoc]
/-- Is the i-th record's LSN at x or behind it? -/
def LG.atLeast (m : LG) (x : Int) (i : Nat) : Bool := decide (x ≤ (m.lsn (m.begs.getD i 0) : Int))
set_option maxRecDepth 100000 in
theorem aheadF_any (w : World) (p g B b1 b2 : Nat) (sv bv : Value) (m : LG) (x : Int) (h : LogAt w p g B sv bv m) (h1 : Blk w b1 55 #[.pointer (some ⟨g, 0, none⟩)]) (h2 : Blk w b2 2 #[.int .i64 x]) (i : Nat) (hi : i < m.begs.length) :
    Calls Try.prog 119 #[.int .i64 (i : Int), .pointer (some ⟨b1, 0, none⟩), .pointer (some ⟨b2, 0, none⟩)] w fun e w' => e = .returned (.bool (m.atLeast x i)) ∧ Alike0 w w' := by
  obtain ⟨g2, c2, hbv, hcb⟩ := begs_cell h hi
  obtain ⟨k, hk⟩ : ∃ k, k = m.begs.getD i 0 := ⟨_, rfl⟩
  have hkb : k ≤ 4000000 := by
    have h3 : m.begs.getD i 0 = m.begs[i] := by simp [List.getD, hi]
    have h4 := h.ok.begs.2 _ (List.getElem_mem hi)
    have h5 := h.ok.num
    rw [hk, h3]; omega
  have hE : Hid (m.atLeast x i = decide (x ≤ (m.lsn k : Int))) := Lib.hid (by unfold LG.atLeast; rw [hk])
  rw [hE.out]
  rw [← hk] at hcb
  obtain ⟨nb, hnb⟩ : ∃ nb, nb = m.begs.length := ⟨_, rfl⟩
  rw [hbv] at h
  rw [← hnb] at h hi
  have a6 := h.blk.cell 6
  have q1 := h1.cell 0
  have q2 := h2.cell 0
  have H := Lib.hid h
  clear h h1 h2 hbv hk hnb
  go_enter Try.func119, Try.ntmps119
  go_wp2_with fail
  go_quiet ((go_at_call 79; exact Calls.quiet_of_same (lsn_any _ p g B _ _ m (H.out.below (below_drewN (Below.refl _ _) _)) k hkb)))
  go_wp2_with fail
  go_ret
  exact ⟨by first | rfl | simp, _, rfl⟩
set_option maxRecDepth 100000 in
set_option maxHeartbeats 1000000 in
theorem search_any (w : World) (p g B b1 b2 : Nat) (sv bv : Value) (m : LG) (x : Int) (h : LogAt w p g B sv bv m) (h1 : Blk w b1 55 #[.pointer (some ⟨g, 0, none⟩)]) (h2 : Blk w b2 2 #[.int .i64 x]) (hn : m.begs.length ≤ 3000000) (hmono : ∀ a b, a ≤ b → b < m.begs.length → m.atLeast x a = true → m.atLeast x b = true) :
    Calls Try.prog 118 #[.int .i64 (m.begs.length : Int), .func (.func 119) #[] #[.pointer (some ⟨b1, 0, none⟩), .pointer (some ⟨b2, 0, none⟩)]] w fun e w' => ∃ r : Nat, e = .returned (.int .i64 (r : Int)) ∧ r ≤ m.begs.length ∧ (∀ a, a < r → m.atLeast x a = false) ∧ (∀ a, r ≤ a → a < m.begs.length → m.atLeast x a = true) ∧ Alike0 w w' := by
  obtain ⟨n, hnn⟩ : ∃ n, n = m.begs.length := ⟨_, rfl⟩
  rw [← hnn] at hn hmono ⊢
  have HN := Lib.hid hnn
  have H := Lib.hid h
  have H1 := Lib.hid h1
  have H2 := Lib.hid h2
  have HM := Lib.hid hmono
  clear h h1 h2 hmono hnn
  go_enter Try.func118, Try.ntmps118
  go_wp2_with fail
  go_loopw [5, 6] (fun i j wr => ∃ a b : Nat, i = .int .i64 a ∧ j = .int .i64 b ∧ a ≤ b ∧ b ≤ n ∧ Hid (∀ c, c < a → m.atLeast x c = false) ∧ Hid (∀ c, b ≤ c → c < n → m.atLeast x c = true) ∧ Hid (Alike0 w wr)) (fun i j wr => (intOf j).toNat - (intOf i).toNat)
  case atStart => exact ⟨0, n, rfl, rfl, Nat.zero_le _, Nat.le_refl _, Lib.hid (by omega), Lib.hid (by omega), Lib.hid ⟨0, rfl⟩⟩
  case round =>
    obtain ⟨a, b, rfl, rfl, hab, hbn, HL, HG, HA⟩ := hrel
    by_cases hlt : a < b
    · obtain ⟨c, hc⟩ : ∃ c, c = (a + b) / 2 := ⟨_, rfl⟩
      have hc1 : a ≤ c := by omega
      have hc2 : c < b := by omega
      have hci : ((a : Int) + (b : Int)) / 2 = (c : Int) := by omega
      obtain ⟨q, hq⟩ := HA.out
      have HLW : Hid (LogAt wr p g B sv bv m) := Lib.hid (by rw [hq]; exact H.out.below (below_drewN (Below.refl _ _) q))
      have HQ := Lib.hid hq
      clear hc hq
      go_wp2_with fail
      refine (aheadF_any wr p g B b1 b2 sv bv m x HLW.out (by rw [HQ.out]; exact H1.out.drewN q) (by rw [HQ.out]; exact H2.out.drewN q) c (by rw [← HN.out]; omega)).mono ?_
      rintro e w2 ⟨rfl, q2, hq2⟩
      have HA2 : Hid (Alike0 w w2) := Lib.hid ⟨q + q2, by rw [hq2, HQ.out]; exact drewN_drewN _ _ _⟩
      clear hq2
      cases ht : m.atLeast x c with
      | true =>
        have HT := Lib.hid ht
        clear ht
        go_wp2_with fail
        go_roundw
        case rel => exact ⟨a, c, rfl, rfl, hc1, by omega, HL, Lib.hid (fun d hd1 hd2 => HM.out c d hd1 hd2 HT.out), HA2⟩
        case measure => simp [intOf]; omega
      | false =>
        have HT := Lib.hid ht
        clear ht
        go_wp2_with fail
        go_roundw
        case rel =>
          refine ⟨c + 1, b, by go_num, rfl, by omega, hbn, Lib.hid (fun d hd => ?_), HG, HA2⟩
          cases hd2 : m.atLeast x d with
          | false => rfl
          | true =>
            have := HM.out d c (by omega) (by omega) hd2
            rw [HT.out] at this
            cases this
        case measure => simp [intOf]; omega
    · obtain rfl : a = b := by omega
      go_wp2_with fail
      go_ret
      exact ⟨a, rfl, hbn, HL.out, HG.out, HA.out⟩
/-- Later records have higher LSNs. -/
theorem Recs.mono {m : LG} {rs : List RecT} (h : Recs m rs) (x : Int) : ∀ a b, a ≤ b → b < m.begs.length → m.atLeast x a = true → m.atLeast x b = true := by
  intro a b hab hb ha
  rw [h.begs_len] at hb
  have hg : ∀ i, i < rs.length → m.begs.getD i 0 = (strm (rs.take i)).length := by
    intro i hi
    have := begsAt_get rs 0 i hi
    rw [Nat.zero_add] at this
    rw [h.begs, List.getD, this]
    rfl
  unfold LG.atLeast at ha ⊢
  rw [hg a (by omega)] at ha
  rw [hg b hb]
  have h1 : (strm (rs.take a)).length ≤ (strm (rs.take b)).length := by
    have := strm_take_le (rs.take b) a
    rw [List.take_take, Nat.min_eq_left hab] at this
    exact this
  simp only [decide_eq_true_eq] at ha ⊢
  unfold LG.lsn at ha ⊢
  omega
set_option maxRecDepth 100000 in
set_option maxHeartbeats 1000000 in
theorem ahead_any (w : World) (p g B : Nat) (sv bv : Value) (m : LG) (x : Int) (h : LogAt w p g B sv bv m) (hn : m.begs.length ≤ 3000000) (hmono : ∀ a b, a ≤ b → b < m.begs.length → m.atLeast x a = true → m.atLeast x b = true) :
    Calls Try.prog 82 #[.pointer (some ⟨g, 0, none⟩), .int .i64 x] w fun e w' => ∃ r : Nat, e = .returned (.int .i64 (r : Int)) ∧ r ≤ m.begs.length ∧ (∀ a, a < r → m.atLeast x a = false) ∧ (∀ a, r ≤ a → a < m.begs.length → m.atLeast x a = true) ∧ Below w.heap.size w w' := by
  obtain ⟨Ab, cb, hbv⟩ := h.begins
  have hmf : ∀ (fn : Fn) (first cap : Array Value) (w : World), (Instr.makeFunc fn first cap).run Try.prog w = .ok (.func fn first cap) w := fun _ _ _ _ => rfl
  obtain ⟨W2, hW2⟩ : ∃ W2, W2 = (w.alloc (.cells #[.pointer (some ⟨g, 0, none⟩)] 55)).alloc (.cells #[.int .i64 x] 2) := ⟨_, rfl⟩
  have hb2 : Below w.heap.size w W2 := by rw [hW2]; exact ((Below.refl _ _).alloc (Nat.le_refl _) _).alloc (by simp) _
  have HL2 : Hid (LogAt W2 p g B sv bv m) := Lib.hid (h.below hb2)
  have HB2 := Lib.hid hb2
  have H1 : Hid (Blk W2 w.heap.size 55 #[.pointer (some ⟨g, 0, none⟩)]) := Lib.hid (by rw [hW2]; exact (Blk.new _ _ _).alloc _)
  have H2 : Hid (Blk W2 (w.heap.size + 1) 2 #[.int .i64 x]) := Lib.hid (by
    rw [hW2]
    have := Blk.new (w.alloc (.cells #[.pointer (some ⟨g, 0, none⟩)] 55)) 2 #[.int .i64 x]
    rw [size_alloc_] at this
    exact this)
  have a6 := h.blk.cell 6
  have hg := h.lt
  have HM := Lib.hid hmono
  have HN := Lib.hid hn
  rw [hbv] at a6
  rw [hW2] at HL2 H1 H2 HB2
  clear h hbv hmono hn hb2 hW2
  go_enter Try.func82, Try.ntmps82
  go_wp2_with fail
  refine (search_any _ p g B w.heap.size (w.heap.size + 1) sv bv m x HL2.out H1.out H2.out HN.out HM.out).mono ?_
  rintro e w3 ⟨r, rfl, h1, h2, h3, q, hq⟩
  have HR := Lib.hid (⟨h1, h2, h3⟩ : r ≤ m.begs.length ∧ (∀ a, a < r → m.atLeast x a = false) ∧ (∀ a, r ≤ a → a < m.begs.length → m.atLeast x a = true))
  have HB3 : Hid (Below w.heap.size w w3) := Lib.hid (by rw [hq]; exact below_drewN HB2.out q)
  clear h1 h2 h3 hq
  go_wp2_with fail
  go_ret
  exact ⟨r, rfl, HR.out.1, HR.out.2.1, HR.out.2.2, HB3.out⟩
set_option maxRecDepth 100000 in
theorem Records_own (w : World) (p g B : Nat) (sv bv : Value) (m : LG) (rs : List RecT) (x : Int) (h : LogAt w p g B sv bv m) (hr : Recs m rs) (hn : m.begs.length ≤ 900000) :
    Calls Try.prog 28 #[.pointer (some ⟨g, 0, none⟩), .int .i64 x] w fun e w' => ∃ (r : Nat) (v : Value), e = .returned v ∧ r ≤ m.begs.length ∧ (∀ a, a < r → m.atLeast x a = false) ∧ (∀ a, r ≤ a → a < m.begs.length → m.atLeast x a = true) ∧ RecsOwn w' w.heap.size v ((List.range (m.begs.length - r)).map (fun j => m.tell (r + j))) ∧ Below w.heap.size w w' := by
  have H := Lib.hid h
  have HM := Lib.hid (hr.mono x)
  have HN := Lib.hid hn
  clear h hr hn
  go_enter Try.func28, Try.ntmps28
  go_wp2_with fail
  refine (ahead_any w p g B sv bv m x H.out (by have := HN.out; omega) HM.out).mono ?_
  rintro e w2 ⟨r, rfl, h1, h2, h3, hb2⟩
  have HR := Lib.hid (⟨h1, h2, h3⟩ : r ≤ m.begs.length ∧ (∀ a, a < r → m.atLeast x a = false) ∧ (∀ a, r ≤ a → a < m.begs.length → m.atLeast x a = true))
  have HB2 := Lib.hid hb2
  clear h1 h2 h3 hb2
  go_wp2_with fail
  refine (recordsOf_own w2 p g B sv bv m (H.out.below HB2.out) r HR.out.1 HN.out).mono ?_
  rintro e w3 ⟨v3, rfl, hr3, hb3⟩
  have hr3' := hr3.at_
  have HR3 : Hid (RecsOwn w3 w.heap.size v3 ((List.range (m.begs.length - r)).map (fun j => m.tell (r + j)))) := Lib.hid (hr3.mono_ HB2.out.size)
  have HB3 : Hid (Below w.heap.size w w3) := Lib.hid (HB2.out.trans (hb3.mono HB2.out.size))
  have hform : ∃ A n c, v3 = .slice A n c := by
    obtain ⟨xs, h1, _⟩ := hr3'
    obtain ⟨A, c, e, _⟩ := h1.open_
    exact ⟨_, _, _, e⟩
  obtain ⟨A3, n3, c3, rfl⟩ := hform
  clear hr3 hr3' hb3
  go_wp2_with fail
  go_ret
  exact ⟨r, _, rfl, HR.out.1, HR.out.2.1, HR.out.2.2, HR3.out, HB3.out⟩
theorem Records_any (w : World) (p g B : Nat) (sv bv : Value) (m : LG) (rs : List RecT) (x : Int) (h : LogAt w p g B sv bv m) (hr : Recs m rs) (hn : m.begs.length ≤ 900000) :
    Calls Try.prog 28 #[.pointer (some ⟨g, 0, none⟩), .int .i64 x] w fun e w' => ∃ (r : Nat) (v : Value), e = .returned v ∧ r ≤ m.begs.length ∧ (∀ a, a < r → m.atLeast x a = false) ∧ (∀ a, r ≤ a → a < m.begs.length → m.atLeast x a = true) ∧ RecsAt w' v ((List.range (m.begs.length - r)).map (fun j => m.tell (r + j))) ∧ Below w.heap.size w w' :=
  (Records_own w p g B sv bv m rs x h hr hn).mono fun e w' ⟨r, v, h1, h2, h3, h4, h5, h6⟩ => ⟨r, v, h1, h2, h3, h4, h5.at_, h6⟩
/-- Records(0) tells all. -/
theorem Records_all_own (w : World) (p g B : Nat) (sv bv : Value) (m : LG) (rs : List RecT) (h : LogAt w p g B sv bv m) (hr : Recs m rs) (hn : m.begs.length ≤ 900000) :
    Calls Try.prog 28 #[.pointer (some ⟨g, 0, none⟩), .int .i64 0] w fun e w' => ∃ A n c, e = .returned (.slice A n c) ∧ n = rs.length ∧ RecsOwn w' w.heap.size (.slice A n c) (toldOf m rs) ∧ Below w.heap.size w w' := by
  refine (Records_own w p g B sv bv m rs 0 h hr hn).mono ?_
  rintro e w' ⟨r, v, rfl, h1, h2, h3, h4, h5⟩
  have hr0 : r = 0 := by
    cases r with
    | zero => rfl
    | succ r =>
      have := h2 0 (by omega)
      unfold LG.atLeast at this
      simp at this
  subst hr0
  have hts : (List.range (m.begs.length - 0)).map (fun j => m.tell (0 + j)) = toldOf m rs := by
    rw [← hr.tells]
    unfold LG.tells
    rw [Nat.sub_zero]
    congr 1
    funext j
    rw [Nat.zero_add]
  rw [hts] at h4
  obtain ⟨xs, k1, k2, k3⟩ := h4
  obtain ⟨A, c, e, _⟩ := (k1.rk encRec_len (Nat.le_refl _)).open_
  subst e
  refine ⟨_, _, _, rfl, ?_, ⟨xs, k1, k2, k3⟩, h5⟩
  have := congrArg List.length k3
  unfold toldOf at this
  simpa using this
theorem Records_all (w : World) (p g B : Nat) (sv bv : Value) (m : LG) (rs : List RecT) (h : LogAt w p g B sv bv m) (hr : Recs m rs) (hn : m.begs.length ≤ 900000) :
    Calls Try.prog 28 #[.pointer (some ⟨g, 0, none⟩), .int .i64 0] w fun e w' => ∃ A n c, e = .returned (.slice A n c) ∧ n = rs.length ∧ RecsAt w' (.slice A n c) (toldOf m rs) ∧ Below w.heap.size w w' :=
  (Records_all_own w p g B sv bv m rs h hr hn).mono fun e w' ⟨A, n, c, h1, h2, h3, h4⟩ => ⟨A, n, c, h1, h2, h3.at_, h4⟩
end Go.Proofs.Ytplkdcegfpiofaa
