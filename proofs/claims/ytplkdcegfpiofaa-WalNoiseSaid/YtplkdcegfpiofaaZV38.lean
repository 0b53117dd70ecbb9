/-
  The walks of the log's ahead and Records; sort.Search at ahead's closure.
-/
import Derived.Test.YtplkdcegfpiofaaZV26
import Derived.Test.YtplkdcegfpiofaaZV31
import Derived.Test.YtplkdcegfpiofaaYV291
namespace Go.Proofs.Ytplkdcegfpiofaa
open Go.RowKit Go.Maps
set_option linter.unusedVariables false

theorem drewN_drewN (w : World) (a b : Nat) : (w.drewN a).drewN b = w.drewN (a + b) := by simp [World.drewN, Nat.add_assoc]
/-- Is the i-th record's LSN at x or behind it? -/
def LG.atLeast (m : LG) (x : Int) (i : Nat) : Bool := decide (x ≤ (m.lsn (m.begs.getD i 0) : Int))
set_option maxRecDepth 100000 in
theorem aheadF_any (w : World) (p g B b1 b2 : Nat) (sv bv : Value) (m : LG) (x : Int) (h : LogAt w p g B sv bv m) (h1 : Blk w b1 55 #[.pointer (some ⟨g, 0, none⟩)]) (h2 : Blk w b2 2 #[.int .i64 x]) (i : Nat) (hi : i < m.begs.length) :
    Calls Try.prog 119 #[.int .i64 (i : Int), .pointer (some ⟨b1, 0, none⟩), .pointer (some ⟨b2, 0, none⟩)] w fun e w' => e = .returned (.bool (m.atLeast x i)) ∧ Alike0 w w' := by
  obtain ⟨g2, c2, hbv, hcb⟩ := begs_cell h hi
  obtain ⟨k, hk⟩ : ∃ k, k = m.begs.getD i 0 := ⟨_, rfl⟩
  have hkb : k ≤ 4000000 := by
    have h3 : m.begs.getD i 0 = m.begs[i] := by simp [List.getD, hi]
    have h4 := h.ok.begs.2 _ (List.getElem_mem hi)
    have h5 := h.ok.num
    rw [hk, h3]; omega
  have hE : Hid (m.atLeast x i = decide (x ≤ (m.lsn k : Int))) := Lib.hid (by unfold LG.atLeast; rw [hk])
  rw [hE.out]
  rw [← hk] at hcb
  obtain ⟨nb, hnb⟩ : ∃ nb, nb = m.begs.length := ⟨_, rfl⟩
  rw [hbv] at h
  rw [← hnb] at h hi
  have a6 := h.blk.cell 6
  have q1 := h1.cell 0
  have q2 := h2.cell 0
  have H := Lib.hid h
  clear h h1 h2 hbv hk hnb
  go_enter Try.func119, Try.ntmps119
  go_wp2_with fail
  go_quiet ((go_at_call 79; exact Calls.quiet_of_same (lsn_any _ p g B _ _ m (H.out.below (below_drewN (Below.refl _ _) _)) k hkb)))
  go_wp2_with fail
  go_ret
  exact ⟨by first | rfl | simp, _, rfl⟩
set_option maxRecDepth 100000 in
set_option maxHeartbeats 1000000 in
theorem search_any (w : World) (p g B b1 b2 : Nat) (sv bv : Value) (m : LG) (x : Int) (h : LogAt w p g B sv bv m) (h1 : Blk w b1 55 #[.pointer (some ⟨g, 0, none⟩)]) (h2 : Blk w b2 2 #[.int .i64 x]) (hn : m.begs.length ≤ 3000000) (hmono : ∀ a b, a ≤ b → b < m.begs.length → m.atLeast x a = true → m.atLeast x b = true) :
    Calls Try.prog 118 #[.int .i64 (m.begs.length : Int), .func (.func 119) #[] #[.pointer (some ⟨b1, 0, none⟩), .pointer (some ⟨b2, 0, none⟩)]] w fun e w' => ∃ r : Nat, e = .returned (.int .i64 (r : Int)) ∧ r ≤ m.begs.length ∧ (∀ a, a < r → m.atLeast x a = false) ∧ (∀ a, r ≤ a → a < m.begs.length → m.atLeast x a = true) ∧ Alike0 w w' := by
  obtain ⟨n, hnn⟩ : ∃ n, n = m.begs.length := ⟨_, rfl⟩
  rw [← hnn] at hn hmono ⊢
  have HN := Lib.hid hnn
  have H := Lib.hid h
  have H1 := Lib.hid h1
  have H2 := Lib.hid h2
  have HM := Lib.hid hmono
  clear h h1 h2 hmono hnn
  go_enter Try.func118, Try.ntmps118
  go_wp2_with fail
  go_loopw [5, 6] (fun i j wr => ∃ a b : Nat, i = .int .i64 a ∧ j = .int .i64 b ∧ a ≤ b ∧ b ≤ n ∧ Hid (∀ c, c < a → m.atLeast x c = false) ∧ Hid (∀ c, b ≤ c → c < n → m.atLeast x c = true) ∧ Hid (Alike0 w wr)) (fun i j wr => (intOf j).toNat - (intOf i).toNat)
  case atStart => exact ⟨0, n, rfl, rfl, Nat.zero_le _, Nat.le_refl _, Lib.hid (by omega), Lib.hid (by omega), Lib.hid ⟨0, rfl⟩⟩
  case round =>
    obtain ⟨a, b, rfl, rfl, hab, hbn, HL, HG, HA⟩ := hrel
    by_cases hlt : a < b
    · obtain ⟨c, hc⟩ : ∃ c, c = (a + b) / 2 := ⟨_, rfl⟩
      have hc1 : a ≤ c := by omega
      have hc2 : c < b := by omega
      have hci : ((a : Int) + (b : Int)) / 2 = (c : Int) := by omega
      obtain ⟨q, hq⟩ := HA.out
      have HLW : Hid (LogAt wr p g B sv bv m) := Lib.hid (by rw [hq]; exact H.out.below (below_drewN (Below.refl _ _) q))
      have HQ := Lib.hid hq
      clear hc hq
      go_wp2_with fail
      refine (aheadF_any wr p g B b1 b2 sv bv m x HLW.out (by rw [HQ.out]; exact H1.out.drewN q) (by rw [HQ.out]; exact H2.out.drewN q) c (by rw [← HN.out]; omega)).mono ?_
      rintro e w2 ⟨rfl, q2, hq2⟩
      have HA2 : Hid (Alike0 w w2) := Lib.hid ⟨q + q2, by rw [hq2, HQ.out]; exact drewN_drewN _ _ _⟩
      clear hq2
      cases ht : m.atLeast x c with
      | true =>
        have HT := Lib.hid ht
        clear ht
        go_wp2_with fail
        go_roundw
        case rel => exact ⟨a, c, rfl, rfl, hc1, by omega, HL, Lib.hid (fun d hd1 hd2 => HM.out c d hd1 hd2 HT.out), HA2⟩
        case measure => simp [intOf]; omega
      | false =>
        have HT := Lib.hid ht
        clear ht
        go_wp2_with fail
        go_roundw
        case rel =>
          refine ⟨c + 1, b, by go_num, rfl, by omega, hbn, Lib.hid (fun d hd => ?_), HG, HA2⟩
          cases hd2 : m.atLeast x d with
          | false => rfl
          | true =>
            have := HM.out d c (by omega) (by omega) hd2
            rw [HT.out] at this
            cases this
        case measure => simp [intOf]; omega
    · obtain rfl : a = b := by omega
      go_wp2_with fail
      go_ret
      exact ⟨a, rfl, hbn, HL.out, HG.out, HA.out⟩
/-- Later records have higher LSNs. -/
theorem Recs.mono {m : LG} {rs : List RecT} (h : Recs m rs) (x : Int) : ∀ a b, a ≤ b → b < m.begs.length → m.atLeast x a = true → m.atLeast x b = true := by
  intro a b hab hb ha
  rw [h.begs_len] at hb
  have hg : ∀ i, i < rs.length → m.begs.getD i 0 = (strm (rs.take i)).length := by
    intro i hi
    have := begsAt_get rs 0 i hi
    rw [Nat.zero_add] at this
    rw [h.begs, List.getD, this]
    rfl
  unfold LG.atLeast at ha ⊢
  rw [hg a (by omega)] at ha
  rw [hg b hb]
  have h1 : (strm (rs.take a)).length ≤ (strm (rs.take b)).length := by
    have := strm_take_le (rs.take b) a
    rw [List.take_take, Nat.min_eq_left hab] at this
    exact this
  simp only [decide_eq_true_eq] at ha ⊢
  unfold LG.lsn at ha ⊢
  omega
set_option maxRecDepth 100000 in
set_option maxHeartbeats 1000000 in
theorem ahead_any (w : World) (p g B : Nat) (sv bv : Value) (m : LG) (x : Int) (h : LogAt w p g B sv bv m) (hn : m.begs.length ≤ 3000000) (hmono : ∀ a b, a ≤ b → b < m.begs.length → m.atLeast x a = true → m.atLeast x b = true) :
    Calls Try.prog 82 #[.pointer (some ⟨g, 0, none⟩), .int .i64 x] w fun e w' => ∃ r : Nat, e = .returned (.int .i64 (r : Int)) ∧ r ≤ m.begs.length ∧ (∀ a, a < r → m.atLeast x a = false) ∧ (∀ a, r ≤ a → a < m.begs.length → m.atLeast x a = true) ∧ Below w.heap.size w w' := by
  obtain ⟨Ab, cb, hbv⟩ := h.begins
  have hmf : ∀ (fn : Fn) (first cap : Array Value) (w : World), (Instr.makeFunc fn first cap).run Try.prog w = .ok (.func fn first cap) w := fun _ _ _ _ => rfl
  obtain ⟨W2, hW2⟩ : ∃ W2, W2 = (w.alloc (.cells #[.pointer (some ⟨g, 0, none⟩)] 55)).alloc (.cells #[.int .i64 x] 2) := ⟨_, rfl⟩
  have hb2 : Below w.heap.size w W2 := by rw [hW2]; exact ((Below.refl _ _).alloc (Nat.le_refl _) _).alloc (by simp) _
  have HL2 : Hid (LogAt W2 p g B sv bv m) := Lib.hid (h.below hb2)
  have HB2 := Lib.hid hb2
  have H1 : Hid (Blk W2 w.heap.size 55 #[.pointer (some ⟨g, 0, none⟩)]) := Lib.hid (by rw [hW2]; exact (Blk.new _ _ _).alloc _)
  have H2 : Hid (Blk W2 (w.heap.size + 1) 2 #[.int .i64 x]) := Lib.hid (by
    rw [hW2]
    have := Blk.new (w.alloc (.cells #[.pointer (some ⟨g, 0, none⟩)] 55)) 2 #[.int .i64 x]
    rw [size_alloc_] at this
    exact this)
  have a6 := h.blk.cell 6
  have hg := h.lt
  have HM := Lib.hid hmono
  have HN := Lib.hid hn
  rw [hbv] at a6
  rw [hW2] at HL2 H1 H2 HB2
  clear h hbv hmono hn hb2 hW2
  go_enter Try.func82, Try.ntmps82
  go_wp2_with fail
  refine (search_any _ p g B w.heap.size (w.heap.size + 1) sv bv m x HL2.out H1.out H2.out HN.out HM.out).mono ?_
  rintro e w3 ⟨r, rfl, h1, h2, h3, q, hq⟩
  have HR := Lib.hid (⟨h1, h2, h3⟩ : r ≤ m.begs.length ∧ (∀ a, a < r → m.atLeast x a = false) ∧ (∀ a, r ≤ a → a < m.begs.length → m.atLeast x a = true))
  have HB3 : Hid (Below w.heap.size w w3) := Lib.hid (by rw [hq]; exact below_drewN HB2.out q)
  clear h1 h2 h3 hq
  go_wp2_with fail
  go_ret
  exact ⟨r, rfl, HR.out.1, HR.out.2.1, HR.out.2.2, HB3.out⟩
set_option maxRecDepth 100000 in
theorem Records_own (w : World) (p g B : Nat) (sv bv : Value) (m : LG) (rs : List RecT) (x : Int) (h : LogAt w p g B sv bv m) (hr : Recs m rs) (hn : m.begs.length ≤ 900000) :
    Calls Try.prog 28 #[.pointer (some ⟨g, 0, none⟩), .int .i64 x] w fun e w' => ∃ (r : Nat) (v : Value), e = .returned v ∧ r ≤ m.begs.length ∧ (∀ a, a < r → m.atLeast x a = false) ∧ (∀ a, r ≤ a → a < m.begs.length → m.atLeast x a = true) ∧ RecsOwn w' w.heap.size v ((List.range (m.begs.length - r)).map (fun j => m.tell (r + j))) ∧ Below w.heap.size w w' := by
  have H := Lib.hid h
  have HM := Lib.hid (hr.mono x)
  have HN := Lib.hid hn
  clear h hr hn
  go_enter Try.func28, Try.ntmps28
  go_wp2_with fail
  refine (ahead_any w p g B sv bv m x H.out (by have := HN.out; omega) HM.out).mono ?_
  rintro e w2 ⟨r, rfl, h1, h2, h3, hb2⟩
  have HR := Lib.hid (⟨h1, h2, h3⟩ : r ≤ m.begs.length ∧ (∀ a, a < r → m.atLeast x a = false) ∧ (∀ a, r ≤ a → a < m.begs.length → m.atLeast x a = true))
  have HB2 := Lib.hid hb2
  clear h1 h2 h3 hb2
  go_wp2_with fail
  refine (recordsOf_own w2 p g B sv bv m (H.out.below HB2.out) r HR.out.1 HN.out).mono ?_
  rintro e w3 ⟨v3, rfl, hr3, hb3⟩
  have hr3' := hr3.at_
  have HR3 : Hid (RecsOwn w3 w.heap.size v3 ((List.range (m.begs.length - r)).map (fun j => m.tell (r + j)))) := Lib.hid (hr3.mono_ HB2.out.size)
  have HB3 : Hid (Below w.heap.size w w3) := Lib.hid (HB2.out.trans (hb3.mono HB2.out.size))
  have hform : ∃ A n c, v3 = .slice A n c := by
    obtain ⟨xs, h1, _⟩ := hr3'
    obtain ⟨A, c, e, _⟩ := h1.open_
    exact ⟨_, _, _, e⟩
  obtain ⟨A3, n3, c3, rfl⟩ := hform
  clear hr3 hr3' hb3
  go_wp2_with fail
  go_ret
  exact ⟨r, _, rfl, HR.out.1, HR.out.2.1, HR.out.2.2, HR3.out, HB3.out⟩
theorem Records_any (w : World) (p g B : Nat) (sv bv : Value) (m : LG) (rs : List RecT) (x : Int) (h : LogAt w p g B sv bv m) (hr : Recs m rs) (hn : m.begs.length ≤ 900000) :
    Calls Try.prog 28 #[.pointer (some ⟨g, 0, none⟩), .int .i64 x] w fun e w' => ∃ (r : Nat) (v : Value), e = .returned v ∧ r ≤ m.begs.length ∧ (∀ a, a < r → m.atLeast x a = false) ∧ (∀ a, r ≤ a → a < m.begs.length → m.atLeast x a = true) ∧ RecsAt w' v ((List.range (m.begs.length - r)).map (fun j => m.tell (r + j))) ∧ Below w.heap.size w w' :=
  (Records_own w p g B sv bv m rs x h hr hn).mono fun e w' ⟨r, v, h1, h2, h3, h4, h5, h6⟩ => ⟨r, v, h1, h2, h3, h4, h5.at_, h6⟩
/-- Records(0) tells all. -/
theorem Records_all_own (w : World) (p g B : Nat) (sv bv : Value) (m : LG) (rs : List RecT) (h : LogAt w p g B sv bv m) (hr : Recs m rs) (hn : m.begs.length ≤ 900000) :
    Calls Try.prog 28 #[.pointer (some ⟨g, 0, none⟩), .int .i64 0] w fun e w' => ∃ A n c, e = .returned (.slice A n c) ∧ n = rs.length ∧ RecsOwn w' w.heap.size (.slice A n c) (toldOf m rs) ∧ Below w.heap.size w w' := by
  refine (Records_own w p g B sv bv m rs 0 h hr hn).mono ?_
  rintro e w' ⟨r, v, rfl, h1, h2, h3, h4, h5⟩
  have hr0 : r = 0 := by
    cases r with
    | zero => rfl
    | succ r =>
      have := h2 0 (by omega)
      unfold LG.atLeast at this
      simp at this
  subst hr0
  have hts : (List.range (m.begs.length - 0)).map (fun j => m.tell (0 + j)) = toldOf m rs := by
    rw [← hr.tells]
    unfold LG.tells
    rw [Nat.sub_zero]
    congr 1
    funext j
    rw [Nat.zero_add]
  rw [hts] at h4
  obtain ⟨xs, k1, k2, k3⟩ := h4
  obtain ⟨A, c, e, _⟩ := (k1.rk encRec_len (Nat.le_refl _)).open_
  subst e
  refine ⟨_, _, _, rfl, ?_, ⟨xs, k1, k2, k3⟩, h5⟩
  have := congrArg List.length k3
  unfold toldOf at this
  simpa using this
theorem Records_all (w : World) (p g B : Nat) (sv bv : Value) (m : LG) (rs : List RecT) (h : LogAt w p g B sv bv m) (hr : Recs m rs) (hn : m.begs.length ≤ 900000) :
    Calls Try.prog 28 #[.pointer (some ⟨g, 0, none⟩), .int .i64 0] w fun e w' => ∃ A n c, e = .returned (.slice A n c) ∧ n = rs.length ∧ RecsAt w' (.slice A n c) (toldOf m rs) ∧ Below w.heap.size w w' :=
  (Records_all_own w p g B sv bv m rs h hr hn).mono fun e w' ⟨A, n, c, h1, h2, h3, h4⟩ => ⟨A, n, c, h1, h2, h3.at_, h4⟩
end Go.Proofs.Ytplkdcegfpiofaa

/-
  The walk of skeinref09's Parse at a sector's bytes.
-/
namespace Go.Proofs.Ytplkdcegfpiofaa
open Go.RowKit Go.Maps
set_option linter.unusedVariables false

theorem leV_cons (x : Nat) (r : List Nat) : leV (x :: r) = x + 256 * leV r := by simp [leV]
theorem notLog_run {b : List Nat} (h : ¬ isLog b) : secRun b = 0 := secRun_no h
theorem log_of {b : List Nat} (hl : b.length = 512) (h1 : 1 ≤ runOf b) (h2 : runOf b ≤ 274877906944) (h3 : usedOf b ≤ 498) (h4 : openOk b = true) (h5 : ∀ j, 10 + usedOf b ≤ j → j < 508 → (b.drop 4).getD j 0 = 0) : isLog b := by
  refine ⟨h1, h2, h3, h4, fun j x hj hx => ?_⟩
  have hjl := (List.getElem?_eq_some_iff.1 hx).1
  have := h5 (j - 4) (by omega) (by omega)
  rw [List.getD, List.getElem?_drop, show 4 + (j - 4) = j by omega, hx] at this
  exact this
theorem log_zero {b : List Nat} (h : isLog b) {j : Nat} (hj : 10 + usedOf b ≤ j) : (b.drop 4).getD j 0 = 0 := by
  rw [List.getD, List.getElem?_drop]
  cases hx : b[4 + j]? with
  | none => rfl
  | some x => exact h.2.2.2.2 (4 + j) x (by omega) hx
set_option maxRecDepth 100000 in
set_option maxHeartbeats 1000000 in
theorem refParse_any (w : World) (v : Value) (b : List Nat) (hv : RB w w.heap.size v b) (hl : b.length = 512) :
    Calls Try.prog 38 #[v] w fun e w' => ∃ A n c, e = .returned (.tuple #[.int .i64 (secRun b : Int), .slice A n c]) ∧ Below w.heap.size w w' := by
  have HV := Lib.hid hv
  obtain ⟨A, c, rfl, -, -, -, -⟩ := hv.open_
  rw [hl] at HV ⊢
  have HL := Lib.hid hl
  have HB256 := Lib.hid hv.1
  clear hv hl
  go_enter Try.func38, Try.ntmps38
  go_wp2_with fail
  refine (open2_any _ b w HV.out (by rw [HL.out]; omega)).mono ?_
  rintro e w1 ⟨v1, rfl, ho1, hb1⟩
  have HB1 := Lib.hid hb1
  cases hok : openOk b with
  | false =>
    have e0 : Hid (secRun b = 0) := Lib.hid (notLog_run (fun h => by rw [h.2.2.2.1] at hok; cases hok))
    obtain ⟨A1, c1, rfl, -, -, -, -⟩ := ho1.rbn.open_
    obtain ⟨n1, hn1⟩ : ∃ n1, n1 = (openL b).length := ⟨_, rfl⟩
    rw [← hn1]
    clear ho1 hb1 hok hn1
    go_wp2_with fail
    go_ret2
    rw [e0.out]
    exact ⟨_, _, _, rfl, HB1.out⟩
  | true =>
    have hin : openL b = b.drop 4 := by unfold openL; rw [if_pos hok]
    rw [hin] at ho1
    obtain ⟨l, hle⟩ : ∃ l, l = b.drop 4 := ⟨_, rfl⟩
    rw [← hle] at ho1
    have hll : l.length = 508 := by rw [hle, List.length_drop, HL.out]
    obtain ⟨A1, c1, rfl, hc1, hc2, _, HC⟩ := ho1.rbn.open_
    rw [hll] at ho1 hc1 ⊢
    have HO1 := Lib.hid ho1.rbn
    have HLE := Lib.hid hle
    have HLL := Lib.hid hll
    have HOK := Lib.hid hok
    have hA : ∃ g1 off, A1 = some ⟨g1, off, none⟩ := by
      obtain ⟨g, o, h, _⟩ := HC.out 0 (by rw [HLL.out]; omega)
      exact ⟨g, o, h⟩
    obtain ⟨g1, off, rfl⟩ := hA
    have hcell : Hid (∀ j : Nat, j < 508 → w1.cell? ⟨g1, off + j, none⟩ = some (.int .u8 ((l.getD j 0 : Nat) : Int)) ∧ l.getD j 0 < 256) := Lib.hid (fun j hj => by
      obtain ⟨g', off', e', _, h1, h2⟩ := HC.out j (by rw [HLL.out]; exact hj)
      injection e' with e'
      injection e' with e1 e2
      subst e1
      subst e2
      have hd : l.getD j 0 = l[j]'(by rw [HLL.out]; exact hj) := by simp [List.getD, HLL.out, hj]
      rw [hd]
      exact ⟨h1, h2⟩)
    clear ho1 hb1 hin hok hle hll HC
    go_wp2_with fail
    go_loopw [6, 7] (fun u i wr => ∃ (ki : Int) (un : Nat), i = .int .i64 ki ∧ u = .int .u64 (un : Int) ∧ -1 ≤ ki ∧ ki ≤ 7 ∧ Hid (un = leV ((l.take 8).drop (ki + 1).toNat)) ∧ Hid (un < 256 ^ (8 - (ki + 1).toNat)) ∧ wr = w1) (fun u i wr => ((intOf i) + 1).toNat)
    case atStart => exact ⟨7, 0, rfl, rfl, by omega, by omega, Lib.hid (by rw [List.drop_of_length_le (by rw [List.length_take]; omega)]; rfl), Lib.hid (by simp), rfl⟩
    case round =>
      obtain ⟨ki, un, rfl, rfl, hk1, hk2, HU, HUB, rfl⟩ := hrel
      by_cases hk0 : 0 ≤ ki
      · obtain ⟨k, rfl⟩ : ∃ k : Nat, ki = (k : Int) := ⟨ki.toNat, by omega⟩
        have hk3 : k ≤ 7 := by omega
        obtain ⟨z, hz⟩ := hcell.out k (by omega)
        obtain ⟨x, hx⟩ : ∃ x, x = l.getD k 0 := ⟨_, rfl⟩
        rw [← hx] at z hz
        have hub : un < 72057594037927936 := by
          have h1 := HUB.out
          have h2 : 256 ^ (8 - ((k : Int) + 1).toNat) ≤ 256 ^ 7 := Nat.pow_le_pow_right (by omega) (by omega)
          have h3 : (256 : Nat) ^ 7 = 72057594037927936 := by decide
          exact Nat.lt_of_lt_of_le h1 (Nat.le_trans h2 (Nat.le_of_eq h3))
        have hw1 : IntKind.u64.wrap ((un : Int) * 256) = (un : Int) * 256 := by rw [IntKind.wrap_u64]; omega
        have hw2 : IntKind.u64.wrap ((un : Int) * 256 + (x : Int)) = (un : Int) * 256 + (x : Int) := by rw [IntKind.wrap_u64]; omega
        have hw3 : IntKind.u64.wrap (x : Int) = (x : Int) := by rw [IntKind.wrap_u64]; omega
        have HX := Lib.hid hx
        clear hx
        go_wp2_with fail
        go_roundw
        case rel =>
          have hk8 : k < (l.take 8).length := by rw [List.length_take, HLL.out]; omega
          have hd : (l.take 8).drop k = x :: (l.take 8).drop (k + 1) := by
            rw [List.drop_eq_getElem_cons hk8]
            congr 1
            have hkl : k < l.length := by rw [HLL.out]; omega
            rw [HX.out]
            simp [List.getD, hkl]
          have e1 : ((k : Int) - 1 + 1).toNat = k := by omega
          have e2 : ((k : Int) + 1).toNat = k + 1 := by omega
          have hU := HU.out
          rw [e2] at hU
          refine ⟨(k : Int) - 1, un * 256 + x, rfl, by first | rfl | simp, by omega, by omega, Lib.hid ?_, Lib.hid ?_, by first | rfl | trivial⟩
          · rw [e1, hd, leV_cons, ← hU]; omega
          · rw [e1]
            have h1 := HUB.out
            rw [e2] at h1
            rw [show 8 - k = (8 - (k + 1)) + 1 by omega, Nat.pow_succ]
            omega
        case measure => simp [intOf] <;> omega
      · obtain rfl : ki = -1 := by omega
        have hrun : un = runOf b := by
          have h1 := HU.out
          rw [show ((-1 : Int) + 1).toNat = 0 by rfl, List.drop_zero, HLE.out] at h1
          exact h1
        have HRUN := Lib.hid hrun
        obtain ⟨z8, y8⟩ := hcell.out 8 (by omega)
        obtain ⟨z9, y9⟩ := hcell.out 9 (by omega)
        obtain ⟨p8, hp8⟩ : ∃ p8, p8 = l.getD 8 0 := ⟨_, rfl⟩
        obtain ⟨p9, hp9⟩ : ∃ p9, p9 = l.getD 9 0 := ⟨_, rfl⟩
        rw [← hp8] at z8 y8
        rw [← hp9] at z9 y9
        have hn : p8 + 256 * p9 = usedOf b := by
          have h1 : (b.drop 12).take 2 = [p8, p9] := by
            have h2 : b.drop 12 = l.drop 8 := by rw [HLE.out, List.drop_drop]
            have h8 : 8 < l.length := by rw [HLL.out]; omega
            have h9 : 9 < l.length := by rw [HLL.out]; omega
            have e8 : l.drop 8 = l[8] :: l[9] :: l.drop 10 := by rw [List.drop_eq_getElem_cons h8, List.drop_eq_getElem_cons h9]
            have d8 : l.getD 8 0 = l[8] := by simp [List.getD, h8]
            have d9 : l.getD 9 0 = l[9] := by simp [List.getD, h9]
            rw [h2, e8, hp8, hp9, d8, d9]
            rfl
          unfold usedOf
          rw [h1, leV_cons, leV_cons]
          simp [leV]
        obtain ⟨nn, hnn⟩ : ∃ nn, nn = p8 + 256 * p9 := ⟨_, rfl⟩
        have HNN : Hid (nn = usedOf b) := Lib.hid (hnn.trans hn)
        have hnb : nn ≤ 65535 := by omega
        have hun : un < 18446744073709551616 := by
          have h1 := HUB.out
          have h3 : (256 : Nat) ^ (8 - ((-1 : Int) + 1).toNat) = 18446744073709551616 := by decide
          omega
        have hwn : IntKind.i64.wrap (256 * (p9 : Int)) = 256 * (p9 : Int) := by rw [IntKind.wrap_i64]; omega
        have hwn2 : IntKind.i64.wrap ((p8 : Int) + 256 * (p9 : Int)) = (nn : Int) := by rw [IntKind.wrap_i64]; omega
        have hwx8 : IntKind.i64.wrap (p8 : Int) = (p8 : Int) := by rw [IntKind.wrap_i64]; omega
        have hwx9 : IntKind.i64.wrap (p9 : Int) = (p9 : Int) := by rw [IntKind.wrap_i64]; omega
        clear hrun hp8 hp9 hn hnn
        go_wp2_with fail
        go_quiet (fail)
        by_cases hu1 : un < 1
        · have hu1i : (un : Int) < 1 := by omega
          have hu1j : ¬ 1 ≤ (un : Int) := by omega
          have hu1z : (un : Int) = 0 := by omega
          go_wp2_with fail
          go_ret2
          rw [notLog_run (fun h => by have := h.1; have := HRUN.out; omega)]
          exact ⟨⟨_, _, _, rfl⟩, below_drewN HB1.out _⟩
        · have hu1i : ¬ (un : Int) < 1 := by omega
          by_cases hu2 : 274877906944 < un
          · have hu2i : (274877906944 : Int) < (un : Int) := by omega
            go_wp2_with fail
            go_ret2
            rw [notLog_run (fun h => by have := h.2.1; have := HRUN.out; omega)]
            exact ⟨⟨_, _, _, rfl⟩, below_drewN HB1.out _⟩
          · have hu2i : ¬ (274877906944 : Int) < (un : Int) := by omega
            by_cases hn3 : 498 < nn
            · go_wp2_with fail
              go_ret2
              rw [notLog_run (fun h => by have := h.2.2.1; have := HNN.out; omega)]
              exact ⟨⟨_, _, _, rfl⟩, below_drewN HB1.out _⟩
            · obtain ⟨W4, hW4⟩ : ∃ W4, W4 = wr.drewN nq := ⟨_, rfl⟩
              rw [← hW4]
              have hcell4 : Hid (∀ j : Nat, j < 508 → W4.cell? ⟨g1, off + j, none⟩ = some (.int .u8 ((l.getD j 0 : Nat) : Int))) := Lib.hid (fun j hj => by rw [hW4]; exact (hcell.out j hj).1)
              have HO4 : Hid (RB W4 W4.heap.size (.slice (some ⟨g1, off, none⟩) 508 c1) l) := Lib.hid (by rw [hW4]; exact HO1.out.drewN nq)
              have HB4 : Hid (Below w.heap.size w W4) := Lib.hid (by rw [hW4]; exact below_drewN HB1.out nq)
              clear hW4 z8 z9 hwn hwn2 hwx8 hwx9 HO1 hcell HU HUB
              go_wp2_with fail
              go_loopw [9] (fun i wq => ∃ k : Nat, i = .int .i64 (k : Int) ∧ 10 + nn ≤ k ∧ k ≤ 508 ∧ Hid (∀ j, 10 + nn ≤ j → j < k → l.getD j 0 = 0) ∧ wq = W4) (fun i wq => 508 - (intOf i).toNat)
              case atStart => exact ⟨10 + nn, by go_num, Nat.le_refl _, by omega, Lib.hid (by omega), rfl⟩
              case round =>
                obtain ⟨k, rfl, hk1, hk2, HZ, rfl⟩ := hrel
                by_cases hk5 : k < 508
                · have z := hcell4.out k hk5
                  obtain ⟨x, hx⟩ : ∃ x, x = l.getD k 0 := ⟨_, rfl⟩
                  rw [← hx] at z
                  have HX := Lib.hid hx
                  clear hx
                  by_cases hx0 : x = 0
                  · subst hx0
                    go_wp2_with fail
                    go_roundw
                    case rel => exact ⟨k + 1, by go_num, by omega, by omega, Lib.hid (fun j h1 h2 => by
                      by_cases hj : j = k
                      · rw [hj]; exact HX.out.symm
                      · exact HZ.out j h1 (by omega)), by first | rfl | trivial⟩
                    case measure => simp [intOf]; omega
                  · have hxi : ¬ (x : Int) = 0 := by omega
                    go_wp2_with fail
                    go_ret2
                    rw [notLog_run (fun h => hx0 (by rw [HX.out, HLE.out]; exact log_zero h (by rw [← HNN.out]; exact hk1)))]
                    first | exact ⟨_, _, _, rfl, HB4.out⟩ | exact HB4.out
                · have hlog : isLog b := log_of HL.out (by rw [← HRUN.out]; omega) (by rw [← HRUN.out]; omega) (by rw [← HNN.out]; omega) HOK.out (fun j h1 h2 => by
                    rw [← HLE.out]
                    exact HZ.out j (by rw [HNN.out]; exact h1) (by omega))
                  have hrunw : IntKind.i64.wrap (un : Int) = (un : Int) := by rw [IntKind.wrap_i64]; omega
                  have HSR : Hid ((secRun b : Int) = (un : Int)) := Lib.hid (by rw [secRun_yes hlog, HRUN.out])
                  have hend : (10 : Int) + (nn : Int) = ((10 + nn : Nat) : Int) := by omega
                  clear hlog
                  have HPC : Hid (Calls Try.prog 47 #[.slice (some ⟨g1, off, none⟩) 508 c1, .int .i64 10, .int .i64 ((10 : Int) + (nn : Int))] wr fun e w' => ∃ v', e = .returned v' ∧ OB w' wr.heap.size v' (piece l 10 (10 + nn)) ∧ Below wr.heap.size wr w') := Lib.hid (by rw [hend]; exact piece_any _ l 10 (10 + nn) wr HO4.out (by omega) (by omega))
                  clear hend
                  go_wp2_with fail
                  refine HPC.out.mono ?_
                  rintro e w5 ⟨v5, rfl, ho5, hb5⟩
                  have HB5 : Hid (Below w.heap.size w w5) := Lib.hid (HB4.out.trans (hb5.mono HB4.out.size))
                  have hf5 : ∃ A n c, v5 = Value.slice A n c := by
                    obtain ⟨A, c, h, _⟩ := ho5.rbn.open_
                    exact ⟨_, _, _, h⟩
                  obtain ⟨A5, n5, c5, rfl⟩ := hf5
                  clear ho5 hb5
                  go_wp2_with fail
                  go_ret2
                  rw [HSR.out]
                  exact ⟨_, _, _, rfl, HB5.out⟩
end Go.Proofs.Ytplkdcegfpiofaa

/-
  Noise behind the sector in which a log ends, in plain words: Open tells the log as it stood. No walk.
-/
namespace Go.Proofs.Ytplkdcegfpiofaa
open Go.RowKit Go.Maps
set_option linter.unusedVariables false

/-- A clean disk with one more write that isn't synced. -/
theorem put_has (s : DS) (i n : Nat) (l : List Nat) : (DS.put (i : Int) l s).has n = if n = i then l else s.has n := by
  unfold DS.has DS.put
  dsimp only
  by_cases h : n = i
  · rw [if_pos (by omega), if_pos h]; rfl
  · rw [if_neg (by omega), if_neg h]
set_option maxRecDepth 100000 in
theorem noise_open {s : DS} {m : LG} {rs : List RecT} (h : Good s m rs) (hc : Clean s) (hsafe : m.safe = m.st.length) (hmr : m.most = m.run) {k : Nat} (hk : k < m.count) (hk2 : m.st.length / 498 < k) {b : List Nat} (hb : b.length ≤ 512) (hrun : secRun (pad b) ≠ m.run) :
    Clean (s.write ((m.first + k : Nat) : Int) b) ∧ s.writeE ((m.first + k : Nat) : Int) b = 0 ∧ isLog ((s.write ((m.first + k : Nat) : Int) b).has m.first) ∧ Fits (s.write ((m.first + k : Nat) : Int) b) (LG.opened (s.write ((m.first + k : Nat) : Int) b) m.first m.count) ∧
      Recs (LG.opened (s.write ((m.first + k : Nat) : Int) b) m.first m.count) rs ∧ (LG.opened (s.write ((m.first + k : Nat) : Int) b) m.first m.count).run = m.run ∧
      secRun (pad b) ≤ (LG.opened (s.write ((m.first + k : Nat) : Int) b) m.first m.count).most ∧ (LG.opened (s.write ((m.first + k : Nat) : Int) b) m.first m.count).most ≤ max m.most (secRun (pad b)) := by
  have hfit := h.fit
  have hct := h.ok.count
  have hsec : s.isSec ((m.first + k : Nat) : Int) = true := by
    unfold DS.isSec
    rw [Bool.and_eq_true, decide_eq_true_eq, decide_eq_true_eq]
    omega
  obtain ⟨e1, e2⟩ := hc.write hsec hb
  rw [e2]
  obtain ⟨s', hs'⟩ : ∃ s', s' = DS.put ((m.first + k : Nat) : Int) (pad b) s.tick := ⟨_, rfl⟩
  have hhas : ∀ n, s'.has n = if n = m.first + k then pad b else s.has n := fun n => by rw [hs', put_has]; rfl
  have hlen : s'.safe = s.safe := by rw [hs']; rfl
  have hoff : s'.off = false := by rw [hs']; exact h.off
  have hcl : Clean s' := ⟨by rw [hs']; exact hc.plan, hoff⟩
  rw [← hs']
  have hst : m.st = strm rs := h.recs.st
  have htk : m.st.take m.safe = m.st := by rw [hsafe]; exact List.take_of_length_le (Nat.le_refl _)
  have hS : ∀ j, j < m.count → Sec3 (strm rs) m.safe m.run (s.has (m.first + j)) j ∧ secRun (s.has (m.first + j)) ≤ m.most := by
    intro j hj
    have h1 := (h.sec (m.first + j) (by omega)).2 (by omega) (by omega)
    rw [Nat.add_sub_cancel_left, htk, hst] at h1
    exact h1
  have hall : ∀ j, j < m.count → Sec3 (strm rs) m.safe m.run (s'.has (m.first + j)) j := by
    intro j hj
    rw [hhas]
    by_cases hjk : j = k
    · subst hjk
      rw [if_pos rfl]
      exact .inr (.inr ⟨hrun, by omega, by rw [hsafe]; omega⟩)
    · rw [if_neg (by omega)]
      exact (hS j hj).1
  have hmost : ∀ j, j < m.count → secRun (s'.has (m.first + j)) ≤ max m.most (secRun (pad b)) := by
    intro j hj
    rw [hhas]
    by_cases hjk : j = k
    · subst hjk
      rw [if_pos rfl]; omega
    · rw [if_neg (by omega)]
      have := (hS j hj).2
      omega
  obtain ⟨i, i1, i2, i3, i4⟩ := opened_recs (s := s') (first := m.first) (count := m.count) (f := m.safe) (R := m.run) (rs := rs) h.recs.ok (by rw [← hst]; exact h.ok.safe) (by rw [← hst]; exact h.ok.st) hct.1 hall
  have hi : i = rs.length := by
    have := i2 rs.length (Nat.le_refl _) (by rw [List.take_of_length_le (Nat.le_refl _), ← hst, hsafe]; exact Nat.le_refl _)
    omega
  rw [hi, List.take_of_length_le (Nat.le_refl _)] at i3
  have hup := upto_most s' m.first m.count
  have hh0 : s'.has m.first = s.has m.first := by rw [hhas, if_neg (by omega)]
  have hl0 : isLog (s'.has m.first) := by
    have h0 := (hS 0 (by omega)).1
    rw [Nat.add_zero] at h0
    rw [hh0]
    exact h0.log h.run
  have hone : s'.safe.length = s.safe.length := by rw [hlen]
  refine ⟨hcl, e1, hl0, ⟨opened_ok s' h.ok.first hct, hoff, by rw [hone]; exact hfit, by rw [i4]; exact h.run, rfl, fun n hn => ?_⟩, i3, i4, ?_, hup.2 _ hmost⟩
  · have hP : m.first ≤ n → n < m.first + m.count → secRun (s'.has n) ≤ (LG.opened s' m.first m.count).most := by
      intro h3 h4
      have := hup.1 (n - m.first) (by omega)
      rw [show m.first + (n - m.first) = n by omega] at this
      exact this
    refine ⟨fun h3 h4 => ?_, hP⟩
    rw [hlen]
    have h5 := ((h.sec n (by rw [hone] at hn; exact hn)).1 h3 h4).2
    have h6 := (opened_ok s' (first := m.first) h.ok.first hct).run.1
    rw [i4] at h6
    exact Nat.le_trans h5 (by omega)
  · have := hup.1 k hk
    rw [hhas, if_pos rfl] at this
    exact this
end Go.Proofs.Ytplkdcegfpiofaa

/-
  WalNoise: the log between two rounds, and behind its Flush. No walk.
-/
namespace Go.Proofs.Ytplkdcegfpiofaa
open Go.RowKit Go.Maps
set_option linter.unusedVariables false

/-- A log as made leaves it, with what was appended. -/
structure Fresh (s : DS) (m : LG) (rs : List RecT) : Prop where
  good : Good s m rs
  clean : Clean s
  first : m.first = 1
  count : m.count = 6
  run : m.run = 2
  most : m.most = 2
  steps : s.steps ≤ 4
theorem Fresh.append {s : DS} {m : LG} {rs : List RecT} (h : Fresh s m rs) (kind : Int) (body : List Nat) (hb : ∀ x ∈ body, x < 256) : ∃ rs', Fresh s (m.append kind body).1 rs' := by
  rcases h.good.append kind body hb with ⟨_, _, _, _, _, _, e, hg⟩ | ⟨_, _, e⟩
  · exact ⟨_, hg, h.clean, by rw [e]; exact h.first, by rw [e]; exact h.count, by rw [e]; exact h.run, by rw [e]; exact h.most, h.steps⟩
  · rw [e]; exact ⟨rs, h⟩
theorem fresh_begun : Fresh (begS (DS.new 10) 1 6) (begL (DS.new 10) 1 6) [] := by
  have hb : Begun (DS.new 10) 1 6 := begun_new 10 1 6 (by omega) (by omega) (by omega)
  have hl : (begL (DS.new 10) 1 6).run = (fmtL (DS.new 10) 1 6).most + 1 := rfl
  have hm : (begL (DS.new 10) 1 6).most = (fmtL (DS.new 10) 1 6).most + 1 := rfl
  have h0 : (DS.new 10).steps = 0 := rfl
  have hs := hb.steps2
  rw [h0] at hs
  exact ⟨hb.good, hb.clean2, rfl, rfl, by rw [hl, hb.most], by rw [hm, hb.most], hs⟩
/-- Behind the Flush. -/
structure Held (s : DS) (m : LG) (rs : List RecT) : Prop where
  good : Good s m rs
  clean : Clean s
  first : m.first = 1
  count : m.count = 6
  run : m.run = 2
  most : m.most = 2
  safe : m.safe = m.st.length
  steps : s.steps ≤ 12
set_option maxRecDepth 100000 in
theorem Fresh.flush {s : DS} {m : LG} {rs : List RecT} (h : Fresh s m rs) : (m.flush s).2.2 = 0 ∧ Held (m.flush s).1 (m.flush s).2.1 rs := by
  have h0 := Clean.flush h.good h.clean
  obtain ⟨h1, h2, h3, h4, h5⟩ := h.good.flush_ok h0
  have hd : ¬ m.dead = true := by rw [h.good.dead]; simp
  have hsteps : (m.flush s).1.steps ≤ s.steps + 8 := by
    unfold LG.flush
    rw [if_neg hd]
    by_cases hs : m.safe = m.st.length
    · rw [if_pos hs]; dsimp only; omega
    · rw [if_neg hs]
      obtain ⟨c6, hc6⟩ : ∃ c6, c6 = 6 := ⟨_, rfl⟩
      have hst := h.good.ok.st
      have := steps_save (run := m.run) (st := m.st) (m.first : Int) c6 m.st.length (m.safe / 498) s (by rw [h.count] at hst; omega) (by omega)
      split
      · dsimp only; omega
      · dsimp only; omega
  refine ⟨h0, h1, ⟨fun k => by rw [h3]; exact h.clean.plan k, h1.off⟩, by rw [h2]; exact h.first, by rw [h2]; exact h.count, by rw [h2]; exact h.run, by rw [h2]; exact h.most, by rw [h2], by have := h.steps; omega⟩
/-- Records, Open and Reset behind noise: what the law asks. -/
theorem Held.noise {s : DS} {m : LG} {rs : List RecT} (h : Held s m rs) {at_ : Nat} (ha : at_ ≤ 6) (hu : 6 - (m.room + 497) / 498 + 1 < at_) {b : List Nat} (hb : b.length ≤ 512) (hrun : secRun (pad b) ≠ 2) (hmax : secRun (pad b) ≤ 137438953472) {s' : DS} (hs' : s' = s.write (at_ : Int) b) :
    s.writeE (at_ : Int) b = 0 ∧ s'.off = false ∧ s'.safe.length = s.safe.length ∧ isLog (s'.has 1) ∧ Recs (LG.opened s' 1 6) rs ∧ toldOf (LG.opened s' 1 6) rs = toldOf m rs ∧ (LG.opened s' 1 6).lsn (LG.opened s' 1 6).st.length = m.lsn m.st.length ∧
      ((LG.opened s' 1 6).reset s').2.2 = 0 ∧ ((LG.opened s' 1 6).reset s').2.1 = (LG.opened s' 1 6).anew ∧ secRun (pad b) * 16777216 < ((LG.opened s' 1 6).anew).lsn 0 := by
  obtain ⟨k, rfl⟩ : ∃ k, at_ = 1 + k := ⟨at_ - 1, by omega⟩
  have hst := h.good.ok.st
  rw [h.count] at hst
  have hk2 : m.st.length / 498 < k := by
    unfold LG.room at hu
    rw [h.count] at hu
    omega
  have hn := noise_open h.good h.clean h.safe (by rw [h.most, h.run]) (k := k) (by rw [h.count]; omega) hk2 hb (by rw [h.run]; exact hrun)
  rw [h.first, h.count, h.run, h.most, ← hs'] at hn
  obtain ⟨n1, n2, n3, n4, n5, n6, n7, n8⟩ := hn
  have hr : ((LG.opened s' 1 6).reset s').2.2 = 0 := Clean.reset n4 n1 (by omega)
  have hr2 := n4.reset_ok hr
  have est : (LG.opened s' 1 6).st = m.st := n5.st.trans h.good.recs.st.symm
  refine ⟨n2, n1.off, ?_, n3, n5, toldOf_run (by rw [n6, h.run]), ?_, hr, hr2.2.1, ?_⟩
  · have hsec : s.isSec ((1 + k : Nat) : Int) = true := by
      have hfit := h.good.fit
      rw [h.first, h.count] at hfit
      unfold DS.isSec
      rw [Bool.and_eq_true, decide_eq_true_eq, decide_eq_true_eq]
      omega
    rw [hs', (h.clean.write hsec hb).2]; rfl
  · unfold LG.lsn
    rw [n6, h.run, est]
  · unfold LG.lsn LG.anew
    dsimp only
    omega
end Go.Proofs.Ytplkdcegfpiofaa

/-
  The walk of WalNoise.
-/
namespace Go.Proofs.Ytplkdcegfpiofaa
open Go.RowKit Go.Maps
set_option linter.unusedVariables false

theorem Held.noise_steps {s : DS} {m : LG} {rs : List RecT} (h : Held s m rs) {at_ : Nat} (ha : at_ ≤ 6) {b : List Nat} (hb : b.length ≤ 512) : (s.write (at_ : Int) b).steps ≤ 13 := by
  have hsec : s.isSec (at_ : Int) = true := by
    have hfit := h.good.fit
    rw [h.first, h.count] at hfit
    unfold DS.isSec
    rw [Bool.and_eq_true, decide_eq_true_eq, decide_eq_true_eq]
    omega
  rw [(h.clean.write hsec hb).2]
  have := h.steps
  show s.steps + 1 ≤ 13
  omega
set_option maxRecDepth 100000 in
set_option maxHeartbeats 4000000 in
theorem walNoise_run (w : World) (bsv : Value) (bs : List BV) (nv : Value) (nl : List Nat) (at_ : Int) (hB : Bodies w bsv bs) (hn : RB w w.heap.size nv nl) (hat : I64 at_) :
    Calls Try.prog 7 #[bsv, nv, .int .i64 at_] w fun e w' => e = .returned (.bool true) ∧ Below w.heap.size w w' := by
  obtain ⟨AB, cB, rfl, hB1, hB2, hB3, HC⟩ := hB.rk.open_
  obtain ⟨N, hN⟩ : ∃ N, N = bs.length := ⟨_, rfl⟩
  have hN1 : N ≤ 6000000000000 := by rw [hN]; exact hB.len
  rw [← hN] at hB1 ⊢
  clear hB3
  have HNV := Lib.hid hn
  obtain ⟨nA, nc, rfl, hn1, hn2, -, -⟩ := hn.open_
  obtain ⟨nn, hnn⟩ : ∃ nn, nn = nl.length := ⟨_, rfl⟩
  rw [← hnn] at HNV hn1 ⊢
  have HNN := Lib.hid hnn
  have HB := Lib.hid hB
  have HN := Lib.hid hN
  obtain ⟨s0, hs0⟩ : ∃ s0, s0 = begS (DS.new 10) 1 6 := ⟨_, rfl⟩
  obtain ⟨m0, hm0⟩ : ∃ m0, m0 = begL (DS.new 10) 1 6 := ⟨_, rfl⟩
  have HF0 : Hid (Fresh s0 m0 []) := Lib.hid (by rw [hs0, hm0]; exact fresh_begun)
  have HL0 : Hid (s0.safe.length = 10) := Lib.hid (by rw [hs0]; exact (begun_new 10 1 6 (by omega) (by omega) (by omega)).len2.trans (new_len 10 (by omega)))
  have HMD : Hid (∀ W : World, Calls Try.prog 23 #[.int .i64 6] W (MadeOut W s0 m0)) := Lib.hid (fun W => by rw [hs0, hm0]; exact made_any W 6 (by omega))
  clear hB hN hs0 hm0 hn hnn
  go_enter Try.func7, Try.ntmps7
  go_wp2_with fail
  refine (alive9_any w).mono ?_
  rintro e W0 ⟨rfl, hb0⟩
  have HB0 := Lib.hid hb0
  clear hb0
  go_wp2_with fail
  refine (HMD.out W0).mono ?_
  rintro e W1 ⟨p, sb, mb, g, B, sv, bv, rfl, hw1, hz1, hb1⟩
  have HW1 := Lib.hid hw1
  have HZ : Hid (w.heap.size ≤ p ∧ w.heap.size ≤ sb ∧ w.heap.size ≤ mb ∧ w.heap.size ≤ B) := Lib.hid (by have := HB0.out.size; omega)
  have HB1 : Hid (Below w.heap.size w W1) := Lib.hid (HB0.out.trans (hb1.mono HB0.out.size))
  clear hw1 hz1 hb1
  go_wp2_with fail
  go_loopw [33] (fun i wr => ∃ (k : Nat) (m : LG) (rs : List RecT) (sv bv : Value), i = .int .i64 k ∧ k ≤ N ∧ Hid (WalAt wr p sb mb none s0 g B sv bv m) ∧ Hid (Fresh s0 m rs) ∧ Hid (Below w.heap.size w wr)) (fun i wr => N - (intOf i).toNat)
  case atStart => exact ⟨0, m0, [], sv, bv, rfl, Nat.zero_le _, HW1, HF0, HB1⟩
  case round =>
    obtain ⟨k, m, rs, sv, bv, rfl, hk, HW, HF, HBW⟩ := hrel
    have hzw := HBW.out.size
    by_cases hkN : k < N
    · obtain ⟨b, off, rfl, hblt, hcell⟩ := HC.out k (by rw [← HN.out]; exact hkN)
      obtain ⟨x, hx⟩ : ∃ x, x = bs[k]'(by rw [← HN.out]; exact hkN) := ⟨_, rfl⟩
      rw [← hx] at hcell
      have hrx := (HB.out.at_ x (by rw [hx]; exact List.getElem_mem _)).1
      obtain ⟨xA, xn, xc, xb⟩ := x
      have hc0 : w.cell? ⟨b, off + k, none⟩ = some (.slice xA xn xc) := by have := hcell 0 _ rfl; simpa [BV.v] using this
      have hcw : wr.cell? ⟨b, off + k, none⟩ = some (.slice xA xn xc) := (HBW.out.cell (p := ⟨b, off + k, none⟩) hblt).trans hc0
      have HRX : Hid (RB wr wr.heap.size (.slice xA xn xc) xb) := Lib.hid ((hrx.below HBW.out).more hzw)
      have hcnt : Hid (m.count ≤ 1000) := Lib.hid (by rw [HF.out.count]; omega)
      clear hcell hrx hc0 hx
      go_wp2_with fail
      refine (copy_any _ xb wr HRX.out).mono ?_
      rintro e w2 ⟨v2, rfl, ho2, hb2⟩
      have HO2 := Lib.hid ho2.rbn
      have HW2 : Hid (WalAt w2 p sb mb none s0 g B sv bv m) := Lib.hid (HW.out.below hb2)
      have HB2 : Hid (Below w.heap.size w w2) := Lib.hid (HBW.out.trans (hb2.mono hzw))
      have hform2 : ∃ A2 n2 c2, v2 = .slice A2 n2 c2 := by
        obtain ⟨A2, c2, h, -, -, -, -⟩ := ho2.rbn.open_
        exact ⟨_, _, _, h⟩
      obtain ⟨A2, n2, c2, rfl⟩ := hform2
      clear ho2 hb2
      go_wp2_with fail
      refine (Append_any w2 p sb mb g B none s0 sv bv m HW2.out hcnt.out 7 _ xb HO2.out).mono ?_
      obtain ⟨rs3, hf3⟩ := HF.out.append 7 xb HRX.out.1
      obtain ⟨r, hr⟩ : ∃ r, r = m.append 7 xb := ⟨_, rfl⟩
      rw [← hr] at hf3 ⊢
      clear hr
      rintro e w3 ⟨rfl, ⟨sv3, bv3, hw3⟩, hm3⟩
      obtain ⟨m3, a3, e3⟩ := r
      dsimp only at hw3 hf3 ⊢
      have HW3 : Hid (WalAt w3 p sb mb none s0 g B sv3 bv3 m3) := Lib.hid hw3
      have HF3 := Lib.hid hf3
      have HB3 : Hid (Below w.heap.size w w3) := Lib.hid (below_by HB2.out hm3 (HW2.out.ownL HZ.out.2.2.2))
      clear hw3 hm3 hf3
      go_wp2_with fail
      go_roundw
      case rel => exact ⟨k + 1, m3, rs3, sv3, bv3, by go_num, by omega, HW3, HF3, HB3⟩
      case measure => simp [intOf]; omega
    · obtain ⟨hfl0, hheld⟩ := HF.out.flush
      have HFL0 := Lib.hid hfl0
      have HHELD := Lib.hid hheld
      have HS0 : Hid (s0.steps ≤ 4) := Lib.hid HF.out.steps
      have HLEN1 : Hid ((m.flush s0).1.safe.length = 10) := Lib.hid ((HF.out.good.flush_ok hfl0).2.2.2.1.trans HL0.out)
      clear hfl0 hheld
      go_wp2_with fail
      refine (Flush_any wr p sb mb g B none s0 sv bv m HW.out (by have := HS0.out; omega)).mono ?_
      obtain ⟨r, hr⟩ : ∃ r, r = m.flush s0 := ⟨_, rfl⟩
      rw [← hr] at HFL0 HHELD HLEN1 ⊢
      clear hr
      obtain ⟨s1, m1, f1⟩ := r
      have hf10 : f1 = 0 := HFL0.out
      subst hf10
      rintro e w1 ⟨rfl, hw1, hm1⟩
      dsimp only at hw1 HHELD HLEN1
      have HW1' : Hid (WalAt w1 p sb mb none s1 g B sv bv m1) := Lib.hid hw1
      have HH : Hid (Held s1 m1 rs) := HHELD
      have HB2 : Hid (Below w.heap.size w w1) := Lib.hid (below_by HBW.out hm1 (HW.out.ownW HZ.out))
      clear hw1 hm1 HHELD
      go_wp2_with fail
      refine (Records_all_own w1 p g B sv bv m1 rs HW1'.out.lg HH.out.good.recs (by have h1 := HH.out.good.ok.begs.1; have h2 := HH.out.good.ok.st; rw [HH.out.count] at h2; omega)).mono ?_
      rintro e w2 ⟨Ar, nr, cr, rfl, hnr, hra, hb2⟩
      obtain ⟨z, hz⟩ : ∃ z, z = w1.heap.size := ⟨_, rfl⟩
      rw [← hz] at hra
      have HPZ : Hid (p < z ∧ sb < z ∧ mb < z) := Lib.hid (by have := HW1'.out.dk.lt; exact ⟨by omega, by omega, by omega⟩)
      clear hz
      have HRA := Lib.hid hra
      have HNR := Lib.hid hnr
      have HW2 : Hid (WalAt w2 p sb mb none s1 g B sv bv m1) := Lib.hid (HW1'.out.below hb2)
      have HB3 : Hid (Below w.heap.size w w2) := Lib.hid (HB2.out.trans (hb2.mono HB2.out.size))
      clear hra hnr hb2
      go_wp2_with fail
      refine (logRoom_any w2 p g B sv bv m1 HW2.out.lg).mono ?_
      rintro e w3 ⟨rfl, q3, hq3⟩
      subst hq3
      obtain ⟨rm, hrm⟩ : ∃ rm, rm = m1.room := ⟨_, rfl⟩
      rw [← hrm]
      have hrm1 : rm ≤ 2988 := by rw [hrm]; unfold LG.room; rw [HH.out.count]; omega
      obtain ⟨rq, hrq⟩ : ∃ rq, rq = (rm + 497) / 498 := ⟨_, rfl⟩
      have HRQ : Hid (rq = (m1.room + 497) / 498) := Lib.hid (by rw [hrq, hrm])
      have hq1 : ((rm : Int) + 497) / 498 = (rq : Int) := by omega
      have hq2 : ((rm : Int) + 497).tdiv 498 = (rq : Int) := by rw [Int.tdiv_eq_ediv_of_nonneg (by omega)]; exact hq1
      have hrq6 : rq ≤ 6 := by omega
      have HW3 : Hid (WalAt (w2.drewN q3) p sb mb none s1 g B sv bv m1) := Lib.hid (HW2.out.below (below_drewN (Below.refl _ _) q3))
      have HRA3 : Hid (RecsOwn (w2.drewN q3) z (.slice Ar nr cr) (toldOf m1 rs)) := Lib.hid (HRA.out.below (below_drewN (Below.refl _ _) q3))
      have HB4 : Hid (Below w.heap.size w (w2.drewN q3)) := Lib.hid (below_drewN HB3.out q3)
      obtain ⟨w4, hw4⟩ : ∃ w4, w4 = w2.drewN q3 := ⟨_, rfl⟩
      rw [← hw4] at HW3 HRA3 HB4 ⊢
      clear hrm hrq hw4 HRA HW2 HB3
      by_cases ha1 : at_ < 1
      · go_wp2_with fail
        go_ret
        exact ⟨rfl, HB4.out⟩
      · by_cases ha2 : 6 < at_
        · go_wp2_with fail
          go_ret
          exact ⟨rfl, HB4.out⟩
        · by_cases ha3 : at_ ≤ 6 - (rq : Int) + 1
          · go_wp2_with fail
            go_ret
            exact ⟨rfl, HB4.out⟩
          · by_cases ha4 : 512 < nn
            · have ha4i : (512 : Int) < (nn : Int) := by omega
              go_wp2_with fail
              go_ret
              exact ⟨rfl, HB4.out⟩
            · have ha4i : ¬ (512 : Int) < (nn : Int) := by omega
              obtain ⟨a, rfl⟩ : ∃ a : Nat, at_ = (a : Int) := ⟨at_.toNat, by omega⟩
              have hzw4 := HB4.out.size
              have HNV4 : Hid (RB w4 w4.heap.size (.slice nA nn nc) nl) := Lib.hid ((HNV.out.below HB4.out).more hzw4)
              go_wp2_with fail
              refine (copy_any _ nl w4 HNV4.out).mono ?_
              rintro e w5 ⟨v5, rfl, ho5, hb5⟩
              have HO5 := Lib.hid ho5
              have HB5 : Hid (Below w4.heap.size w4 w5) := Lib.hid hb5
              clear ho5 hb5
              have hnl : nl.length ≤ 512 := by have := HNN.out; omega
              have HNL := Lib.hid hnl
              have hat1 : ¬ (a : Int) < 1 := by omega
              clear hnl
              go_wp2_with fail
              go_loopw [13] (fun x wq => ∃ j : Nat, nl.length + j ≤ 512 ∧ slN x = nl.length + j ∧ Hid (OB wq w4.heap.size x (nl ++ List.replicate j 0)) ∧ Hid (Below w4.heap.size w4 wq)) (fun x wq => 512 - slN x)
              case atStart =>
                refine ⟨0, by have := HNL.out; omega, ?_, by rw [List.replicate_zero, List.append_nil]; exact HO5, HB5⟩
                obtain ⟨A1, c1, rfl, _, _, _, _⟩ := HO5.out.rbn.open_
                rfl
              case round =>
                obtain ⟨j, hj, hsl, HO, HBQ⟩ := hrel
                obtain ⟨A1, c1, rfl, _, _, _, _⟩ := HO.out.rbn.open_
                have hq : (nl ++ List.replicate j 0).length = nl.length + j := by simp
                obtain ⟨q, hq0⟩ : ∃ q, q = nl.length + j := ⟨_, rfl⟩
                rw [hq, ← hq0] at HO ⊢
                rw [← hq0] at hq
                have HQ := Lib.hid hq
                clear hsl hq
                by_cases hlt : q < 512
                · have hcl : (q : Int) < 512 := by omega
                  have HQ0 := Lib.hid hq0
                  clear hq0
                  go_wp2_with (at_builtin; go_must (refine wpList_app1 (w0 := w4) rfl (.tmp 74) (.tmp 75) rfl w4.heap.size _ _ rfl HO.out HBQ.out (Nat.le_refl _) _ 0 rfl (by omega) rfl (by rw [HQ.out]; omega) ?_); intro v' w1' ho1 hb1 _; have HO1 := Lib.hid ho1; have HB1' := Lib.hid hb1; clear ho1 hb1)
                  have hrr : (nl ++ List.replicate j 0) ++ [0] = nl ++ List.replicate (j + 1) 0 := by rw [List.append_assoc, ← List.replicate_succ']
                  rw [hrr] at HO1
                  obtain ⟨A2, c2, rfl, _, _, _, _⟩ := HO1.out.rbn.open_
                  have hq2 : (nl ++ List.replicate (j + 1) 0).length = nl.length + (j + 1) := by simp
                  rw [hq2] at HO1 ⊢
                  go_roundw
                  case rel => exact ⟨j + 1, by have := HQ0.out; omega, rfl, HO1, HB1'⟩
                  case measure => have := HQ0.out; simp only [slN]; omega
                · have hm2 : j = 512 - nl.length := by omega
                  have hcl : ¬ (q : Int) < 512 := by omega
                  have hpd : nl ++ List.replicate j 0 = pad nl := by unfold pad; rw [hm2]
                  have hpl : (pad nl).length = 512 := by rw [← hpd]; simp; omega
                  rw [hpd] at HO
                  have HPL := Lib.hid hpl
                  have HB6 : Hid (Below w.heap.size w wr) := Lib.hid (HB4.out.trans (HBQ.out.mono HB4.out.size))
                  clear hm2 hpd hq0 hpl
                  go_wp2_with fail
                  refine (refParse_any _ _ (pad nl) HO.out.rbn HPL.out).mono ?_
                  rintro e w7 ⟨A7, n7, c7, rfl, hb7⟩
                  have HW7 : Hid (WalAt w7 p sb mb none s1 g B sv bv m1) := Lib.hid ((HW3.out.below HBQ.out).below hb7)
                  have HRA7 : Hid (RecsOwn w7 z (.slice Ar nr cr) (toldOf m1 rs)) := Lib.hid ((HRA3.out.below HBQ.out).below hb7)
                  have HB7 : Hid (Below w.heap.size w w7) := Lib.hid (HB6.out.trans (hb7.mono HB6.out.size))
                  clear hb7
                  obtain ⟨un, hun⟩ : ∃ un, un = secRun (pad nl) := ⟨_, rfl⟩
                  rw [← hun]
                  have HUN := Lib.hid hun
                  clear hun
                  obtain ⟨en, hen⟩ : ∃ en, en = m1.lsn m1.st.length := ⟨_, rfl⟩
                  have hen1 : 33554432 ≤ en ∧ en < 50331648 := by
                    have h1 := HH.out.good.ok.st
                    rw [HH.out.count] at h1
                    rw [hen]; unfold LG.lsn; rw [HH.out.run]; omega
                  have HEN := Lib.hid hen
                  obtain ⟨hen1, hen2⟩ := hen1
                  have hed : (en : Int) / 16777216 = 2 := by omega
                  have hed2 : (en : Int).tdiv 16777216 = 2 := by rw [Int.tdiv_eq_ediv_of_nonneg (by omega)]; exact hed
                  clear hen
                  go_wp2_with fail
                  refine (logEnd_any w7 p g B sv bv m1 HW7.out.lg).mono ?_
                  rw [← HEN.out]
                  rintro e w8 ⟨rfl, hw8⟩
                  subst hw8
                  by_cases hu1 : un = 2
                  · subst hu1
                    go_wp2_with fail
                    go_ret
                    exact ⟨rfl, HB7.out⟩
                  · have hu1i : ¬ (un : Int) = 2 := by omega
                    by_cases hu2 : 137438953472 < un
                    · have hu2i : (137438953472 : Int) < (un : Int) := by omega
                      go_wp2_with fail
                      go_ret
                      exact ⟨rfl, HB7.out⟩
                    · have hu2i : ¬ (137438953472 : Int) < (un : Int) := by omega
                      have hbe : ((un : Int) == 2) = false := by simpa using hu1i
                      have hwr := HH.out.noise (at_ := a) (by omega) (by have := HRQ.out; omega) HNL.out (by rw [← HUN.out]; exact hu1) (by rw [← HUN.out]; omega) rfl
                      rw [← HUN.out, ← HEN.out] at hwr
                      have HWR := Lib.hid hwr
                      have HNV8 : Hid (RB w8 w8.heap.size (.slice nA nn nc) nl) := Lib.hid ((HNV.out.below HB7.out).more HB7.out.size)
                      have HOFF : Hid (Off (fun k => k = p) (.slice nA nn nc) nl) := Lib.hid (HNV.out.off (fun k hk e => by have := HZ.out.1; omega))
                      clear hwr
                      go_wp2_with fail
                      refine (Write_any w8 p sb mb none s1 _ _ nl HW7.out.dk (by have := HH.out.steps; omega) HNV8.out HOFF.out).mono ?_
                      rw [HWR.out.1]
                      rintro e w9 ⟨rfl, hd9, hm9⟩
                      obtain ⟨s2, hs2⟩ : ∃ s2, s2 = s1.write (a : Int) nl := ⟨_, rfl⟩
                      rw [← hs2] at hd9 HWR
                      have HD9 := Lib.hid hd9
                      have HB9 : Hid (Below w.heap.size w w9) := Lib.hid (below_by HB7.out hm9 (fun k hk => by have := HZ.out; rcases hk with e | e | e <;> omega))
                      have HST2 : Hid (s2.steps ≤ 13) := Lib.hid (by rw [hs2]; exact HH.out.noise_steps (by omega) HNL.out)
                      have HL9 : Hid (LogAt w9 p g B sv bv m1) := Lib.hid (HW7.out.log hm9)
                      have HRA9 : Hid (RecsOwn w9 z (.slice Ar nr cr) (toldOf m1 rs)) := Lib.hid (HRA7.out.mod hm9 (fun k hk => by have := HPZ.out; rcases hk with e | e | e <;> omega))
                      clear hd9 hm9 hs2
                      go_wp2_with fail
                      refine (Open_any w9 p sb mb none s2 1 6 HD9.out HWR.out.2.1 (by rw [HWR.out.2.2.1, HLEN1.out]; omega) ⟨by omega, by omega⟩ HWR.out.2.2.2.1).mono ?_
                      obtain ⟨m2, hm2⟩ : ∃ m2, m2 = LG.opened s2 1 6 := ⟨_, rfl⟩
                      rw [← hm2] at HWR ⊢
                      rintro e w10 ⟨g2, sv2, bv2, Ao, no, co, rfl, hno, hw10, hr10, hb10⟩
                      have htl : m2.tells = toldOf m1 rs := HWR.out.2.2.2.2.1.tells.trans HWR.out.2.2.2.2.2.1
                      rw [htl] at hr10
                      have HW10 : Hid (WalAt w10 p sb mb none s2 g2 w9.heap.size sv2 bv2 m2) := Lib.hid hw10
                      have HR10 := Lib.hid hr10
                      have HRA10 : Hid (RecsAt w10 (.slice Ar nr cr) (toldOf m1 rs)) := Lib.hid (HRA9.out.below hb10).at_
                      have HLG10 : Hid (LogAt w10 p g B sv bv m1) := Lib.hid (HL9.out.below hb10)
                      have HZ9 : Hid (w.heap.size ≤ w9.heap.size) := Lib.hid HB9.out.size
                      have HB10 : Hid (Below w.heap.size w w10) := Lib.hid (HB9.out.trans (hb10.mono HB9.out.size))
                      clear hno hw10 hr10 hb10 htl hm2
                      obtain ⟨xs, x1, x2, x3⟩ := HR10.out
                      obtain ⟨ys, y1, y2, y3⟩ := HRA10.out
                      have HX : Hid (RecRow w10 (.slice Ao no co) xs) := Lib.hid ⟨x1, x2⟩
                      have HY : Hid (RecRow w10 (.slice Ar nr cr) ys) := Lib.hid ⟨y1, y2⟩
                      have HXY : Hid (xs.map RecV.told = ys.map RecV.told) := Lib.hid (x3.trans y3.symm)
                      clear x1 x2 x3 y1 y2 y3
                      go_wp2_with fail
                      refine (alike_yes w10 _ _ xs ys HX.out HY.out HXY.out).mono ?_
                      rintro e w11 ⟨rfl, hb11⟩
                      have HW11 : Hid (WalAt w11 p sb mb none s2 g2 w9.heap.size sv2 bv2 m2) := Lib.hid (HW10.out.below hb11)
                      have HLG11 : Hid (LogAt w11 p g B sv bv m1) := Lib.hid (HLG10.out.below hb11)
                      have HB11 : Hid (Below w.heap.size w w11) := Lib.hid (HB10.out.trans (hb11.mono HB10.out.size))
                      clear hb11
                      go_wp2_with fail
                      refine (logEnd_any w11 p g2 _ sv2 bv2 m2 HW11.out.lg).mono ?_
                      rw [HWR.out.2.2.2.2.2.2.1]
                      rintro e w12 ⟨rfl, h12⟩
                      subst h12
                      go_wp2_with fail
                      refine (logEnd_any w12 p g B sv bv m1 HLG11.out).mono ?_
                      rw [← HEN.out]
                      rintro e w13 ⟨rfl, h13⟩
                      subst h13
                      go_wp2_with fail
                      refine (Reset_any w13 p sb mb g2 _ none s2 sv2 bv2 m2 HW11.out (by have := HST2.out; omega)).mono ?_
                      rw [HWR.out.2.2.2.2.2.2.2.1, HWR.out.2.2.2.2.2.2.2.2.1]
                      rintro e w14 ⟨rfl, ⟨sv4, bv4, hw14⟩, hm14⟩
                      have HW14 := Lib.hid hw14
                      have HB14 : Hid (Below w.heap.size w w14) := Lib.hid (below_by HB11.out hm14 (HW11.out.ownW ⟨HZ.out.1, HZ.out.2.1, HZ.out.2.2.1, HZ9.out⟩))
                      obtain ⟨eN, heN⟩ : ∃ eN, eN = m2.anew.lsn 0 := ⟨_, rfl⟩
                      have hlt : un * 16777216 < eN := by rw [heN]; exact HWR.out.2.2.2.2.2.2.2.2.2
                      have hst0 : m2.anew.lsn m2.anew.st.length = eN := by rw [heN]; rfl
                      have HS0' := Lib.hid hst0
                      have hcmp : (un : Int) * 16777216 < (eN : Int) := by omega
                      clear hw14 hm14 hst0 heN hlt
                      go_wp2_with fail
                      refine (logEnd_any w14 p g2 _ sv4 bv4 m2.anew HW14.out.lg).mono ?_
                      rw [HS0'.out]
                      rintro e w15 ⟨rfl, h15⟩
                      subst h15
                      go_wp2_with fail
                      go_ret
                      exact ⟨rfl, HB14.out⟩
theorem walNoise_walk (w : World) (bsv : Value) (bs : List BV) (nv : Value) (nl : List Nat) (at_ : Int) (hB : Bodies w bsv bs) (hn : RB w w.heap.size nv nl) (hl : nl.length ≤ 140737488351232) (hat : (Lit.int .i64 at_).wf = true) :
    Calls Try.prog 7 #[bsv, nv, .int .i64 at_] w fun e w' => e = .returned (.bool true) ∧ Below w.heap.size w w' :=
  walNoise_run w bsv bs nv nl at_ hB hn (by simp [Lit.wf, IntKind.min, IntKind.max, IntKind.signed, IntKind.bits] at hat; omega)
end Go.Proofs.Ytplkdcegfpiofaa
