/-
  The walks of skeinlaw09's alive and made.
-/
import Derived.Test.YtplkdcegfpiofaaZV20
import Derived.Test.YtplkdcegfpiofaaZD8
import Derived.Test.YtplkdcegfpiofaaZD9
namespace Go.Proofs.Ytplkdcegfpiofaa
open Go.RowKit Go.Maps
set_option linter.unusedVariables false

set_option maxRecDepth 100000 in
theorem Recs.tell {m : LG} {rs : List RecT} (h : Recs m rs) {i : Nat} (hi : i < rs.length) : m.tell i = (m.lsn (strm (rs.take i)).length, rs[i].1, rs[i].2) := by
  have hb : m.begs.getD i 0 = (strm (rs.take i)).length := by
    have := begsAt_get rs 0 i hi
    rw [Nat.zero_add] at this
    rw [h.begs, List.getD, this]
    rfl
  have e : m.st = strm (rs.take i) ++ recL rs[i].1 rs[i].2 ++ strm (rs.drop (i + 1)) := by
    have h1 : rs = rs.take i ++ (rs[i] :: rs.drop (i + 1)) := by rw [← List.drop_eq_getElem_cons hi, List.take_append_drop]
    have h2 : strm rs = strm (rs.take i ++ (rs[i] :: rs.drop (i + 1))) := by rw [← h1]
    rw [h.st, h2, strm_append, strm_cons, List.append_assoc]
  have hok := h.ok _ (List.getElem_mem hi)
  unfold LG.tell
  rw [hb]
  have ht := textA_rec (strm (rs.take i)) (strm (rs.drop (i + 1))) rs[i].1 rs[i].2 hok.2.2.1
  rw [← e] at ht
  rw [ht]
  have hk : m.st.getD (strm (rs.take i)).length 0 = rs[i].1 := by
    rw [e, List.append_assoc]
    unfold recL
    rw [List.cons_append, getD_mid]
  rw [hk]
theorem Recs.begs_len {m : LG} {rs : List RecT} (h : Recs m rs) : m.begs.length = rs.length := by rw [h.begs, begsAt_len]
/-- The records as they are told. -/
def toldOf (m : LG) (rs : List RecT) : List Told := (List.range rs.length).map fun i => (m.lsn (strm (rs.take i)).length, (rs.getD i (0, [])).1, (rs.getD i (0, [])).2)
theorem Recs.tells {m : LG} {rs : List RecT} (h : Recs m rs) : m.tells = toldOf m rs := by
  unfold LG.tells toldOf
  rw [h.begs_len]
  refine List.map_congr_left fun i hi => ?_
  have hi := List.mem_range.1 hi
  rw [h.tell hi]
  simp [List.getD, hi]
theorem recs_first {w : World} {A : Option Addr} {n c : Nat} {t : Told} {ts : List Told} (h : RecsAt w (.slice A n c) (t :: ts)) : ∃ b off A0 n0 c0, A = some ⟨b, off, none⟩ ∧ w.cell? ⟨b, off + 2, none⟩ = some (.slice A0 n0 c0) ∧ RB w w.heap.size (.slice A0 n0 c0) t.2.2 := by
  obtain ⟨xs, h1, h2, h3⟩ := h
  cases xs with
  | nil => cases h3
  | cons x r =>
    rw [List.map_cons] at h3
    injection h3 with h3 _
    obtain ⟨A', c', e, _, _, _, hc⟩ := h1.open_
    injection e with e _ _
    subst e
    obtain ⟨b, off, hA, _, hcell⟩ := hc.out 0 (by simp)
    refine ⟨b, off, x.A, x.n, x.c, hA, ?_, ?_⟩
    · have := hcell 2 (.slice x.A x.n x.c) rfl
      simpa using this
    · have := h2 x (by simp)
      rw [← h3]; exact this
theorem below_by {S : Nat → Prop} {w W W' : World} (hb : Below w.heap.size w W) (hm : Mod S W W') (hS : ∀ k, S k → w.heap.size ≤ k) : Below w.heap.size w W' := hb.trans (hm.below hb.size hS)
theorem WalAt.ownW {w : World} {p sb mb g B z : Nat} {pl : Option Nat} {s : DS} {sv bv : Value} {m : LG} (h : WalAt w p sb mb pl s g B sv bv m) (hz : z ≤ p ∧ z ≤ sb ∧ z ≤ mb ∧ z ≤ B) : ∀ k, OwnW p sb mb g k → z ≤ k := by
  intro k hk
  rcases hk with hk | hk
  · unfold Own at hk; omega
  · have := h.lg.base; omega
theorem WalAt.ownL {w : World} {p sb mb g B z : Nat} {pl : Option Nat} {s : DS} {sv bv : Value} {m : LG} (h : WalAt w p sb mb pl s g B sv bv m) (hz : z ≤ B) : ∀ k, OwnL g sv bv k → z ≤ k := fun k hk => by have := (h.lg.own k hk).1; omega

/-- What made answers: a disk and a log that begins. -/
def MadeOut (w : World) (s : DS) (m : LG) (e : Ending) (w' : World) : Prop := ∃ p sb mb g B sv bv, e = .returned (.tuple #[.pointer (some ⟨p, 0, none⟩), .pointer (some ⟨g, 0, none⟩)]) ∧ WalAt w' p sb mb none s g B sv bv m ∧ (w.heap.size ≤ p ∧ w.heap.size ≤ sb ∧ w.heap.size ≤ mb ∧ w.heap.size ≤ B) ∧ Below w.heap.size w w'
set_option maxRecDepth 100000 in
set_option maxHeartbeats 1000000 in
theorem made_any (w : World) (count : Nat) (hc : 1 ≤ count ∧ count ≤ 9) : Calls Try.prog 23 #[.int .i64 (count : Int)] w (MadeOut w (begS (DS.new 10) 1 count) (begL (DS.new 10) 1 count)) := by
  have hb : Begun (DS.new 10) 1 count := begun_new 10 1 count (by omega) (by omega) (by omega)
  have hf : Hid (DS.format 1 (count : Int) (DS.new 10) = (fmtS (DS.new 10) 1 count, 0)) := Lib.hid (Prod.ext rfl hb.fmt)
  have HBG := Lib.hid hb
  have hst0 : (DS.new 10).steps = 0 := rfl
  have hl10 : (DS.new 10).safe.length = 10 := new_len 10 (by omega)
  have HS0 := Lib.hid hst0
  have HL10 := Lib.hid hl10
  clear hb hst0 hl10
  go_enter Try.func23, Try.ntmps23
  go_wp2_with fail
  refine (New_any 10 w).mono ?_
  rintro e W0 ⟨rfl, hd0, hz0, hb0⟩
  have H0 : Hid (DiskAt W0 (w.heap.size + 2) w.heap.size (w.heap.size + 1) none (DS.new 10)) := Lib.hid hd0
  have HB0 := Lib.hid hb0
  clear hd0 hb0 hz0
  go_wp2_with fail
  refine (Format_any W0 (w.heap.size + 2) w.heap.size (w.heap.size + 1) none (DS.new 10) 1 (count : Int) H0.out (by rw [HS0.out]; decide) ⟨by omega, by omega⟩).mono ?_
  rw [hf.out]
  rintro e W1 ⟨rfl, hd1, hm1⟩
  have H1 : Hid (DiskAt W1 (w.heap.size + 2) w.heap.size (w.heap.size + 1) none (fmtS (DS.new 10) 1 count)) := Lib.hid hd1
  have HB1 : Hid (Below w.heap.size w W1) := Lib.hid (below_by HB0.out hm1 (fun k hk => by unfold Own at hk; omega))
  clear hd1 hm1
  go_wp2_with fail
  refine (Open_any W1 (w.heap.size + 2) w.heap.size (w.heap.size + 1) none (fmtS (DS.new 10) 1 count) 1 count H1.out HBG.out.clean1.off (by rw [HBG.out.len1, HL10.out]; omega) ⟨by omega, by omega⟩ HBG.out.log).mono ?_
  rintro e W2 ⟨g, sv, bv, A, n, c, rfl, hn, hw2, hr2, hb2⟩
  have HW2 : Hid (WalAt W2 (w.heap.size + 2) w.heap.size (w.heap.size + 1) none (fmtS (DS.new 10) 1 count) g W1.heap.size sv bv (fmtL (DS.new 10) 1 count)) := Lib.hid hw2
  have HZ1 : Hid (w.heap.size ≤ W1.heap.size) := Lib.hid HB1.out.size
  have HB2 : Hid (Below w.heap.size w W2) := Lib.hid (HB1.out.trans (hb2.mono HB1.out.size))
  clear hn hw2 hr2 hb2
  go_wp2_with fail
  refine (Reset_any W2 (w.heap.size + 2) w.heap.size (w.heap.size + 1) g W1.heap.size none (fmtS (DS.new 10) 1 count) sv bv (fmtL (DS.new 10) 1 count) HW2.out (by have := HBG.out.steps1; rw [HS0.out] at this; omega)).mono ?_
  rw [HBG.out.res]
  rintro e W3 ⟨rfl, ⟨sv3, bv3, hw3⟩, hm3⟩
  have HW3 : Hid (WalAt W3 (w.heap.size + 2) w.heap.size (w.heap.size + 1) none (begS (DS.new 10) 1 count) g W1.heap.size sv3 bv3 (begL (DS.new 10) 1 count)) := Lib.hid hw3
  have HB3 : Hid (Below w.heap.size w W3) := Lib.hid (below_by HB2.out hm3 (HW2.out.ownW ⟨by omega, by omega, by omega, HZ1.out⟩))
  clear hw3 hm3
  go_wp2_with fail
  go_ret2
  exact ⟨_, _, _, _, _, _, _, rfl, HW3.out, ⟨by omega, by omega, by omega, HZ1.out⟩, HB3.out⟩
end Go.Proofs.Ytplkdcegfpiofaa

/-
  The walk of skeinlaw09's alive: the document's example.
-/
namespace Go.Proofs.Ytplkdcegfpiofaa
open Go.RowKit Go.Maps
set_option linter.unusedVariables false

set_option maxRecDepth 100000 in
set_option maxHeartbeats 2000000 in
theorem alive9_any (w : World) : Calls Try.prog 22 #[] w fun e w' => e = .returned (.bool true) ∧ Below w.heap.size w w' := by
  have hb : Begun (DS.new 8) 0 4 := begun_new 8 0 4 (by omega) (by omega) (by omega)
  have hf : Hid (DS.format 0 4 (DS.new 8) = (fmtS (DS.new 8) 0 4, 0)) := Lib.hid (Prod.ext rfl hb.fmt)
  have hidle : Hid ((fmtL (DS.new 8) 0 4).append 1 [] = (fmtL (DS.new 8) 0 4, 0, 111)) := Lib.hid (append_idle _ _ hb.fits.dead rfl)
  obtain ⟨m3, m4, s5, m5, hex⟩ := example_go hb.good hb.clean2 rfl rfl rfl (by show (fmtL (DS.new 8) 0 4).most + 1 = 2; rw [hb.most]) rfl
  have HBG := Lib.hid hb
  have HX := Lib.hid hex
  have HS0 : Hid ((DS.new 8).steps = 0) := Lib.hid rfl
  have HL8 : Hid ((DS.new 8).safe.length = 8) := Lib.hid (new_len 8 (by omega))
  have hcv := run_const
  clear hb hex
  obtain ⟨s1, hs1⟩ : ∃ s1, s1 = fmtS (DS.new 8) 0 4 := ⟨_, rfl⟩
  obtain ⟨m1, hm1e⟩ : ∃ m1, m1 = fmtL (DS.new 8) 0 4 := ⟨_, rfl⟩
  obtain ⟨s2, hs2⟩ : ∃ s2, s2 = begS (DS.new 8) 0 4 := ⟨_, rfl⟩
  obtain ⟨m2, hm2e⟩ : ∃ m2, m2 = begL (DS.new 8) 0 4 := ⟨_, rfl⟩
  have HOPN : Hid (LG.opened s1 0 4 = m1) := Lib.hid (by rw [hs1, hm1e]; rfl)
  have HOFF1 : Hid (s1.off = false) := Lib.hid (by rw [hs1]; exact HBG.out.clean1.off)
  have HLEN1 : Hid (s1.safe.length = 8) := Lib.hid (by rw [hs1, HBG.out.len1, HL8.out])
  have HLOG1 : Hid (isLog (s1.has 0)) := Lib.hid (by rw [hs1]; exact HBG.out.log)
  have HST1 : Hid (s1.steps ≤ 2) := Lib.hid (by have := HBG.out.steps1; rw [HS0.out] at this; rw [hs1]; exact this)
  have HREC1 : Hid (m1.begs.length = 0) := Lib.hid (by rw [hm1e]; exact HBG.out.recs.begs_len)
  have HCNT1 : Hid (m1.count = 4) := Lib.hid (by rw [hm1e]; rfl)
  have HRES : Hid (m1.reset s1 = (s2, m2, 0)) := Lib.hid (by rw [hm1e, hs1, hs2, hm2e]; exact HBG.out.res)
  have HST2 : Hid (s2.steps ≤ 4) := Lib.hid (by have := HBG.out.steps2; rw [HS0.out] at this; rw [hs2]; exact this)
  have HLEN2 : Hid (s2.safe.length = 8) := Lib.hid (by rw [hs2, HBG.out.len2, HL8.out])
  have HCNT : Hid (m2.count = 4 ∧ m3.count = 4 ∧ m4.count = 4) := Lib.hid (by rw [hm2e]; exact HX.out.cnt)
  have HA2 : Hid (m2.append 1 [97, 98] = (m3, 33554432, 0)) := Lib.hid (by rw [hm2e]; exact HX.out.a2)
  have HA3 : Hid (m3.append 2 [] = (m4, 33554436, 0)) := Lib.hid HX.out.a3
  have HFL : Hid (m4.flush s2 = (s5, m5, 0)) := Lib.hid (by rw [hs2]; exact HX.out.fl)
  have HLEN5 : Hid ((s5.on []).safe.length = 8) := Lib.hid (by rw [len_on, HX.out.len]; rw [hs2] at HLEN2; exact HLEN2.out)
  have HLOG5 : Hid (isLog ((s5.on []).has 0)) := Lib.hid HX.out.log
  have HREC5 : Hid (Recs (LG.opened (s5.on []) 0 4) exRecs) := Lib.hid HX.out.recs
  have HROOM : Hid (m5.room = 1986) := Lib.hid HX.out.room
  have HF1 : Hid (DS.format 0 4 (DS.new 8) = (s1, 0)) := Lib.hid (by rw [hs1]; exact hf.out)
  have HID1 : Hid (m1.append 1 [] = (m1, 0, 111)) := Lib.hid (by rw [hm1e]; exact hidle.out)
  clear hs1 hm1e hs2 hm2e HX HBG hf hidle
  go_enter Try.func22, Try.ntmps22
  go_wp2_with fail
  refine (New_any 8 w).mono ?_
  rintro e W0 ⟨rfl, hd0, hz0, hb0⟩
  have H0 : Hid (DiskAt W0 (w.heap.size + 2) w.heap.size (w.heap.size + 1) none (DS.new 8)) := Lib.hid hd0
  have HB0 := Lib.hid hb0
  clear hd0 hb0 hz0
  go_wp2_with fail
  refine (Format_any W0 (w.heap.size + 2) w.heap.size (w.heap.size + 1) none (DS.new 8) 0 4 H0.out (by rw [HS0.out]; decide) ⟨by omega, by omega⟩).mono ?_
  rw [HF1.out]
  rintro e W1 ⟨rfl, hd1, hm1⟩
  have H1 : Hid (DiskAt W1 (w.heap.size + 2) w.heap.size (w.heap.size + 1) none s1) := Lib.hid hd1
  have HB1 : Hid (Below w.heap.size w W1) := Lib.hid (below_by HB0.out hm1 (fun k hk => by unfold Own at hk; omega))
  clear hd1 hm1
  go_wp2_with fail
  refine (Open_any W1 (w.heap.size + 2) w.heap.size (w.heap.size + 1) none s1 0 4 H1.out HOFF1.out (by rw [HLEN1.out]; omega) ⟨by omega, by omega⟩ HLOG1.out).mono ?_
  rw [HOPN.out]
  rintro e W2 ⟨g, sv, bv, A, n, c, rfl, hn, hw2, hr2, hb2⟩
  rw [HREC1.out] at hn
  subst hn
  have HW2 : Hid (WalAt W2 (w.heap.size + 2) w.heap.size (w.heap.size + 1) none s1 g W1.heap.size sv bv m1) := Lib.hid hw2
  have HZ1 : Hid (w.heap.size ≤ W1.heap.size) := Lib.hid HB1.out.size
  have HB2 : Hid (Below w.heap.size w W2) := Lib.hid (HB1.out.trans (hb2.mono HB1.out.size))
  clear hw2 hr2 hb2
  go_wp2_with fail
  refine (Append_any W2 (w.heap.size + 2) w.heap.size (w.heap.size + 1) g W1.heap.size none s1 sv bv m1 HW2.out (by rw [HCNT1.out]; omega) 1 (.slice none 0 0) [] (RB.nil _ _)).mono ?_
  rw [HID1.out]
  rintro e W3 ⟨rfl, ⟨sv3, bv3, hw3⟩, hm3⟩
  have HW3 : Hid (WalAt W3 (w.heap.size + 2) w.heap.size (w.heap.size + 1) none s1 g W1.heap.size sv3 bv3 m1) := Lib.hid hw3
  have HB3 : Hid (Below w.heap.size w W3) := Lib.hid (below_by HB2.out hm3 (HW2.out.ownL HZ1.out))
  clear hw3 hm3
  go_wp2_with fail
  refine (Reset_any W3 (w.heap.size + 2) w.heap.size (w.heap.size + 1) g W1.heap.size none s1 sv3 bv3 m1 HW3.out (by have := HST1.out; omega)).mono ?_
  rw [HRES.out]
  rintro e W4 ⟨rfl, ⟨sv4, bv4, hw4⟩, hm4⟩
  have HW4 : Hid (WalAt W4 (w.heap.size + 2) w.heap.size (w.heap.size + 1) none s2 g W1.heap.size sv4 bv4 m2) := Lib.hid hw4
  have HB4 : Hid (Below w.heap.size w W4) := Lib.hid (below_by HB3.out hm4 (HW3.out.ownW ⟨by omega, by omega, by omega, HZ1.out⟩))
  clear hw4 hm4
  go_wp2_with fail
  refine (Append_any _ (w.heap.size + 2) w.heap.size (w.heap.size + 1) g W1.heap.size none s2 sv4 bv4 m2 (HW4.out.below ((Below.refl _ _).alloc (Nat.le_refl _) _)) (by rw [HCNT.out.1]; omega) 1 _ [97, 98] (RB.two W4 97 98 (by omega) (by omega))).mono ?_
  rw [HA2.out]
  rintro e W5 ⟨rfl, ⟨sv5, bv5, hw5⟩, hm5⟩
  have HW5 : Hid (WalAt W5 (w.heap.size + 2) w.heap.size (w.heap.size + 1) none s2 g W1.heap.size sv5 bv5 m3) := Lib.hid hw5
  have HB5 : Hid (Below w.heap.size w W5) := Lib.hid (below_by (HB4.out.alloc HB4.out.size _) hm5 (HW4.out.ownL HZ1.out))
  clear hw5 hm5 hcv
  go_wp2_with fail
  refine (Append_any W5 (w.heap.size + 2) w.heap.size (w.heap.size + 1) g W1.heap.size none s2 sv5 bv5 m3 HW5.out (by rw [HCNT.out.2.1]; omega) 2 (.slice none 0 0) [] (RB.nil _ _)).mono ?_
  rw [HA3.out]
  rintro e W6 ⟨rfl, ⟨sv6, bv6, hw6⟩, hm6⟩
  have HW6 : Hid (WalAt W6 (w.heap.size + 2) w.heap.size (w.heap.size + 1) none s2 g W1.heap.size sv6 bv6 m4) := Lib.hid hw6
  have HB6 : Hid (Below w.heap.size w W6) := Lib.hid (below_by HB5.out hm6 (HW5.out.ownL HZ1.out))
  clear hw6 hm6
  go_wp2_with fail
  refine (Flush_any W6 (w.heap.size + 2) w.heap.size (w.heap.size + 1) g W1.heap.size none s2 sv6 bv6 m4 HW6.out (by have := HST2.out; omega)).mono ?_
  rw [HFL.out]
  rintro e W7 ⟨rfl, hw7, hm7⟩
  have HW7 : Hid (WalAt W7 (w.heap.size + 2) w.heap.size (w.heap.size + 1) none s5 g W1.heap.size sv6 bv6 m5) := Lib.hid hw7
  have HB7 : Hid (Below w.heap.size w W7) := Lib.hid (below_by HB6.out hm7 (HW6.out.ownW ⟨by omega, by omega, by omega, HZ1.out⟩))
  clear hw7 hm7
  go_wp2_with fail
  refine (On_any W7 (w.heap.size + 2) w.heap.size (w.heap.size + 1) none s5 (.slice none 0 0) [] HW7.out.dk (RK.nil _ _) (by simp) (.inl rfl)).mono ?_
  rintro e W8 ⟨rfl, hd8, hm8⟩
  have H8 : Hid (DiskAt W8 (w.heap.size + 2) w.heap.size (w.heap.size + 1) none (s5.on [])) := Lib.hid hd8
  have HL8 : Hid (LogAt W8 (w.heap.size + 2) g W1.heap.size sv6 bv6 m5) := Lib.hid (HW7.out.log hm8)
  have HB8 : Hid (Below w.heap.size w W8) := Lib.hid (below_by HB7.out hm8 (fun k hk => by unfold Own at hk; omega))
  clear hd8 hm8
  go_wp2_with fail
  refine (Open_any W8 (w.heap.size + 2) w.heap.size (w.heap.size + 1) none (s5.on []) 0 4 H8.out rfl (by rw [HLEN5.out]; omega) ⟨by omega, by omega⟩ HLOG5.out).mono ?_
  rintro e W9 ⟨g9, sv9, bv9, A9, n9, c9, rfl, hn9, hw9, hr9, hb9⟩
  rw [HREC5.out.begs_len] at hn9
  have hn9' : n9 = 2 := hn9
  subst hn9'
  rw [HREC5.out.tells] at hr9
  have hr9' : RecsAt W9 (.slice A9 2 c9) (((LG.opened (s5.on []) 0 4).lsn (strm (exRecs.take 0)).length, 1, [97, 98]) :: ((List.range 1).map fun i => ((LG.opened (s5.on []) 0 4).lsn (strm (exRecs.take (i + 1))).length, (exRecs.getD (i + 1) (0, [])).1, (exRecs.getD (i + 1) (0, [])).2))) := hr9
  obtain ⟨b, off, A0, n0, c0, rfl, hcell, hrb⟩ := recs_first hr9'
  have hcv : (convert 22 9 (.slice A0 n0 c0)).run Try.prog W9 = .ok (.string (strOf [97, 98])) W9 := run_b2s W9 W9.heap.size _ [97, 98] hrb
  have es0 : strOf [97, 98] = ⟨#[97, 98]⟩ := by rfl
  rw [es0] at hcv
  have HL9 : Hid (LogAt W9 (w.heap.size + 2) g W1.heap.size sv6 bv6 m5) := Lib.hid (HL8.out.below hb9)
  have HB9 : Hid (Below w.heap.size w W9) := Lib.hid (HB8.out.trans (hb9.mono HB8.out.size))
  clear hn9 hw9 hr9 hr9' hb9 hrb es0
  go_wp2_with fail
  refine (logRoom_any W9 (w.heap.size + 2) g W1.heap.size sv6 bv6 m5 HL9.out).mono ?_
  rw [HROOM.out]
  rintro e W10 ⟨rfl, n10, hw10⟩
  have HB10 : Hid (Below w.heap.size w W10) := Lib.hid (by rw [hw10]; exact below_drewN HB9.out n10)
  clear hw10
  go_wp2_with fail
  go_ret
  exact ⟨rfl, HB10.out⟩
end Go.Proofs.Ytplkdcegfpiofaa

/-
  WalDies, in plain words. No walk.
-/
namespace Go.Proofs.Ytplkdcegfpiofaa
open Go.RowKit Go.Maps
set_option linter.unusedVariables false

theorem dead_append {m : LG} (kind : Int) (body : List Nat) (hd : m.dead = true) : m.append kind body = (m, 0, 91) := by unfold LG.append; rw [if_pos hd]
theorem dead_flush {m : LG} (s : DS) (hd : m.dead = true) : m.flush s = (s, m, 91) := by unfold LG.flush; rw [if_pos hd]
theorem dead_reset {m : LG} (s : DS) (hd : m.dead = true) : m.reset s = (s, m, 91) := by unfold LG.reset; rw [if_pos hd]
/-- A plan of one fate. -/
def OneFate (s : DS) (X : Nat) (q : Int) : Prop := ∀ j : Int, s.plan j = if j = (X : Int) then q else 0
theorem planned_one {s : DS} {X : Nat} {q : Int} (hX : s.steps < X) (hq : 1 ≤ q ∧ q ≤ 3) : OneFate (s.planned [((X : Int), q)]) X q := by
  intro j
  unfold DS.planned
  dsimp only
  by_cases hj : j ≤ (s.steps : Int)
  · rw [if_pos hj, if_neg (by omega)]
  · rw [if_neg hj]
    simp only [firstFate]
    by_cases h : j = (X : Int)
    · rw [if_pos h, if_pos ⟨h.symm, hq.1, hq.2⟩]
    · rw [if_neg h, if_neg (fun e => h e.1.symm)]
theorem Good.planned {s : DS} {m : LG} {rs : List RecT} (h : Good s m rs) (fs : List (Int × Int)) : Good (s.planned fs) m rs := ⟨h.ok, h.off, h.pend, h.fit, h.run, h.recs, h.dead, h.sec⟩
theorem flush_same {m : LG} (s : DS) (hd : m.dead = false) (hs : m.safe = m.st.length) : m.flush s = (s, m, 0) := by
  unfold LG.flush
  rw [if_neg (by rw [hd]; simp), if_pos hs]
/-- What a Flush does under a plan of one fate. -/
structure Dies (s : DS) (m : LG) (rs : List RecT) (X : Nat) (q : Int) : Prop where
  code : (m.flush s).2.2 ≠ 0 ↔ s.steps < X ∧ X ≤ (m.flush s).1.steps
  steps : (m.flush s).1.steps ≤ s.steps + 8
  well : (m.flush s).2.2 = 0 → Good (m.flush s).1 (m.flush s).2.1 rs ∧ OneFate (m.flush s).1 X q ∧ (m.flush s).2.1.flush (m.flush s).1 = ((m.flush s).1, (m.flush s).2.1, 0)
  dead : (m.flush s).2.2 ≠ 0 → (m.flush s).2.1.dead = true
  count : (m.flush s).2.1.count = m.count
set_option maxRecDepth 100000 in
theorem dies_flush {s : DS} {m : LG} {rs : List RecT} {X : Nat} {q : Int} (h : Good s m rs) (hc : m.count = 6) (hq : 1 ≤ q ∧ q ≤ 3) (hpl : OneFate s X q) : Dies s m rs X q := by
  have hd : ¬ m.dead = true := by rw [h.dead]; simp
  have hst := h.ok.st
  have hsf := h.ok.safe
  by_cases hs : m.safe = m.st.length
  · rw [hc] at hst
    have e := flush_same s h.dead hs
    refine ⟨?_, ?_, ?_, ?_, ?_⟩
    · rw [e]; dsimp only; constructor
      · intro h; exact absurd rfl h
      · intro h; omega
    · rw [e]; dsimp only; omega
    · intro _; rw [e]; exact ⟨h, hpl, e⟩
    · intro h; rw [e] at h; exact absurd rfl h
    · rw [e]
  · have hhit := save_hit (run := m.run) (first := m.first) h.recs.lt X q hq m.st.length (m.safe / 498) s h.off hpl (by omega) (by omega) (fun i hi => h.fits i hi hs)
    obtain ⟨k, hk⟩ : ∃ k, k = m.safe / 498 := ⟨_, rfl⟩
    obtain ⟨c6, hc6⟩ : ∃ c6, c6 = 6 := ⟨_, rfl⟩
    have hb6 : m.st.length ≤ (k + c6) * 498 := by rw [hc] at hst; omega
    have hsteps := steps_save (run := m.run) (st := m.st) (m.first : Int) c6 m.st.length k s hb6 (by omega)
    rw [hk] at hsteps
    have hplan := plan_save (run := m.run) (st := m.st) m.first m.st.length (m.safe / 498) s
    have e : m.flush s = if (DS.save m.run m.first m.st m.st.length (m.safe / 498) s).2 = 0 then ((DS.save m.run m.first m.st m.st.length (m.safe / 498) s).1, { m with safe := m.st.length }, 0) else ((DS.save m.run m.first m.st m.st.length (m.safe / 498) s).1, { m with dead := true }, (DS.save m.run m.first m.st m.st.length (m.safe / 498) s).2) := by
      unfold LG.flush
      rw [if_neg hd, if_neg hs]
    by_cases hv : (DS.save m.run m.first m.st m.st.length (m.safe / 498) s).2 = 0
    · rw [if_pos hv] at e
      have hw := h.flush_ok (by rw [e])
      have hng : ¬ (s.steps < X ∧ X ≤ (DS.save m.run m.first m.st m.st.length (m.safe / 498) s).1.steps) := fun h2 => (hhit.2 h2) hv
      refine ⟨?_, ?_, ?_, ?_, ?_⟩
      · rw [e]; dsimp only; constructor
        · intro h; exact absurd rfl h
        · intro h; exact absurd h hng
      · rw [e]; dsimp only; omega
      · intro _
        refine ⟨hw.1, ?_, ?_⟩
        · intro j; rw [e]; dsimp only; rw [hplan]; exact hpl j
        · exact flush_same _ hw.1.dead (by rw [hw.2.1])
      · intro h; rw [e] at h; exact absurd rfl h
      · rw [e]
    · rw [if_neg hv] at e
      refine ⟨?_, ?_, ?_, ?_, ?_⟩
      · rw [e]; exact hhit
      · rw [e]; dsimp only; omega
      · intro h; rw [e] at h; exact absurd h hv
      · intro _; rw [e]
      · rw [e]
theorem append_count (m : LG) (kind : Int) (body : List Nat) : (m.append kind body).1.count = m.count := by
  unfold LG.append
  repeat' split
  all_goals rfl
/-- What is known of the log between two rounds. -/
def DiesAt (wr : World) (p sb mb plb g B : Nat) (X : Nat) (q : Int) (k : Nat) (dead : Bool) (s : DS) (m : LG) (sv bv : Value) : Prop :=
  WalAt wr p sb mb (some plb) s g B sv bv m ∧ s.steps ≤ 4 + 8 * k ∧ m.count = 6 ∧ (dead = true → m.dead = true) ∧ (dead = false → ∃ rs, Good s m rs ∧ OneFate s X q)
/-- A slice of bytes in a row of such. -/
structure BV where
  A : Option Addr
  n : Nat
  c : Nat
  body : List Nat
instance : Inhabited BV := ⟨⟨none, 0, 0, []⟩⟩
def BV.v (x : BV) : Value := .slice x.A x.n x.c
def encBV (x : BV) : List Value := [x.v]
theorem encBV_len (x : BV) : (encBV x).length = 1 := rfl
/-- What is known of bodies that came in. -/
structure Bodies (W : World) (v : Value) (bs : List BV) : Prop where
  rk : RK encBV 1 W W.heap.size v bs
  len : bs.length ≤ 6000000000000
  at_ : ∀ x ∈ bs, RB W W.heap.size x.v x.body ∧ x.body.length ≤ 140737488351232
theorem RB.cutTo {w : World} {B b off n c : Nat} {l : List Nat} (h : RB w B (.slice (some ⟨b, off, none⟩) n c) l) (k : Nat) (hk : k ≤ n) : RB w B (.slice (some ⟨b, off, none⟩) k c) (l.take k) := by
  obtain ⟨h1, h2, A, c', e, h3, h4, h5⟩ := h
  injection e with e1 e2 e3
  subst e1 e2 e3
  refine ⟨fun x hx => h1 x (List.mem_of_mem_take hx), by rw [List.length_take]; omega, some ⟨b, off, none⟩, c, by rw [List.length_take, Nat.min_eq_left hk], by rw [List.length_take]; omega, h4, ?_⟩
  rcases h5 with h5 | ⟨b', off', e, hb, hc⟩
  · left; rw [h5]; simp
  · refine .inr ⟨b', off', e, hb, fun j x hx => hc j x ?_⟩
    rw [List.getElem?_take] at hx
    split at hx
    · exact hx
    · cases hx
end Go.Proofs.Ytplkdcegfpiofaa
