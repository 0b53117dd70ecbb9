/-
  The walk of PageRooms.
-/
import Derived.Test.YtknhlbbgjfcjaaaJ18
namespace Go.Proofs.Ytknhlbbgjfcjaaa
open Go.RowKit Go.Maps
set_option linter.unusedVariables false

theorem insE_off {m : PG} {i : Int} {l : List Nat} (h : i < 0 ∨ (m.items.length : Int) < i) : m.insE i l = 82 := by unfold PG.insE; rw [if_pos h]
theorem room_le (m : PG) : m.room ≤ 200 := by unfold PG.room; split <;> omega
theorem insE_big {m : PG} {i : Int} {l : List Nat} (h : ¬ (i < 0 ∨ (m.items.length : Int) < i)) (hr : m.room < (l.length : Int)) : m.insE i l ≠ 0 := by
  unfold PG.insE
  rw [if_neg h]
  by_cases h2 : 200 < l.length
  · rw [if_pos h2]; decide
  · rw [if_neg h2, if_pos hr]; decide
theorem insE_ok {m : PG} {i : Int} {l : List Nat} (h : ¬ (i < 0 ∨ (m.items.length : Int) < i)) (hr : (l.length : Int) ≤ m.room) : m.insE i l = 0 := by
  have := room_le m
  unfold PG.insE
  rw [if_neg h, if_neg (by omega), if_neg (by omega)]
theorem insert_len {m : PG} {i : Nat} {l : List Nat} (h : i ≤ m.items.length) : (m.insert i l).items.length = m.items.length + 1 := by unfold PG.insert; simp; omega
theorem insert_get {m : PG} {i : Nat} {l : List Nat} (h : i ≤ m.items.length) : (m.insert i l).items.getD i [] = l := by
  unfold PG.insert
  dsimp only
  have ht : (m.items.take i).length = i := by rw [List.length_take]; omega
  rw [List.getD, List.append_assoc, List.getElem?_append_right (by omega), ht, Nat.sub_self]
  rfl
theorem insert_remove {m : PG} {i : Nat} {l : List Nat} (h : i ≤ m.items.length) : (m.insert i l).remove i = m := by
  have ht : (m.items.take i).length = i := by rw [List.length_take]; omega
  have e : (m.items.take i ++ [l] ++ m.items.drop i).eraseIdx i = m.items := by
    rw [List.append_assoc, List.eraseIdx_append_of_length_le (by omega), ht, Nat.sub_self, List.singleton_append, List.eraseIdx_cons_zero, List.take_append_drop]
  unfold PG.insert PG.remove
  dsimp only
  rw [e]
theorem BB.row512 {w : World} {g : Nat} {t : TypeId} {L : List Nat} (h : BB w g t L) (hl : L.length = 512) : RB w w.heap.size (.slice (some ⟨g, 0, none⟩) 512 512) L := by
  have h1 := h.rb (lo := 0) (m := 512) (c := 512) (by omega) (by omega) (by omega) h.size
  rw [List.drop_zero, List.take_of_length_le (by omega)] at h1
  exact h1
theorem sameB_self (l : List Nat) : sameB l l = true := by simp [sameB]
theorem sameT_self (l : List (List Nat)) : sameT l l = true := by simp [sameT]
set_option maxRecDepth 100000 in
set_option maxHeartbeats 1000000 in
theorem pageRooms_any (w : World) (sv : Value) (os : List PgOpV) (i : Int) (iv : Value) (l : List Nat) (hs : PgScript w sv os) (hv : RB w w.heap.size iv l) :
    Calls Try.prog 6 #[sv, .int .i64 i, iv] w fun e w' => e = .returned (.bool true) ∧ Below w.heap.size w w' := by
  have HSC := Lib.hid hs
  have HV := Lib.hid hv
  obtain ⟨AI, cI, rfl, hll, _, hl47, -⟩ := hv.open_
  clear hs hv
  go_enter Try.func6, Try.ntmps6
  go_wp2_with fail
  refine (filled_any w sv os HSC.out).mono ?_
  rintro e w1 ⟨p, v, xs, rfl, hp1, hb1⟩
  obtain ⟨m, hm⟩ : ∃ m, m = (PG.new 3 9).runs os := ⟨_, rfl⟩
  have hfit : m.Fit := by rw [hm]; exact (new_fit 3 9).runs os
  rw [← hm] at hp1
  have HP1 := Lib.hid hp1
  have HB1 := Lib.hid hb1
  have HFIT := Lib.hid hfit
  clear hp1 hb1 hm hfit
  go_wp2_with fail
  refine (alive8_any w1).mono ?_
  rintro e w2 ⟨rfl, hb2⟩
  have HP2 := Lib.hid (HP1.out.below hb2)
  have HB2 := Lib.hid (HB1.out.trans (hb2.mono HB1.out.size))
  clear hb2
  go_wp2_with fail
  refine (items_any w2 p _ v xs m HP2.out).mono ?_
  rintro e w3 ⟨u, ys, rfl, ht3, hb3⟩
  obtain ⟨AU, cU, rfl⟩ := ht3.open_
  have HP3 := Lib.hid (HP2.out.below hb3)
  have HB3 := Lib.hid (HB2.out.trans (hb3.mono HB2.out.size))
  have hz3 := hb3.size
  have hz2 := HB2.out.size
  obtain ⟨n, hn⟩ : ∃ n, n = m.items.length := ⟨_, rfl⟩
  obtain ⟨r, hr⟩ : ∃ r, r = m.room := ⟨_, rfl⟩
  have hn100 : n ≤ 100 := by rw [hn]; exact HP2.out.ok.num
  have hn1 : IntKind.i64.wrap ((n : Int) + 1) = (n : Int) + 1 := by rw [IntKind.wrap_i64]; omega
  rw [← hn] at ht3 ⊢
  have HT3 := Lib.hid ht3
  have HN := Lib.hid hn
  have HR := Lib.hid hr
  have HRL2 := Lib.hid HP2.out.rowlt
  have hbase := HP2.out.base
  have HOWN2 : Hid (∀ k, v.ownBlock = some k → w.heap.size ≤ k) := fun k e => (HP2.out.row.lt k e).1
  clear ht3 hb3 hn hr
  go_wp2_with fail
  refine (pageRoom_any w3 p _ v xs m HP3.out).mono ?_
  rw [← HR.out]
  rintro e w4 ⟨rfl, rfl⟩
  go_wp2_with fail
  refine (pageLen_n HP3.out HN.out).mono ?_
  rintro e w4 ⟨rfl, hw4⟩
  subst w4
  go_wp2_with fail
  refine (pageBytes_any w3 p _ v xs m HP3.out HFIT.out).mono ?_
  rintro e w4 ⟨g, rfl, hg4, hbb4, hb4⟩
  have HP4 := Lib.hid (HP3.out.below hb4)
  have HB4 := Lib.hid (HB3.out.trans (hb4.mono HB3.out.size))
  have HT4 := Lib.hid (HT3.out.below hb4)
  have HG4 := Lib.hid hbb4
  have hz4 := hb4.size
  have hgl := hbb4.size
  clear hbb4 hb4
  go_wp2_with fail
  obtain ⟨m', hm'⟩ : ∃ m', m' = if m.insE i l = 0 then m.insert i.toNat l else m := ⟨_, rfl⟩
  refine (pageInsert_u HP4.out i ((HV.out.below HB4.out).more HB4.out.size) hm').mono ?_
  rintro e w5 ⟨rfl, hout⟩
  obtain ⟨fe, hfe⟩ : ∃ fe, fe = m.insE i l := ⟨_, rfl⟩
  rw [← hfe] at hm' ⊢
  have hb5 := hout.below0 HB4.out (by omega) HOWN2.out
  obtain ⟨v5, xs5, hp5, hs5, _⟩ := hout
  have hS : ∀ k, (k = p ∨ v.ownBlock = some k) → k < w2.heap.size := HRL2.out
  have HT5 := Lib.hid (HT4.out.mod hs5.mod (fun k e q => by have := hS k e; omega))
  have HG5 := Lib.hid (HG4.out.mod hs5.mod (fun e => by have := hS g e; omega))
  have HP5 := Lib.hid hp5
  have HB5 := Lib.hid hb5
  have HS5 := Lib.hid hs5
  have HFE := Lib.hid hfe
  have HM' := Lib.hid hm'
  have hz5 := hs5.mod.size
  have hlenL := pageL_len HFIT.out
  have HLL := Lib.hid hlenL
  clear hb5 hp5 hs5 hfe hm' hS hlenL
  by_cases hin : i < 0 ∨ (n : Int) < i
  · have h82 : fe = 82 := by rw [HFE.out]; exact insE_off (by rw [← HN.out]; exact hin)
    subst h82
    have hmm : m' = m := HM'.out
    subst hmm
    by_cases hi : i < 0
    · have hi2 : ¬ 0 ≤ i := by omega
      clear hin
      go_wp2_with fail
      refine (pageBytes_any w5 p _ v5 xs5 _ HP5.out HFIT.out).mono ?_
      rintro e w6 ⟨g6, rfl, hg6, hbb6, hb6⟩
      have hrow6 := hbb6.row512 HLL.out
      have hrow5 := ((HG5.out.row512 HLL.out).below hb6).more hb6.size
      have HB6 := Lib.hid (HB5.out.trans (hb6.mono HB5.out.size))
      have HR6 := Lib.hid hrow6
      have HR5 := Lib.hid hrow5
      clear hbb6 hb6 hg6 hrow6 hrow5
      go_wp2_with fail
      refine (same_b HR6.out HR5.out).mono ?_
      rw [sameB_self]
      rintro e w7 ⟨rfl, hb7⟩
      have HB7 := Lib.hid (HB6.out.trans (hb7.mono HB6.out.size))
      clear hb7
      go_wp2_with fail
      go_ret
      exact ⟨rfl, HB7.out⟩
    · have hi2 : 0 ≤ i := by omega
      have hi3 : ¬ i ≤ (n : Int) := by omega
      clear hin
      go_wp2_with fail
      refine (pageBytes_any w5 p _ v5 xs5 _ HP5.out HFIT.out).mono ?_
      rintro e w6 ⟨g6, rfl, hg6, hbb6, hb6⟩
      have hrow6 := hbb6.row512 HLL.out
      have hrow5 := ((HG5.out.row512 HLL.out).below hb6).more hb6.size
      have HB6 := Lib.hid (HB5.out.trans (hb6.mono HB5.out.size))
      have HR6 := Lib.hid hrow6
      have HR5 := Lib.hid hrow5
      clear hbb6 hb6 hg6 hrow6 hrow5
      go_wp2_with fail
      refine (same_b HR6.out HR5.out).mono ?_
      rw [sameB_self]
      rintro e w7 ⟨rfl, hb7⟩
      have HB7 := Lib.hid (HB6.out.trans (hb7.mono HB6.out.size))
      clear hb7
      go_wp2_with fail
      go_ret
      exact ⟨rfl, HB7.out⟩
  · have hi1 : 0 ≤ i := by omega
    have hi2 : i ≤ (n : Int) := by omega
    by_cases hbig : r < (l.length : Int)
    · have hne : fe ≠ 0 := by rw [HFE.out]; exact insE_big (by rw [← HN.out]; exact hin) (by rw [← HR.out]; exact hbig)
      have hne2 : ¬ fe = 0 := hne
      have hne3 : (fe == 0) = false := by simpa using hne
      have hmm : m' = m := by rw [HM'.out, if_neg hne]
      subst hmm
      have hbig2 : ¬ (l.length : Int) ≤ r := by omega
      clear hin hne
      go_wp2_with fail
      refine (pageBytes_any w5 p _ v5 xs5 _ HP5.out HFIT.out).mono ?_
      rintro e w6 ⟨g6, rfl, hg6, hbb6, hb6⟩
      have hrow6 := hbb6.row512 HLL.out
      have hrow5 := ((HG5.out.row512 HLL.out).below hb6).more hb6.size
      have HB6 := Lib.hid (HB5.out.trans (hb6.mono HB5.out.size))
      have HR6 := Lib.hid hrow6
      have HR5 := Lib.hid hrow5
      clear hbb6 hb6 hg6 hrow6 hrow5
      go_wp2_with fail
      refine (same_b HR6.out HR5.out).mono ?_
      rw [sameB_self]
      rintro e w7 ⟨rfl, hb7⟩
      have HB7 := Lib.hid (HB6.out.trans (hb7.mono HB6.out.size))
      clear hb7
      go_wp2_with fail
      go_ret
      exact ⟨rfl, HB7.out⟩
    · have h0 : fe = 0 := by rw [HFE.out]; exact insE_ok (by rw [← HN.out]; exact hin) (by rw [← HR.out]; omega)
      subst h0
      obtain ⟨k, rfl⟩ : ∃ k : Nat, i = (k : Int) := ⟨i.toNat, by omega⟩
      have hmm : m' = m.insert k l := HM'.out
      subst hmm
      have hkm : k ≤ m.items.length := by rw [← HN.out]; omega
      have hn' : n + 1 = (m.insert k l).items.length := by rw [insert_len hkm, HN.out]
      have hslot : (m.insert k l).isSlot (k : Int) = true := by rw [slot_iff]; rw [← hn']; omega
      have hget : (m.insert k l).items.getD (k : Int).toNat [] = l := insert_get hkm
      have hback : (m.insert k l).remove (k : Int).toNat = m := insert_remove hkm
      have HN' := Lib.hid hn'
      have HSL := Lib.hid hslot
      have HGET := Lib.hid hget
      have HBACK := Lib.hid hback
      have hle : (l.length : Int) ≤ r := by omega
      clear hin hbig hn' hslot hget hback hkm
      go_wp2_with fail
      refine (pageItem_yes HP5.out HSL.out).mono ?_
      rintro e w6 ⟨⟨A6, n6, c6, rfl, ho6, hn6⟩, hb6⟩
      rw [HGET.out] at ho6
      have HO6 := Lib.hid ho6
      have HP6 := Lib.hid (HP5.out.below hb6)
      have HB6 := Lib.hid (HB5.out.trans (hb6.mono HB5.out.size))
      have HT6 := Lib.hid (HT5.out.below hb6)
      have HG6 := Lib.hid (HG5.out.below hb6 HG5.out.size)
      have hz6 := hb6.size
      clear ho6 hn6 hb6
      go_wp2_with fail
      refine (same_b HO6.out.rbn ((HV.out.below HB6.out).more HB6.out.size)).mono ?_
      rw [sameB_self]
      rintro e w7 ⟨rfl, hb7⟩
      have HP7 := Lib.hid (HP6.out.below hb7)
      have HB7 := Lib.hid (HB6.out.trans (hb7.mono HB6.out.size))
      have HT7 := Lib.hid (HT6.out.below hb7)
      have HG7 := Lib.hid (HG6.out.below hb7 HG6.out.size)
      have hz7 := hb7.size
      clear hb7
      go_wp2_with fail
      refine (pageLen_n HP7.out HN'.out).mono ?_
      rintro e w8 ⟨rfl, hw8⟩
      subst w8
      go_wp2_with fail
      refine (pageRemove_u HP7.out (k : Int) (m' := m) (by rw [HSL.out, if_pos rfl, HBACK.out])).mono ?_
      rw [HSL.out, if_pos rfl]
      rintro e w8 ⟨rfl, hout⟩
      obtain ⟨v8, xs8, hp8, hs8, _⟩ := hout
      have hown5 : ∀ q, v5.ownBlock = some q → w.heap.size ≤ q ∧ (q < w2.heap.size ∨ w4.heap.size ≤ q) := fun q e => by
        rcases HS5.out.own with h | h
        · rw [h] at e; have := HOWN2.out q e; have := HRL2.out q (.inr e); omega
        · have := h q e; have := HB4.out.size; omega
      have hp2 : p < w2.heap.size := HRL2.out p (.inl rfl)
      have HT8 := Lib.hid (HT7.out.mod hs8.mod (fun q e h => by rcases e with e | e; omega; have := hown5 q e; omega))
      have HG8 := Lib.hid (HG7.out.mod hs8.mod (fun e => by rcases e with e | e; omega; have := hown5 g e; omega))
      have HP8 := Lib.hid hp8
      have HB8 := Lib.hid (HB7.out.trans (hs8.mod.below HB7.out.size (fun q e => by rcases e with e | e; omega; exact (hown5 q e).1)))
      clear hp8 hs8 hown5
      go_wp2_with fail
      refine (items_any w8 p _ v8 xs8 m HP8.out).mono ?_
      rintro e w9 ⟨u9, ys9, rfl, ht9, hb9⟩
      have HP9 := Lib.hid (HP8.out.below hb9)
      have HB9 := Lib.hid (HB8.out.trans (hb9.mono HB8.out.size))
      have HT9 := Lib.hid (HT8.out.below hb9)
      have HG9 := Lib.hid (HG8.out.below hb9 HG8.out.size)
      have HU9 := Lib.hid ht9
      obtain ⟨A9, c9, rfl⟩ := ht9.open_
      clear ht9 hb9
      go_wp2_with fail
      refine (same8_any w9 _ _ _ _ _ _ _ _ HU9.out HT9.out).mono ?_
      rw [sameT_self]
      rintro e wa ⟨rfl, hba⟩
      have HPa := Lib.hid (HP9.out.below hba)
      have HBa := Lib.hid (HB9.out.trans (hba.mono HB9.out.size))
      have HGa := Lib.hid (HG9.out.below hba HG9.out.size)
      clear hba
      go_wp2_with fail
      refine (pageRoom_any wa p _ v8 xs8 m HPa.out).mono ?_
      rw [← HR.out]
      rintro e wb ⟨rfl, rfl⟩
      go_wp2_with fail
      refine (pageBytes_any wa p _ v8 xs8 m HPa.out HFIT.out).mono ?_
      rintro e wc ⟨gc, rfl, hgc, hbbc, hbc⟩
      have hrowc := hbbc.row512 HLL.out
      have hrowa := ((HGa.out.row512 HLL.out).below hbc).more hbc.size
      have HBc := Lib.hid (HBa.out.trans (hbc.mono HBa.out.size))
      have HRc := Lib.hid hrowc
      have HRa := Lib.hid hrowa
      clear hbbc hbc hgc hrowc hrowa
      go_wp2_with fail
      refine (same_b HRc.out HRa.out).mono ?_
      rw [sameB_self]
      rintro e wd ⟨rfl, hbd⟩
      have HBd := Lib.hid (HBc.out.trans (hbd.mono HBc.out.size))
      clear hbd
      go_wp2_with fail
      go_ret
      exact ⟨rfl, HBd.out⟩
theorem pageRooms_row (w : World) (sv : Value) (os : List PgOpV) (i : Int) (iv : Value) (l : List Nat) (hs : PgScript w sv os) (hi : (Lit.int .i64 i).wf = true) (hv : RB w w.heap.size iv l) (hb : l.length ≤ 140737488351232) :
    Calls Try.prog 6 #[sv, .int .i64 i, iv] w fun e w' => e = .returned (.bool true) ∧ Below w.heap.size w w' := pageRooms_any w sv os i iv l hs hv
end Go.Proofs.Ytknhlbbgjfcjaaa
