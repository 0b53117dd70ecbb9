/-
  slices.Insert at a row of slices, all roads; the walks of page's Insert, SetExtra and SetLSN.
-/
import Derived.Test.YtdghanhpeekbhaaZJ4
namespace Go.Proofs.Ytdghanhpeekbhaa
open Go.RowKit Go.Maps Go.Sort Go.Shelf
set_option linter.unusedVariables false

theorem OK.ofBlk {w : World} {B g n C : Nat} {cur : Array Value} {L : List Sl} (hb : Blk w g 22 cur) (hB : B ≤ g) (hn : L.length = n) (hn1 : n ≤ 1000000) (hC : n ≤ C) (hC2 : C ≤ maxLen) (hs : cur.size = C) (ht : cur.toList.take n = L.map slV) :
    OK encSl 1 22 w B (.slice (some ⟨g, 0, none⟩) n C) L := by
  refine ⟨by omega, ?_, .inr ⟨g, C, cur, by rw [hn], hB, hb, by omega, hC2, by omega, ?_⟩⟩
  · rw [flat_encSl, List.length_map, Nat.mul_one]
  · rw [Nat.mul_one, hn, flat_encSl]; exact ht

theorem ins_any (w : World) (B : Nat) (v : Value) (xs : List Sl) (y : Sl) (i h0 : Nat) (h : OK encSl 1 22 w B v xs) (hi : i ≤ xs.length) (hn1 : xs.length ≤ 1000) (hh : Blk w h0 22 #[slV y]) (hne : v.ownBlock ≠ some h0) (hB : B ≤ w.heap.size) :
    Calls Try.prog 62 #[v, .int .i64 (i : Int), .slice (some ⟨h0, 0, none⟩) 1 1] w fun e w' => ∃ v', e = .returned v' ∧ OK encSl 1 22 w' B v' (xs.take i ++ [y] ++ xs.drop i) ∧ Mod (fun k => v.ownBlock = some k) w w' ∧ (v'.ownBlock = v.ownBlock ∨ v'.ownBlock = some w.heap.size) := by
  have hlen : (xs.take i ++ [y] ++ xs.drop i).length = xs.length + 1 := by simp; omega
  by_cases hin : i = xs.length
  · subst hin
    refine (ins_end w B v xs y h0 h hn1 hh hB).mono ?_
    rintro e w' ⟨v', rfl, h1, h2, h3⟩
    refine ⟨v', rfl, ?_, (Mod.of_grown h2).mono (fun k _ e => e.symm), h3⟩
    rw [List.take_length, List.drop_length, List.append_nil]; exact h1
  · obtain ⟨h1, h2, h3⟩ := h
    rcases h3 with ⟨rfl, hn⟩ | ⟨g, cap, cur, rfl, hgB, hg, hnc, hcm, hsz, htk⟩
    · omega
    · have htk' : cur.toList.take xs.length = xs.map slV := by rw [flat_encSl, Nat.mul_one] at htk; exact htk
      have hblk : Blk w g 22 cur := hg
      by_cases hr : xs.length + 1 ≤ cap
      · refine (ins_room w xs y i xs.length g cap h0 cur hblk rfl hn1 (by omega) htk' (by omega) hr (by simpa [maxLen] using hcm) hh (fun e => hne (by rw [e]; rfl))).mono ?_
        rintro e w' ⟨rfl, cur', hb', hs', ht', hm'⟩
        exact ⟨_, rfl, OK.ofBlk hb' hgB hlen (by omega) (by omega) hcm hs' ht', hm'.mono (fun k _ e => by subst e; rfl), .inl rfl⟩
      · refine (ins_grow w xs y i xs.length g cap h0 cur hblk rfl hn1 (by omega) htk' (by omega) hnc (by omega) hh).mono ?_
        rintro e w' ⟨C, rfl, hC1, hC2, cur', hb', hs', ht', hbw⟩
        exact ⟨_, rfl, OK.ofBlk hb' hB hlen (by omega) hC1 hC2 hs' ht', Mod.of_below hbw _, .inr rfl⟩

def PG.insert (m : PG) (i : Nat) (l : List Nat) : PG := { m with items := m.items.take i ++ [l] ++ m.items.drop i }

def PG.insE (m : PG) (i : Int) (l : List Nat) : Int := if i < 0 ∨ (m.items.length : Int) < i then 82 else if 200 < l.length then 4 else if m.room < (l.length : Int) then 81 else 0

theorem PG.Ok.insert {m : PG} (h : m.Ok) {i : Nat} {l : List Nat} (hi : i ≤ m.items.length) (hn : m.items.length < 100) (hl : l.length ≤ 200) : (m.insert i l).Ok := by
  refine ⟨?_, ?_, h.lsn, h.kind, h.extra⟩
  · unfold PG.insert; simp; omega
  · unfold PG.insert
    intro q hq
    rcases List.mem_append.1 hq with hq | hq
    · rcases List.mem_append.1 hq with hq | hq
      · exact h.item q (List.mem_of_mem_take hq)
      · rw [List.mem_singleton.1 hq]; exact hl
    · exact h.item q (List.mem_of_mem_drop hq)

theorem ins_get {α : Type} {L : List α} {i j : Nat} {y x : α} (hi : i ≤ L.length) (h : (L.take i ++ [y] ++ L.drop i)[j]? = some x) : (j < i ∧ L[j]? = some x) ∨ (j = i ∧ x = y) ∨ (i < j ∧ L[j - 1]? = some x) := by
  have ht : (L.take i).length = i := by rw [List.length_take]; omega
  rcases Nat.lt_trichotomy j i with hj | hj | hj
  · rw [List.append_assoc, List.getElem?_append_left (by omega), List.getElem?_take, if_pos hj] at h
    exact .inl ⟨hj, h⟩
  · subst hj
    rw [List.append_assoc, List.getElem?_append_right (by omega), ht, Nat.sub_self] at h
    simp at h
    exact .inr (.inl ⟨rfl, h.symm⟩)
  · rw [List.append_assoc, List.getElem?_append_right (by omega), ht, List.getElem?_append_right (by simp; omega), List.getElem?_drop] at h
    refine .inr (.inr ⟨hj, ?_⟩)
    rw [← h]; congr 1; simp; omega

set_option maxHeartbeats 1000000 in
/-- The row's Insert inside page's Insert, the item laid already. -/
theorem ins_arm (w W1 : World) (p B : Nat) (A : Option Addr) (n c : Nat) (xs : List Sl) (m : PG) (h : PageAt w p B (.slice A n c) xs m) (hn : n = m.items.length) (hn1 : n < 100) (k : Nat) (hk : k ≤ n) (l : List Nat) (hl : l.length ≤ 200) (A1 : Option Addr) (c1 : Nat) (hb1 : Below w.heap.size w W1) (ho1 : OB W1 w.heap.size (.slice A1 l.length c1) l) :
    Calls Try.prog 62 #[.slice A n c, .int .i64 (k : Int), .slice (some ⟨W1.heap.size, 0, none⟩) 1 1] (W1.alloc (.cells #[.slice A1 l.length c1] 22)) fun e W3 =>
      ∃ A3 c3, e = .returned (.slice A3 (n + 1) c3) ∧ W3.cell? ⟨p, 3, none⟩ = some (.slice A n c) ∧ W3.frozen? ⟨p, 3, none⟩ = false ∧
        Hid (PageAt (W3.setCell ⟨p, 3, none⟩ (.slice A3 (n + 1) c3)) p B (.slice A3 (n + 1) c3) (xs.take k ++ [((A1, l.length, c1) : Sl)] ++ xs.drop k) (m.insert k l)) ∧ Hid (PgStep w (W3.setCell ⟨p, 3, none⟩ (.slice A3 (n + 1) c3)) p (.slice A n c) (.slice A3 (n + 1) c3)) ∧ Hid (Off (fun k => k < w.heap.size) (slV ((A1, l.length, c1) : Sl)) l) := by
  have hz1 := hb1.size
  have hplt := h.lt
  have hxn : xs.length = n := by rw [h.len, hn]
  refine (ins_any _ B (.slice A n c) xs (A1, l.length, c1) k W1.heap.size ((h.row.below hb1).alloc _) (by omega) (by omega) (Blk.new W1 _ _) (fun e => by have := (h.row.lt _ e).2; omega) (by have := h.base; simp; omega)).mono ?_
  rintro e W3 ⟨v3, rfl, ho3, hm3, hw3⟩
  have hxl : (xs.take k ++ [((A1, l.length, c1) : Sl)] ++ xs.drop k).length = n + 1 := by simp; omega
  obtain ⟨A3, c3, rfl, _, _, _, _⟩ := (ho3.rk encSl_len (Nat.le_refl _)).open_
  rw [hxl] at ho3 hw3 ⊢
  have hba : Blk (W1.alloc (.cells #[.slice A1 l.length c1] 22)) p 62 _ := (h.blk.below hb1 hplt).alloc _
  have hbk3 := hba.mod hm3 (by intro e; exact h.far e)
  have hplt3 : p < W3.heap.size := hbk3.lt
  have hst : Mod (fun q => q = p) W3 (W3.setCell ⟨p, 3, none⟩ (.slice A3 (n + 1) c3)) := (Mod.refl (fun q => q = p) W3).setCell (p := ⟨p, 3, none⟩) (fun _ => rfl) _
  have hw2 : Mod (fun q => q = p ∨ (Value.slice A n c).ownBlock = some q) w (W1.alloc (.cells #[.slice A1 l.length c1] 22)) := (Mod.of_below hb1 _).alloc _
  have hw4 : Mod (fun q => q = p ∨ (Value.slice A n c).ownBlock = some q) w W3 := hw2.trans hm3 (fun q _ e => .inr e)
  have hall := hw4.trans hst (fun q _ e => .inl e)
  have hnp : (Value.slice A3 (n + 1) c3).ownBlock ≠ some p := fun e => by
    rcases hw3 with h1 | h1
    · rw [h1] at e; exact h.far e
    · rw [h1] at e; injection e with e; simp at e; omega
  have hOK := h.ok.insert (l := l) (i := k) (by omega) (by omega) hl
  have hrb : RB (W3.setCell ⟨p, 3, none⟩ (.slice A3 (n + 1) c3)) (W3.setCell ⟨p, 3, none⟩ (.slice A3 (n + 1) c3)).heap.size (.slice A1 l.length c1) l := by
    have ho2 := ho1.alloc (.cells #[.slice A1 l.length c1] 22)
    have ho3 := ho2.mod hm3 (fun b hb e => by have h1 := (ho1.lt b hb).1; have h2 := (h.row.lt b e).2; omega)
    exact (ho3.mod hst (fun b hb e => by have h1 := (ho1.lt b hb).1; subst e; omega)).rbn
  have hoff : Off (fun q => q = p ∨ (Value.slice A3 (n + 1) c3).ownBlock = some q) (Value.slice A1 l.length c1) l := .inr fun b hb e => by
    have h1 := ho1.lt b hb
    rcases e with e | e
    · subst e; omega
    · rcases hw3 with h2 | h2
      · rw [h2] at e; have h3 := (h.row.lt b e).2; omega
      · rw [h2] at e; injection e with e; simp at e; omega
  refine ⟨A3, c3, rfl, hbk3.cell 3, hbk3.frozen 3, ⟨hOK, hbk3.set_ 3 _, ho3.mod hst (fun b hb e => hnp (by rw [hb, e])), ?_, ?_, hnp, h.base⟩, ⟨hall, ?_⟩, .inr fun b hb e => by have h1 := (ho1.lt b hb).1; omega⟩
  · rw [hxl]; unfold PG.insert; dsimp only; simp; omega
  · intro j x l' hx hl'
    have e1 := ins_get (by omega) hx
    have e2 := ins_get (L := m.items) (by omega) hl'
    have key : ∀ q, xs[q]? = some x → m.items[q]? = some l' → RB (W3.setCell ⟨p, 3, none⟩ (.slice A3 (n + 1) c3)) (W3.setCell ⟨p, 3, none⟩ (.slice A3 (n + 1) c3)).heap.size (slV x) l' ∧ Off (fun q => q = p ∨ (Value.slice A3 (n + 1) c3).ownBlock = some q) (slV x) l' := fun q hq hq2 => by
      obtain ⟨r1, r2⟩ := h.item q x l' hq hq2
      refine ⟨r1.mod hall r2, ?_⟩
      rcases r2 with r2 | r2
      · exact .inl r2
      · have r3 := RB.off (S := fun q => w.heap.size ≤ q) r1 (fun _ h h2 => by omega)
        rcases r3 with r3 | r3
        · exact .inl r3
        · refine .inr fun b hb e => ?_
          rcases e with e | e
          · exact r2 b hb (.inl e)
          · rcases hw3 with h2 | h2
            · rw [h2] at e; exact r2 b hb (.inr e)
            · rw [h2] at e; injection e with e; exact r3 b hb (by simp at e; omega)
    rcases e1 with ⟨q1, q2⟩ | ⟨q1, q2⟩ | ⟨q1, q2⟩ <;> rcases e2 with ⟨q3, q4⟩ | ⟨q3, q4⟩ | ⟨q3, q4⟩ <;> first | omega | exact key _ q2 q4 | (subst q2 q4; exact ⟨hrb, hoff⟩)
  · rcases hw3 with h2 | h2
    · exact .inl h2
    · refine .inr fun b hb => ?_
      rw [h2] at hb; injection hb with hb; simp at hb; omega

set_option maxRecDepth 100000 in
set_option maxHeartbeats 4000000 in
theorem pageInsert_any (w : World) (p B : Nat) (v : Value) (xs : List Sl) (m : PG) (h : PageAt w p B v xs m) (i : Int) (iv : Value) (l : List Nat) (hv : RB w w.heap.size iv l) :
    Calls Try.prog 21 #[.pointer (some ⟨p, 0, none⟩), .int .i64 i, iv] w fun e w' => e = .returned (.int .i64 (m.insE i l)) ∧
      ((m.insE i l ≠ 0 ∧ w' = w) ∨ (m.insE i l = 0 ∧ ∃ v' x, Off (fun k => k < w.heap.size) (slV x) l ∧ PageAt w' p B v' (xs.take i.toNat ++ [x] ++ xs.drop i.toNat) (m.insert i.toNat l) ∧ PgStep w w' p v v')) := by
  have H := Lib.hid h
  have HV := Lib.hid hv
  obtain ⟨AI, cI, rfl, _, _, hl47, _⟩ := hv.open_
  have hnum := h.ok.num
  obtain ⟨s, hsv⟩ : ∃ s, s = m.isSlot i := ⟨_, rfl⟩
  obtain ⟨n, hn⟩ : ∃ n, n = m.items.length := ⟨_, rfl⟩
  obtain ⟨r, hr⟩ : ∃ r, r = m.room := ⟨_, rfl⟩
  have hs' : s = (decide (0 ≤ i) && decide (i < n)) := by rw [hsv, hn]; rfl
  have HS := Lib.hid hsv
  have HN := Lib.hid hn
  have HR := Lib.hid hr
  rw [← hn] at hnum
  clear h hv hsv hn hr
  by_cases h1 : i < 0 ∨ (n : Int) < i
  · have he : m.insE i l = 82 := by unfold PG.insE; rw [← HN.out, if_pos h1]
    have HE := Lib.hid he
    have hsf : s = false := by rw [hs']; simp; omega
    have hd : decide (i = (n : Int)) = false := by simp; omega
    have hd2 : ¬ i = (n : Int) := by omega
    clear he hs'
    go_enter Try.func21, Try.ntmps21
    go_wp2_with fail
    refine (pageIsSlot_any w p B v xs m H.out i).mono ?_
    rw [← HS.out, hsf]
    rintro e w1 ⟨rfl, rfl⟩
    go_wp2_with fail
    refine (pageLen_any w p B v xs m H.out).mono ?_
    rw [← HN.out]
    rintro e w1 ⟨rfl, rfl⟩
    go_wp2_with fail
    go_ret
    exact ⟨by rw [HE.out]; rfl, .inl ⟨by rw [HE.out]; decide, rfl⟩⟩
  · obtain ⟨k, rfl⟩ : ∃ k : Nat, i = (k : Int) := ⟨i.toNat, by omega⟩
    have hkn : k ≤ n := by omega
    have hslot : s = decide (k < n) := by rw [hs']; simp
    clear hs'
    have hfront : ∀ (Q : Ending → World → Prop), (m.insE (k : Int) l = if 200 < l.length then 4 else if r < (l.length : Int) then 81 else 0) := fun _ => by
      unfold PG.insE; rw [← HN.out, ← HR.out, if_neg h1]
    have HF := Lib.hid (hfront (fun _ _ => True))
    clear hfront h1
    by_cases h2 : 200 < l.length
    · have HE : Hid (m.insE (k : Int) l = 4) := by show _ = _; rw [HF.out, if_pos h2]
      by_cases hk : k < n
      · have hst : s = true := by rw [hslot]; simpa using hk
        clear hslot
        go_enter Try.func21, Try.ntmps21
        go_wp2_with fail
        refine (pageIsSlot_any w p B v xs m H.out _).mono ?_
        rw [← HS.out, hst]
        rintro e w1 ⟨rfl, rfl⟩
        go_wp2_with fail
        go_ret
        exact ⟨by rw [HE.out]; rfl, .inl ⟨by rw [HE.out]; decide, rfl⟩⟩
      · have hst : s = false := by rw [hslot]; simpa using hk
        obtain rfl : k = n := by omega
        clear hslot
        go_enter Try.func21, Try.ntmps21
        go_wp2_with fail
        refine (pageIsSlot_any w p B v xs m H.out _).mono ?_
        rw [← HS.out, hst]
        rintro e w1 ⟨rfl, rfl⟩
        go_wp2_with fail
        refine (pageLen_any w p B v xs m H.out).mono ?_
        rw [← HN.out]
        rintro e w1 ⟨rfl, rfl⟩
        go_wp2_with fail
        go_ret
        exact ⟨by rw [HE.out]; rfl, .inl ⟨by rw [HE.out]; decide, rfl⟩⟩
    · by_cases h3 : r < (l.length : Int)
      · have HE : Hid (m.insE (k : Int) l = 81) := by show _ = _; rw [HF.out, if_neg h2, if_pos h3]
        by_cases hk : k < n
        · have hst : s = true := by rw [hslot]; simpa using hk
          clear hslot
          go_enter Try.func21, Try.ntmps21
          go_wp2_with fail
          refine (pageIsSlot_any w p B v xs m H.out _).mono ?_
          rw [← HS.out, hst]
          rintro e w1 ⟨rfl, rfl⟩
          go_wp2_with fail
          refine (pageRoom_any w p B v xs m H.out).mono ?_
          rw [← HR.out]
          rintro e w1 ⟨rfl, rfl⟩
          go_wp2_with fail
          go_ret
          exact ⟨by rw [HE.out]; rfl, .inl ⟨by rw [HE.out]; decide, rfl⟩⟩
        · have hst : s = false := by rw [hslot]; simpa using hk
          obtain rfl : k = n := by omega
          clear hslot
          go_enter Try.func21, Try.ntmps21
          go_wp2_with fail
          refine (pageIsSlot_any w p B v xs m H.out _).mono ?_
          rw [← HS.out, hst]
          rintro e w1 ⟨rfl, rfl⟩
          go_wp2_with fail
          refine (pageLen_any w p B v xs m H.out).mono ?_
          rw [← HN.out]
          rintro e w1 ⟨rfl, rfl⟩
          go_wp2_with fail
          refine (pageRoom_any w p B v xs m H.out).mono ?_
          rw [← HR.out]
          rintro e w1 ⟨rfl, rfl⟩
          go_wp2_with fail
          go_ret
          exact ⟨by rw [HE.out]; rfl, .inl ⟨by rw [HE.out]; decide, rfl⟩⟩
      · have HE : Hid (m.insE (k : Int) l = 0) := by show _ = _; rw [HF.out, if_neg h2, if_neg h3]
        have hnlt : n < 100 := by
          have := HR.out
          unfold PG.room at this
          rw [← HN.out] at this
          split at this <;> omega
        have hplt := H.out.lt
        obtain ⟨A, c, hve⟩ := H.out.open_
        rw [← HN.out] at hve
        subst hve
        have c3 : w.cell? ⟨p, 3, none⟩ = some (.slice A n c) := H.out.blk.cell 3
        by_cases hk : k < n
        · have hst : s = true := by rw [hslot]; simpa using hk
          clear hslot
          go_enter Try.func21, Try.ntmps21
          go_wp2_with fail
          refine (pageIsSlot_any w p B _ xs m H.out _).mono ?_
          rw [← HS.out, hst]
          rintro e w1 ⟨rfl, rfl⟩
          go_wp2_with fail
          refine (pageRoom_any w p B _ xs m H.out).mono ?_
          rw [← HR.out]
          rintro e w1 ⟨rfl, rfl⟩
          go_wp2_with fail
          go_region_law (first
            | (go_simp; go_at_call 29; refine (clone_any w.drew _ l HV.out).mono ?_; rintro e W1 ⟨v1, rfl, ho1, hb1⟩; obtain ⟨A1, c1, rfl, _, _, _, _⟩ := ho1.rbn.open_; have HB1 : Hid (Below w.heap.size w W1) := ⟨hb1.os, hb1.tape, hb1.output, hb1.size, hb1.block⟩; have HO1 : Hid (OB W1 w.heap.size (.slice A1 l.length c1) l) := Lib.hid ho1; have k1 : W1.cell? ⟨p, 3, none⟩ = some (.slice A n c) := (HB1.out.cell (p := ⟨p, 3, none⟩) hplt).trans c3; have k1a : (W1.alloc (.cells #[.slice A1 l.length c1] 22)).cell? ⟨p, 3, none⟩ = some (.slice A n c) := (((Below.refl _ W1).alloc (Nat.le_refl _) _).cell (p := ⟨p, 3, none⟩) (Nat.lt_of_lt_of_le hplt HB1.out.size)).trans k1; clear ho1 hb1)
            | (go_simp; go_at_call 62; refine (ins_arm w W1 p B A n c xs m H.out HN.out hnlt k hkn l (by omega) A1 c1 HB1.out HO1.out).mono ?_; rintro e W3 ⟨A3, c3', rfl, k3, f3, HPG, HST, HOX⟩))
          all_goals (
            go_wp2_with fail
            go_ret
            exact ⟨by rw [HE.out]; rfl, .inr ⟨HE.out, _, _, HOX.out, HPG.out, HST.out⟩⟩)
        · have hst : s = false := by rw [hslot]; simpa using hk
          obtain rfl : n = k := by omega
          clear hslot
          go_enter Try.func21, Try.ntmps21
          go_wp2_with fail
          refine (pageIsSlot_any w p B _ xs m H.out _).mono ?_
          rw [← HS.out, hst]
          rintro e w1 ⟨rfl, rfl⟩
          go_wp2_with fail
          refine (pageLen_any w p B _ xs m H.out).mono ?_
          rw [← HN.out]
          rintro e w1 ⟨rfl, rfl⟩
          go_wp2_with fail
          refine (pageRoom_any w p B _ xs m H.out).mono ?_
          rw [← HR.out]
          rintro e w1 ⟨rfl, rfl⟩
          go_wp2_with fail
          go_region_law (first
            | (go_simp; go_at_call 29; refine (clone_any w.drew _ l HV.out).mono ?_; rintro e W1 ⟨v1, rfl, ho1, hb1⟩; obtain ⟨A1, c1, rfl, _, _, _, _⟩ := ho1.rbn.open_; have HB1 : Hid (Below w.heap.size w W1) := ⟨hb1.os, hb1.tape, hb1.output, hb1.size, hb1.block⟩; have HO1 : Hid (OB W1 w.heap.size (.slice A1 l.length c1) l) := Lib.hid ho1; have k1 : W1.cell? ⟨p, 3, none⟩ = some (.slice A n c) := (HB1.out.cell (p := ⟨p, 3, none⟩) hplt).trans c3; have k1a : (W1.alloc (.cells #[.slice A1 l.length c1] 22)).cell? ⟨p, 3, none⟩ = some (.slice A n c) := (((Below.refl _ W1).alloc (Nat.le_refl _) _).cell (p := ⟨p, 3, none⟩) (Nat.lt_of_lt_of_le hplt HB1.out.size)).trans k1; clear ho1 hb1)
            | (go_simp; go_at_call 62; refine (ins_arm w W1 p B A n c xs m H.out HN.out hnlt n hkn l (by omega) A1 c1 HB1.out HO1.out).mono ?_; rintro e W3 ⟨A3, c3', rfl, k3, f3, HPG, HST, HOX⟩))
          all_goals (
            go_wp2_with fail
            go_ret
            exact ⟨by rw [HE.out]; rfl, .inr ⟨HE.out, _, _, HOX.out, HPG.out, HST.out⟩⟩)
end Go.Proofs.Ytdghanhpeekbhaa
