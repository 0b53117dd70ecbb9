/-
  slices.Insert at a row of slices, one element, where there is no room.
-/
import Derived.Room.Entries
import Derived.Test.YtbagmmncjmbboaaGreatZJ1
namespace Go.Proofs.YtbagmmncjmbboaaGreat
open Go.RowKit Go.Maps Go.Sort Go.Shelf
set_option linter.unusedVariables false

theorem wpList_appRun {P : Program} {ops : Array Oper} {rest : List Oper} {o : Oper} {a : Act} {Q : Exit → Act → World → Prop} {w w' : World} {t1 t2 : TypeId} {v u r : Value} (hgd : o.guard = none) (s x : Operand)
    (ho : o.op = .call { callee := .builtin .append, args := #[s, x], argTypes := #[t1, t2] }) (hs : a.eval s = v) (hx : a.eval x = u) (hrun : ∀ ty, (Builtin.append_ #[t1, t2] ty #[v, u]).run P w = .ok r w')
    (hK : wpList P ops Q rest (a.put o.dst r) w') : wpList P ops Q (o :: rest) a w := by
  refine wpList_plain hgd fun _ hK' => ?_
  unfold Oper.wp execOp
  simp only [ho, resolve, invoke, builtin, Sem.run_bind, Sem.run_pure, Result.andThen_ok, List.map_toArray, List.map_cons, List.map_nil, hs, hx, hrun]
  exact hK' _ _ hK

set_option maxRecDepth 100000 in
/-- What 'append(s[:i], make(S, n + m - i)...)' leaves. -/
theorem grown_row (w : World) (xs : List Sl) (i n g cap : Nat) (cur : Array Value) (hg : Blk w g 22 cur) (hn : xs.length = n) (hn1 : n ≤ 1000) (hsz : cur.size = cap) (htk : cur.toList.take n = xs.map slV) (hi : i < n) (hnc : n ≤ cap) (hroom : cap < n + 1) :
    ∃ C W1 cz, n + 1 ≤ C ∧ C ≤ maxLen ∧ (∀ ty, (Builtin.append_ #[32, 3] ty #[.slice (some ⟨g, 0, none⟩) i cap, .int .i64 ((n + 1 - i : Nat) : Int)]).run Tryz.prog w = .ok (.slice (some ⟨w.heap.size, 0, none⟩) (n + 1) C) W1) ∧
      Blk W1 w.heap.size 22 cz ∧ cz.size = C ∧ cz.toList.take i = (xs.take i).map slV ∧ Below w.heap.size w W1 := by
  obtain ⟨i0, hi0, hz0, hz1, hz2⟩ := info_parts (P := Tryz.prog) (e := 22) (z := .slice none 0 0) (size := 1) (bytes := 24) (by kernel_rfl)
  have hcl : cur.toList.length = cap := by simpa using hsz
  have htki : (xs.take i).map slV = cur.toList.take i := by
    have : (cur.toList.take n).take i = (xs.take i).map slV := by rw [htk, List.map_take]
    rw [List.take_take] at this
    rw [← this]; congr 1; omega
  obtain ⟨C, hC⟩ : ∃ C, C = grownCap w (i + (n + 1 - i)) cap 22 := ⟨_, rfl⟩
  have hCge : n + 1 ≤ C := by rw [hC]; have := grownCap_ge w (i + (n + 1 - i)) cap 22; omega
  have hCle : C ≤ maxLen := by rw [hC]; exact grownCap_le_maxLen _ _ _ _ (by unfold maxLen; omega)
  obtain ⟨cz, hcz⟩ : ∃ cz, cz = (cur.toList.take i).toArray ++ Builtin.zeroCells (Value.slice none 0 0).cells (n + 1 - i) ++ Builtin.zeroCells (Value.slice none 0 0).cells (C - (i + (n + 1 - i))) := ⟨_, rfl⟩
  have hrun : ∀ ty, (Builtin.append_ #[32, 3] ty #[.slice (some ⟨g, 0, none⟩) i cap, .int .i64 ((n + 1 - i : Nat) : Int)]).run Tryz.prog w = .ok (.slice (some ⟨w.heap.size, 0, none⟩) (i + (n + 1 - i)) C) (w.drew.alloc (.cells cz 22)) := by
    intro ty
    rw [hcz, hC]
    refine Lib.run_append_grow_zeros w 32 3 ty 22 i0 (.slice none 0 0) .i64 .i64 Tryz.underlying32 Tryz.underlying3 hi0 hz0 (some ⟨g, 0, none⟩) i cap (cur.toList.take i) ?_ (n + 1 - i) (by omega) (by omega) (by omega) (by omega) (by rw [hz2]; omega) ?_
    · rw [hz1]
      exact run_firstCells_some w.drew 1 i ⟨g, 0, none⟩ i cap (cur.toList.take i) (by rw [List.length_take]; omega) (fun j v hj => by
        rw [add_none, Nat.zero_add]
        have := hg.cell j
        rw [List.getElem?_take] at hj
        split at hj
        · rw [← Array.getElem?_toList] at this
          exact this.trans hj
        · cases hj)
    · rw [hz2]
      have := Room.nextslicecap_le' (need := i + (n + 1 - i)) (old := cap) (by omega)
      omega
  rw [show i + (n + 1 - i) = n + 1 by omega] at hrun hcz
  have hzc : ∀ k, (Builtin.zeroCells (Value.slice none 0 0).cells k).size = k := fun k => by simp [Builtin.zeroCells, Value.cells]
  have htl : ((cur.toList.take i).toArray : Array Value).size = i := by rw [List.size_toArray, List.length_take]; omega
  refine ⟨C, _, cz, hCge, hCle, hrun, Blk.new w.drew _ _, ?_, ?_, (Below.refl _ _).drew.alloc (Nat.le_refl _) _⟩
  · rw [hcz, Array.size_append, Array.size_append, hzc, hzc, htl]; omega
  · rw [htki, hcz, Array.toList_append, Array.toList_append, List.append_assoc, List.take_append_of_le_length (by simp; omega)]
    simp [List.take_take]

/-- What the two copies leave, in the new row. -/
theorem grow_cells {cz : List Value} {D : List Value} {u : Value} {i n : Nat} (hi : i < n) (hD : D.length = n - i) (hc : n + 1 ≤ cz.length) :
    ((cz.take i ++ [u] ++ cz.drop (i + 1)).take (i + 1) ++ D ++ (cz.take i ++ [u] ++ cz.drop (i + 1)).drop (i + 1 + D.length)).take (n + 1) = cz.take i ++ [u] ++ D := by
  have h0 : (cz.take i ++ [u]).length = i + 1 := by simp; omega
  have h1 : (cz.take i ++ [u] ++ cz.drop (i + 1)).take (i + 1) = cz.take i ++ [u] := List.take_left' h0
  rw [h1]
  exact List.take_left' (by simp; omega)

set_option maxRecDepth 100000 in
set_option maxHeartbeats 1000000 in
/-- .. where there is no room, ahead of the end. -/
theorem ins_grow (w : World) (xs : List Sl) (y : Sl) (i n g cap h0 : Nat) (cur : Array Value) (hg : Blk w g 22 cur) (hn : xs.length = n) (hn1 : n ≤ 1000) (hsz : cur.size = cap) (htk : cur.toList.take n = xs.map slV) (hi : i < n) (hnc : n ≤ cap) (hroom : cap < n + 1) (hh : Blk w h0 22 #[slV y]) :
    Calls Tryz.prog 89 #[.slice (some ⟨g, 0, none⟩) n cap, .int .i64 (i : Int), .slice (some ⟨h0, 0, none⟩) 1 1] w fun e w' => ∃ C, e = .returned (.slice (some ⟨w.heap.size, 0, none⟩) (n + 1) C) ∧ n + 1 ≤ C ∧ C ≤ maxLen ∧ ∃ cur', Blk w' w.heap.size 22 cur' ∧ cur'.size = C ∧ cur'.toList.take (n + 1) = (xs.take i ++ [y] ++ xs.drop i).map slV ∧ Below w.heap.size w w' := by
  obtain ⟨C, W1, cz, hC1, hC2, hrun, hbz, hczs, hczt, hbw⟩ := grown_row w xs i n g cap cur hg hn hn1 hsz htk hi hnc hroom
  have hcells : ∀ (j : Nat) v, ((xs.drop i).map slV)[j]? = some v → w.cell? ⟨g, i + j, none⟩ = some v := by
    intro j v hj
    rw [hg.cell, ← Array.getElem?_toList]
    have hjn : i + j < n := by have := (List.getElem?_eq_some_iff.1 hj).1; rw [List.length_map, List.length_drop] at this; omega
    have h2 : (cur.toList.take n)[i + j]? = some v := by
      rw [htk]
      rw [List.getElem?_map, List.getElem?_drop] at hj
      rw [List.getElem?_map]; exact hj
    rw [List.getElem?_take, if_pos hjn] at h2
    exact h2
  have hglt := hg.lt
  have hhlt := hh.lt
  have hC3 : C ≤ 9223372036854775807 := by simpa [maxLen] using hC2
  have HC1 : Hid (∀ (j : Nat) v, ((xs.drop i).map slV)[j]? = some v → W1.cell? ⟨g, i + j, none⟩ = some v) := fun j v hj => (hbw.cell (p := ⟨g, i + j, none⟩) hglt).trans (hcells j v hj)
  have HH1 : Hid (Blk W1 h0 22 #[slV y]) := hh.below hbw hhlt
  have HZ1 := Lib.hid hbz
  have HW1 := Lib.hid hbw
  have HCZT := Lib.hid hczt
  have HD : Hid (((xs.drop i).map slV).length = n - i) := by show _ = _; rw [List.length_map, List.length_drop, hn]
  obtain ⟨nw, hnw⟩ : ∃ nw, nw = w.heap.size := ⟨_, rfl⟩
  rw [← hnw] at HZ1 hrun hglt hhlt ⊢
  have HNW := Lib.hid hnw
  have hz2' : ¬ ((i : Int) = (n : Int)) := by omega
  have hcapl : (cap : Int) < (n : Int) + 1 := by omega
  have hw2 : IntKind.i64.wrap ((n : Int) + 1) = (n : Int) + 1 := by rw [IntKind.wrap_i64]; omega
  have hw3 : IntKind.i64.wrap ((n : Int) + 1 - (i : Int)) = ((n : Int) + 1 - (i : Int)) := by rw [IntKind.wrap_i64]; omega
  have hw1 : IntKind.i64.wrap ((i : Int) + 1) = (i : Int) + 1 := by rw [IntKind.wrap_i64]; omega
  have hin : i ≤ n := by omega
  have hic : i ≤ cap := by omega
  have hin1 : i ≤ n + 1 := by omega
  have htn : ((i : Int) + 1).toNat = i + 1 := by omega
  have hb0 : (0 : Int) ≤ (i : Int) + 1 := by omega
  have hb1 : (i : Int) + 1 ≤ (n : Int) + 1 := by omega
  have hb4 : ¬ (C = i + 1) := by omega
  have hb5 : ¬ (C = i) := by omega
  have hb6 : ¬ (cap = i) := by omega
  have hb7 : i + 1 ≤ C := by omega
  clear htk hbz hbw hczt hcells hg hh hnw
  go_enter Tryz.func89, Tryz.ntmps89
  go_wp2_with (first
    | (refine wpList_appRun (v := .slice (some ⟨g, 0, none⟩) i cap) (u := .int .i64 ((n + 1 - i : Nat) : Int)) rfl (.tmp 34) (.tmp 39) rfl rfl (by show Value.int IntKind.i64 _ = _; congr 1; omega) hrun ?_; clear hrun)
    | (refine wpList_copySl rfl (.tmp 43) (.tmp 44) rfl nw i _ _ h0 0 _ _ cz [slV y] rfl rfl HZ1.out (by simp only [List.length_singleton, Nat.min_def]; split <;> omega) (by intro j v hj; rw [HH1.out.cell]; simpa using hj) (by simp; omega) (slV_one [y]) ?_; intro w2 u2 hb2 hm2; have HB2 := Lib.hid hb2; have HM2 := Lib.hid hm2; clear hb2 hm2))
  obtain ⟨C1, hCC⟩ : ∃ C1, C1 = (cz.toList.take i ++ [slV y] ++ cz.toList.drop (i + [slV y].length)).toArray := ⟨_, rfl⟩
  rw [← hCC] at HB2
  have hcl : cz.toList.length = C := by simpa using hczs
  have hsz1 : C1.size = C := by rw [hCC, List.size_toArray, List.length_append, List.length_append, List.length_take, List.length_drop, hcl]; simp; omega
  have HCC := Lib.hid hCC
  obtain ⟨W3, hW, hg3, hcells3, hm3⟩ : ∃ W3, W3 = w2.drew ∧ Blk W3 nw 22 C1 ∧ (∀ (j : Nat) v, ((xs.drop i).map slV)[j]? = some v → W3.cell? ⟨g, i + j, none⟩ = some v) ∧ Mod (fun k => k = nw) W1 W3 :=
    ⟨w2.drew, rfl, HB2.out.drew, fun j v hj => (HM2.out.cell (b := g) (Nat.lt_of_lt_of_le (by rw [← HNW.out]; exact hglt) HW1.out.size) (by omega) (i + j)).trans (HC1.out j v hj), HM2.out.drew⟩
  have HG3 := Lib.hid hg3
  have HC3 := Lib.hid hcells3
  have HM3 := Lib.hid hm3
  clear hg3 hcells3 hm3 hCC HB2 HM2
  refine still_tail_at 8 W3 hW (by kernel_rfl) (by kernel_rfl) ?_
  clear hW
  simp only [List.take_succ_cons, List.take_zero, List.drop_succ_cons, List.drop_zero]
  iterate 8 still_step
  refine wpStill_nil ?_
  refine wpList_copySl rfl (.tmp 50) (.tmp 53) rfl nw (i + 1) _ _ g i _ _ C1 ((xs.drop i).map slV) rfl rfl HG3.out (by rw [HD.out]; simp only [Nat.min_def]; split <;> omega) HC3.out (by rw [HD.out]; omega) (slV_one _) ?_
  intro w4 u4 hb4' hm4
  have HB4 := Lib.hid hb4'
  have HM4 := Lib.hid (HM3.out.trans' hm4)
  clear hb4' hm4
  go_wp2_with fail
  go_ret
  refine ⟨C, rfl, hC1, hC2, _, HB4.out, ?_, ?_, ?_⟩
  · have hcl1 : C1.toList.length = C := by simpa using hsz1
    have hD := HD.out
    rw [List.size_toArray, List.length_append, List.length_append, List.length_take, List.length_drop, hcl1, hD]; omega
  · rw [List.toList_toArray, HCC.out, List.toList_toArray]
    have h1 := grow_cells (cz := cz.toList) (u := slV y) hi HD.out (by omega)
    rw [HCZT.out] at h1
    simp only [List.length_singleton]
    rw [HCZT.out, h1]
    simp
  · have h1 := (HW1.out).trans ((Mod.below (B := nw) HM4.out (by rw [HNW.out]; exact HW1.out.size) (fun k e => Nat.le_of_eq e.symm)).mono (by rw [HNW.out]; exact Nat.le_refl _))
    rw [HNW.out]
    exact h1

end Go.Proofs.YtbagmmncjmbboaaGreat

/-
  slices.Insert at a row of slices, all roads; the walks of page's Insert, SetExtra and SetLSN.
-/
namespace Go.Proofs.YtbagmmncjmbboaaGreat
open Go.RowKit Go.Maps Go.Sort Go.Shelf
set_option linter.unusedVariables false

theorem OK.ofBlk {w : World} {B g n C : Nat} {cur : Array Value} {L : List Sl} (hb : Blk w g 22 cur) (hB : B ≤ g) (hn : L.length = n) (hn1 : n ≤ 1000000) (hC : n ≤ C) (hC2 : C ≤ maxLen) (hs : cur.size = C) (ht : cur.toList.take n = L.map slV) :
    OK encSl 1 22 w B (.slice (some ⟨g, 0, none⟩) n C) L := by
  refine ⟨by omega, ?_, .inr ⟨g, C, cur, by rw [hn], hB, hb, by omega, hC2, by omega, ?_⟩⟩
  · rw [flat_encSl, List.length_map, Nat.mul_one]
  · rw [Nat.mul_one, hn, flat_encSl]; exact ht

theorem ins_any (w : World) (B : Nat) (v : Value) (xs : List Sl) (y : Sl) (i h0 : Nat) (h : OK encSl 1 22 w B v xs) (hi : i ≤ xs.length) (hn1 : xs.length ≤ 1000) (hh : Blk w h0 22 #[slV y]) (hne : v.ownBlock ≠ some h0) (hB : B ≤ w.heap.size) :
    Calls Tryz.prog 89 #[v, .int .i64 (i : Int), .slice (some ⟨h0, 0, none⟩) 1 1] w fun e w' => ∃ v', e = .returned v' ∧ OK encSl 1 22 w' B v' (xs.take i ++ [y] ++ xs.drop i) ∧ Mod (fun k => v.ownBlock = some k) w w' ∧ (v'.ownBlock = v.ownBlock ∨ v'.ownBlock = some w.heap.size) := by
  have hlen : (xs.take i ++ [y] ++ xs.drop i).length = xs.length + 1 := by simp; omega
  by_cases hin : i = xs.length
  · subst hin
    refine (ins_end w B v xs y h0 h hn1 hh hB).mono ?_
    rintro e w' ⟨v', rfl, h1, h2, h3⟩
    refine ⟨v', rfl, ?_, (Mod.of_grown h2).mono (fun k _ e => e.symm), h3⟩
    rw [List.take_length, List.drop_length, List.append_nil]; exact h1
  · obtain ⟨h1, h2, h3⟩ := h
    rcases h3 with ⟨rfl, hn⟩ | ⟨g, cap, cur, rfl, hgB, hg, hnc, hcm, hsz, htk⟩
    · omega
    · have htk' : cur.toList.take xs.length = xs.map slV := by rw [flat_encSl, Nat.mul_one] at htk; exact htk
      have hblk : Blk w g 22 cur := hg
      by_cases hr : xs.length + 1 ≤ cap
      · refine (ins_room w xs y i xs.length g cap h0 cur hblk rfl hn1 (by omega) htk' (by omega) hr (by simpa [maxLen] using hcm) hh (fun e => hne (by rw [e]; rfl))).mono ?_
        rintro e w' ⟨rfl, cur', hb', hs', ht', hm'⟩
        exact ⟨_, rfl, OK.ofBlk hb' hgB hlen (by omega) (by omega) hcm hs' ht', hm'.mono (fun k _ e => by subst e; rfl), .inl rfl⟩
      · refine (ins_grow w xs y i xs.length g cap h0 cur hblk rfl hn1 (by omega) htk' (by omega) hnc (by omega) hh).mono ?_
        rintro e w' ⟨C, rfl, hC1, hC2, cur', hb', hs', ht', hbw⟩
        exact ⟨_, rfl, OK.ofBlk hb' hB hlen (by omega) hC1 hC2 hs' ht', Mod.of_below hbw _, .inr rfl⟩

def PG.insert (m : PG) (i : Nat) (l : List Nat) : PG := { m with items := m.items.take i ++ [l] ++ m.items.drop i }

def PG.insE (m : PG) (i : Int) (l : List Nat) : Int := if i < 0 ∨ (m.items.length : Int) < i then 82 else if 200 < l.length then 4 else if m.room < (l.length : Int) then 81 else 0

theorem PG.Ok.insert {m : PG} (h : m.Ok) {i : Nat} {l : List Nat} (hi : i ≤ m.items.length) (hn : m.items.length < 100) (hl : l.length ≤ 200) : (m.insert i l).Ok := by
  refine ⟨?_, ?_, h.lsn, h.kind, h.extra⟩
  · unfold PG.insert; simp; omega
  · unfold PG.insert
    intro q hq
    rcases List.mem_append.1 hq with hq | hq
    · rcases List.mem_append.1 hq with hq | hq
      · exact h.item q (List.mem_of_mem_take hq)
      · rw [List.mem_singleton.1 hq]; exact hl
    · exact h.item q (List.mem_of_mem_drop hq)

theorem ins_get {α : Type} {L : List α} {i j : Nat} {y x : α} (hi : i ≤ L.length) (h : (L.take i ++ [y] ++ L.drop i)[j]? = some x) : (j < i ∧ L[j]? = some x) ∨ (j = i ∧ x = y) ∨ (i < j ∧ L[j - 1]? = some x) := by
  have ht : (L.take i).length = i := by rw [List.length_take]; omega
  rcases Nat.lt_trichotomy j i with hj | hj | hj
  · rw [List.append_assoc, List.getElem?_append_left (by omega), List.getElem?_take, if_pos hj] at h
    exact .inl ⟨hj, h⟩
  · subst hj
    rw [List.append_assoc, List.getElem?_append_right (by omega), ht, Nat.sub_self] at h
    simp at h
    exact .inr (.inl ⟨rfl, h.symm⟩)
  · rw [List.append_assoc, List.getElem?_append_right (by omega), ht, List.getElem?_append_right (by simp; omega), List.getElem?_drop] at h
    refine .inr (.inr ⟨hj, ?_⟩)
    rw [← h]; congr 1; simp; omega

set_option maxHeartbeats 1000000 in
/-- The row's Insert inside page's Insert, the item laid already. -/
theorem ins_arm (w W1 : World) (p B : Nat) (A : Option Addr) (n c : Nat) (xs : List Sl) (m : PG) (h : PageAt w p B (.slice A n c) xs m) (hn : n = m.items.length) (hn1 : n < 100) (k : Nat) (hk : k ≤ n) (l : List Nat) (hl : l.length ≤ 200) (A1 : Option Addr) (c1 : Nat) (hb1 : Below w.heap.size w W1) (ho1 : OB W1 w.heap.size (.slice A1 l.length c1) l) :
    Calls Tryz.prog 89 #[.slice A n c, .int .i64 (k : Int), .slice (some ⟨W1.heap.size, 0, none⟩) 1 1] (W1.alloc (.cells #[.slice A1 l.length c1] 22)) fun e W3 =>
      ∃ A3 c3, e = .returned (.slice A3 (n + 1) c3) ∧ W3.cell? ⟨p, 3, none⟩ = some (.slice A n c) ∧ W3.frozen? ⟨p, 3, none⟩ = false ∧
        Hid (PageAt (W3.setCell ⟨p, 3, none⟩ (.slice A3 (n + 1) c3)) p B (.slice A3 (n + 1) c3) (xs.take k ++ [((A1, l.length, c1) : Sl)] ++ xs.drop k) (m.insert k l)) ∧ Hid (PgStep w (W3.setCell ⟨p, 3, none⟩ (.slice A3 (n + 1) c3)) p (.slice A n c) (.slice A3 (n + 1) c3)) ∧ Hid (Off (fun k => k < w.heap.size) (slV ((A1, l.length, c1) : Sl)) l) := by
  have hz1 := hb1.size
  have hplt := h.lt
  have hxn : xs.length = n := by rw [h.len, hn]
  refine (ins_any _ B (.slice A n c) xs (A1, l.length, c1) k W1.heap.size ((h.row.below hb1).alloc _) (by omega) (by omega) (Blk.new W1 _ _) (fun e => by have := (h.row.lt _ e).2; omega) (by have := h.base; simp; omega)).mono ?_
  rintro e W3 ⟨v3, rfl, ho3, hm3, hw3⟩
  have hxl : (xs.take k ++ [((A1, l.length, c1) : Sl)] ++ xs.drop k).length = n + 1 := by simp; omega
  obtain ⟨A3, c3, rfl, _, _, _, _⟩ := (ho3.rk encSl_len (Nat.le_refl _)).open_
  rw [hxl] at ho3 hw3 ⊢
  have hba : Blk (W1.alloc (.cells #[.slice A1 l.length c1] 22)) p 122 _ := (h.blk.below hb1 hplt).alloc _
  have hbk3 := hba.mod hm3 (by intro e; exact h.far e)
  have hplt3 : p < W3.heap.size := hbk3.lt
  have hst : Mod (fun q => q = p) W3 (W3.setCell ⟨p, 3, none⟩ (.slice A3 (n + 1) c3)) := (Mod.refl (fun q => q = p) W3).setCell (p := ⟨p, 3, none⟩) (fun _ => rfl) _
  have hw2 : Mod (fun q => q = p ∨ (Value.slice A n c).ownBlock = some q) w (W1.alloc (.cells #[.slice A1 l.length c1] 22)) := (Mod.of_below hb1 _).alloc _
  have hw4 : Mod (fun q => q = p ∨ (Value.slice A n c).ownBlock = some q) w W3 := hw2.trans hm3 (fun q _ e => .inr e)
  have hall := hw4.trans hst (fun q _ e => .inl e)
  have hnp : (Value.slice A3 (n + 1) c3).ownBlock ≠ some p := fun e => by
    rcases hw3 with h1 | h1
    · rw [h1] at e; exact h.far e
    · rw [h1] at e; injection e with e; simp at e; omega
  have hOK := h.ok.insert (l := l) (i := k) (by omega) (by omega) hl
  have hrb : RB (W3.setCell ⟨p, 3, none⟩ (.slice A3 (n + 1) c3)) (W3.setCell ⟨p, 3, none⟩ (.slice A3 (n + 1) c3)).heap.size (.slice A1 l.length c1) l := by
    have ho2 := ho1.alloc (.cells #[.slice A1 l.length c1] 22)
    have ho3 := ho2.mod hm3 (fun b hb e => by have h1 := (ho1.lt b hb).1; have h2 := (h.row.lt b e).2; omega)
    exact (ho3.mod hst (fun b hb e => by have h1 := (ho1.lt b hb).1; subst e; omega)).rbn
  have hoff : Off (fun q => q = p ∨ (Value.slice A3 (n + 1) c3).ownBlock = some q) (Value.slice A1 l.length c1) l := .inr fun b hb e => by
    have h1 := ho1.lt b hb
    rcases e with e | e
    · subst e; omega
    · rcases hw3 with h2 | h2
      · rw [h2] at e; have h3 := (h.row.lt b e).2; omega
      · rw [h2] at e; injection e with e; simp at e; omega
  refine ⟨A3, c3, rfl, hbk3.cell 3, hbk3.frozen 3, ⟨hOK, hbk3.set_ 3 _, ho3.mod hst (fun b hb e => hnp (by rw [hb, e])), ?_, ?_, hnp, h.base⟩, ⟨hall, ?_⟩, .inr fun b hb e => by have h1 := (ho1.lt b hb).1; omega⟩
  · rw [hxl]; unfold PG.insert; dsimp only; simp; omega
  · intro j x l' hx hl'
    have e1 := ins_get (by omega) hx
    have e2 := ins_get (L := m.items) (by omega) hl'
    have key : ∀ q, xs[q]? = some x → m.items[q]? = some l' → RB (W3.setCell ⟨p, 3, none⟩ (.slice A3 (n + 1) c3)) (W3.setCell ⟨p, 3, none⟩ (.slice A3 (n + 1) c3)).heap.size (slV x) l' ∧ Off (fun q => q = p ∨ (Value.slice A3 (n + 1) c3).ownBlock = some q) (slV x) l' := fun q hq hq2 => by
      obtain ⟨r1, r2⟩ := h.item q x l' hq hq2
      refine ⟨r1.mod hall r2, ?_⟩
      rcases r2 with r2 | r2
      · exact .inl r2
      · have r3 := RB.off (S := fun q => w.heap.size ≤ q) r1 (fun _ h h2 => by omega)
        rcases r3 with r3 | r3
        · exact .inl r3
        · refine .inr fun b hb e => ?_
          rcases e with e | e
          · exact r2 b hb (.inl e)
          · rcases hw3 with h2 | h2
            · rw [h2] at e; exact r2 b hb (.inr e)
            · rw [h2] at e; injection e with e; exact r3 b hb (by simp at e; omega)
    rcases e1 with ⟨q1, q2⟩ | ⟨q1, q2⟩ | ⟨q1, q2⟩ <;> rcases e2 with ⟨q3, q4⟩ | ⟨q3, q4⟩ | ⟨q3, q4⟩ <;> first | omega | exact key _ q2 q4 | (subst q2 q4; exact ⟨hrb, hoff⟩)
  · rcases hw3 with h2 | h2
    · exact .inl h2
    · refine .inr fun b hb => ?_
      rw [h2] at hb; injection hb with hb; simp at hb; omega

set_option maxRecDepth 100000 in
set_option maxHeartbeats 4000000 in
theorem pageInsert_any (w : World) (p B : Nat) (v : Value) (xs : List Sl) (m : PG) (h : PageAt w p B v xs m) (i : Int) (iv : Value) (l : List Nat) (hv : RB w w.heap.size iv l) :
    Calls Tryz.prog 51 #[.pointer (some ⟨p, 0, none⟩), .int .i64 i, iv] w fun e w' => e = .returned (.int .i64 (m.insE i l)) ∧
      ((m.insE i l ≠ 0 ∧ w' = w) ∨ (m.insE i l = 0 ∧ ∃ v' x, Off (fun k => k < w.heap.size) (slV x) l ∧ PageAt w' p B v' (xs.take i.toNat ++ [x] ++ xs.drop i.toNat) (m.insert i.toNat l) ∧ PgStep w w' p v v')) := by
  have H := Lib.hid h
  have HV := Lib.hid hv
  obtain ⟨AI, cI, rfl, _, _, hl47, _⟩ := hv.open_
  have hnum := h.ok.num
  obtain ⟨s, hsv⟩ : ∃ s, s = m.isSlot i := ⟨_, rfl⟩
  obtain ⟨n, hn⟩ : ∃ n, n = m.items.length := ⟨_, rfl⟩
  obtain ⟨r, hr⟩ : ∃ r, r = m.room := ⟨_, rfl⟩
  have hs' : s = (decide (0 ≤ i) && decide (i < n)) := by rw [hsv, hn]; rfl
  have HS := Lib.hid hsv
  have HN := Lib.hid hn
  have HR := Lib.hid hr
  rw [← hn] at hnum
  clear h hv hsv hn hr
  by_cases h1 : i < 0 ∨ (n : Int) < i
  · have he : m.insE i l = 82 := by unfold PG.insE; rw [← HN.out, if_pos h1]
    have HE := Lib.hid he
    have hsf : s = false := by rw [hs']; simp; omega
    have hd : decide (i = (n : Int)) = false := by simp; omega
    have hd2 : ¬ i = (n : Int) := by omega
    clear he hs'
    go_enter Tryz.func51, Tryz.ntmps51
    go_wp2_with fail
    refine (pageIsSlot_any w p B v xs m H.out i).mono ?_
    rw [← HS.out, hsf]
    rintro e w1 ⟨rfl, rfl⟩
    go_wp2_with fail
    refine (pageLen_any w p B v xs m H.out).mono ?_
    rw [← HN.out]
    rintro e w1 ⟨rfl, rfl⟩
    go_wp2_with fail
    go_ret
    exact ⟨by rw [HE.out]; rfl, .inl ⟨by rw [HE.out]; decide, rfl⟩⟩
  · obtain ⟨k, rfl⟩ : ∃ k : Nat, i = (k : Int) := ⟨i.toNat, by omega⟩
    have hkn : k ≤ n := by omega
    have hslot : s = decide (k < n) := by rw [hs']; simp
    clear hs'
    have hfront : ∀ (Q : Ending → World → Prop), (m.insE (k : Int) l = if 200 < l.length then 4 else if r < (l.length : Int) then 81 else 0) := fun _ => by
      unfold PG.insE; rw [← HN.out, ← HR.out, if_neg h1]
    have HF := Lib.hid (hfront (fun _ _ => True))
    clear hfront h1
    by_cases h2 : 200 < l.length
    · have HE : Hid (m.insE (k : Int) l = 4) := by show _ = _; rw [HF.out, if_pos h2]
      by_cases hk : k < n
      · have hst : s = true := by rw [hslot]; simpa using hk
        clear hslot
        go_enter Tryz.func51, Tryz.ntmps51
        go_wp2_with fail
        refine (pageIsSlot_any w p B v xs m H.out _).mono ?_
        rw [← HS.out, hst]
        rintro e w1 ⟨rfl, rfl⟩
        go_wp2_with fail
        go_ret
        exact ⟨by rw [HE.out]; rfl, .inl ⟨by rw [HE.out]; decide, rfl⟩⟩
      · have hst : s = false := by rw [hslot]; simpa using hk
        obtain rfl : k = n := by omega
        clear hslot
        go_enter Tryz.func51, Tryz.ntmps51
        go_wp2_with fail
        refine (pageIsSlot_any w p B v xs m H.out _).mono ?_
        rw [← HS.out, hst]
        rintro e w1 ⟨rfl, rfl⟩
        go_wp2_with fail
        refine (pageLen_any w p B v xs m H.out).mono ?_
        rw [← HN.out]
        rintro e w1 ⟨rfl, rfl⟩
        go_wp2_with fail
        go_ret
        exact ⟨by rw [HE.out]; rfl, .inl ⟨by rw [HE.out]; decide, rfl⟩⟩
    · by_cases h3 : r < (l.length : Int)
      · have HE : Hid (m.insE (k : Int) l = 81) := by show _ = _; rw [HF.out, if_neg h2, if_pos h3]
        by_cases hk : k < n
        · have hst : s = true := by rw [hslot]; simpa using hk
          clear hslot
          go_enter Tryz.func51, Tryz.ntmps51
          go_wp2_with fail
          refine (pageIsSlot_any w p B v xs m H.out _).mono ?_
          rw [← HS.out, hst]
          rintro e w1 ⟨rfl, rfl⟩
          go_wp2_with fail
          refine (pageRoom_any w p B v xs m H.out).mono ?_
          rw [← HR.out]
          rintro e w1 ⟨rfl, rfl⟩
          go_wp2_with fail
          go_ret
          exact ⟨by rw [HE.out]; rfl, .inl ⟨by rw [HE.out]; decide, rfl⟩⟩
        · have hst : s = false := by rw [hslot]; simpa using hk
          obtain rfl : k = n := by omega
          clear hslot
          go_enter Tryz.func51, Tryz.ntmps51
          go_wp2_with fail
          refine (pageIsSlot_any w p B v xs m H.out _).mono ?_
          rw [← HS.out, hst]
          rintro e w1 ⟨rfl, rfl⟩
          go_wp2_with fail
          refine (pageLen_any w p B v xs m H.out).mono ?_
          rw [← HN.out]
          rintro e w1 ⟨rfl, rfl⟩
          go_wp2_with fail
          refine (pageRoom_any w p B v xs m H.out).mono ?_
          rw [← HR.out]
          rintro e w1 ⟨rfl, rfl⟩
          go_wp2_with fail
          go_ret
          exact ⟨by rw [HE.out]; rfl, .inl ⟨by rw [HE.out]; decide, rfl⟩⟩
      · have HE : Hid (m.insE (k : Int) l = 0) := by show _ = _; rw [HF.out, if_neg h2, if_neg h3]
        have hnlt : n < 100 := by
          have := HR.out
          unfold PG.room at this
          rw [← HN.out] at this
          split at this <;> omega
        have hplt := H.out.lt
        obtain ⟨A, c, hve⟩ := H.out.open_
        rw [← HN.out] at hve
        subst hve
        have c3 : w.cell? ⟨p, 3, none⟩ = some (.slice A n c) := H.out.blk.cell 3
        by_cases hk : k < n
        · have hst : s = true := by rw [hslot]; simpa using hk
          clear hslot
          go_enter Tryz.func51, Tryz.ntmps51
          go_wp2_with fail
          refine (pageIsSlot_any w p B _ xs m H.out _).mono ?_
          rw [← HS.out, hst]
          rintro e w1 ⟨rfl, rfl⟩
          go_wp2_with fail
          refine (pageRoom_any w p B _ xs m H.out).mono ?_
          rw [← HR.out]
          rintro e w1 ⟨rfl, rfl⟩
          go_wp2_with fail
          go_region_law (first
            | (go_simp; go_at_call 73; refine (clone_any w.drew _ l HV.out).mono ?_; rintro e W1 ⟨v1, rfl, ho1, hb1⟩; obtain ⟨A1, c1, rfl, _, _, _, _⟩ := ho1.rbn.open_; have HB1 : Hid (Below w.heap.size w W1) := ⟨hb1.os, hb1.tape, hb1.output, hb1.size, hb1.block⟩; have HO1 : Hid (OB W1 w.heap.size (.slice A1 l.length c1) l) := Lib.hid ho1; have k1 : W1.cell? ⟨p, 3, none⟩ = some (.slice A n c) := (HB1.out.cell (p := ⟨p, 3, none⟩) hplt).trans c3; have k1a : (W1.alloc (.cells #[.slice A1 l.length c1] 22)).cell? ⟨p, 3, none⟩ = some (.slice A n c) := (((Below.refl _ W1).alloc (Nat.le_refl _) _).cell (p := ⟨p, 3, none⟩) (Nat.lt_of_lt_of_le hplt HB1.out.size)).trans k1; clear ho1 hb1)
            | (go_simp; go_at_call 89; refine (ins_arm w W1 p B A n c xs m H.out HN.out hnlt k hkn l (by omega) A1 c1 HB1.out HO1.out).mono ?_; rintro e W3 ⟨A3, c3', rfl, k3, f3, HPG, HST, HOX⟩))
          all_goals (
            go_wp2_with fail
            go_ret
            exact ⟨by rw [HE.out]; rfl, .inr ⟨HE.out, _, _, HOX.out, HPG.out, HST.out⟩⟩)
        · have hst : s = false := by rw [hslot]; simpa using hk
          obtain rfl : n = k := by omega
          clear hslot
          go_enter Tryz.func51, Tryz.ntmps51
          go_wp2_with fail
          refine (pageIsSlot_any w p B _ xs m H.out _).mono ?_
          rw [← HS.out, hst]
          rintro e w1 ⟨rfl, rfl⟩
          go_wp2_with fail
          refine (pageLen_any w p B _ xs m H.out).mono ?_
          rw [← HN.out]
          rintro e w1 ⟨rfl, rfl⟩
          go_wp2_with fail
          refine (pageRoom_any w p B _ xs m H.out).mono ?_
          rw [← HR.out]
          rintro e w1 ⟨rfl, rfl⟩
          go_wp2_with fail
          go_region_law (first
            | (go_simp; go_at_call 73; refine (clone_any w.drew _ l HV.out).mono ?_; rintro e W1 ⟨v1, rfl, ho1, hb1⟩; obtain ⟨A1, c1, rfl, _, _, _, _⟩ := ho1.rbn.open_; have HB1 : Hid (Below w.heap.size w W1) := ⟨hb1.os, hb1.tape, hb1.output, hb1.size, hb1.block⟩; have HO1 : Hid (OB W1 w.heap.size (.slice A1 l.length c1) l) := Lib.hid ho1; have k1 : W1.cell? ⟨p, 3, none⟩ = some (.slice A n c) := (HB1.out.cell (p := ⟨p, 3, none⟩) hplt).trans c3; have k1a : (W1.alloc (.cells #[.slice A1 l.length c1] 22)).cell? ⟨p, 3, none⟩ = some (.slice A n c) := (((Below.refl _ W1).alloc (Nat.le_refl _) _).cell (p := ⟨p, 3, none⟩) (Nat.lt_of_lt_of_le hplt HB1.out.size)).trans k1; clear ho1 hb1)
            | (go_simp; go_at_call 89; refine (ins_arm w W1 p B A n c xs m H.out HN.out hnlt n hkn l (by omega) A1 c1 HB1.out HO1.out).mono ?_; rintro e W3 ⟨A3, c3', rfl, k3, f3, HPG, HST, HOX⟩))
          all_goals (
            go_wp2_with fail
            go_ret
            exact ⟨by rw [HE.out]; rfl, .inr ⟨HE.out, _, _, HOX.out, HPG.out, HST.out⟩⟩)

theorem pageSetLSN_any (w : World) (p B : Nat) (v : Value) (xs : List Sl) (m : PG) (h : PageAt w p B v xs m) (x : Int) (hx : x ≤ 9223372036854775807) :
    Calls Tryz.prog 23 #[.pointer (some ⟨p, 0, none⟩), .int .i64 x] w fun e w' => e = .returned (.tuple #[]) ∧ PageAt w' p B v xs { m with lsn := max x 0 } ∧ PgStep w w' p v v := by
  have H := Lib.hid h
  have c0 := h.blk.cell 0
  have f0 := h.blk.frozen 0
  have hmax : ∀ W ty, (Builtin.max_ #[2, 2] ty #[.int .i64 x, .int .i64 0]).run Tryz.prog W = .ok (.int .i64 (max x 0)) W := by
    intro W ty
    have e : (if 0 > x then 0 else x) = max x 0 := by split <;> omega
    simp [Builtin.max_, Builtin.max2, List.foldlM]
    omega
  clear h
  go_enter Tryz.func23, Tryz.ntmps23
  go_wp2_with fail
  go_end0
  have hst : Mod (fun q => q = p) w (w.setCell ⟨p, 0, none⟩ (.int .i64 (max x 0))) := (Mod.refl (fun q => q = p) w).setCell (p := ⟨p, 0, none⟩) (fun _ => rfl) _
  have hall := hst.mono (S' := fun q => q = p ∨ v.ownBlock = some q) (fun q _ e => .inl e)
  refine ⟨by first | rfl | trivial, ⟨⟨H.out.ok.num, H.out.ok.item, ⟨by dsimp only; omega, by dsimp only; omega⟩, H.out.ok.kind, H.out.ok.extra⟩, H.out.blk.set_ 0 _, H.out.row.mod hst (fun b hb e => H.out.far (by rw [hb, e])), H.out.len, fun j x l hx hl => ?_, H.out.far, H.out.base⟩, ⟨hall, .inl rfl⟩⟩
  obtain ⟨r1, r2⟩ := H.out.item j x l hx hl
  exact ⟨r1.mod hall r2, r2⟩

end Go.Proofs.YtbagmmncjmbboaaGreat

/-
  The walk of page's Replace.
-/
namespace Go.Proofs.YtbagmmncjmbboaaGreat
open Go.RowKit Go.Maps Go.Sort Go.Shelf
set_option linter.unusedVariables false

theorem pageLen_n {w : World} {p B : Nat} {v : Value} {xs : List Sl} {m : PG} (h : PageAt w p B v xs m) {n : Nat} (hn : n = m.items.length) : Calls Tryz.prog 36 #[.pointer (some ⟨p, 0, none⟩)] w fun e w' => e = .returned (.int .i64 (n : Int)) ∧ w' = w := by
  rw [hn]; exact (pageLen_any w p B v xs m h).mono fun _ _ h => ⟨h.1, h.2.symm⟩

theorem pageFree_f {w : World} {p B : Nat} {v : Value} {xs : List Sl} {m : PG} (h : PageAt w p B v xs m) {k : Int} (hk : 0 ≤ k ∧ k ≤ 1000) {f : Int} (hf : f = m.free k) : Calls Tryz.prog 110 #[.pointer (some ⟨p, 0, none⟩), .int .i64 k] w fun e w' => e = .returned (.int .i64 f) ∧ w' = w := by
  rw [hf]; exact (pageFree_any w p B v xs m h k hk).mono fun _ _ h => ⟨h.1, h.2.symm⟩

theorem PageAt.drewN {w : World} {p B : Nat} {v : Value} {xs : List Sl} {m : PG} (h : PageAt w p B v xs m) (n : Nat) : PageAt (w.drewN n) p B v xs m := h.below (below_drewN (Below.refl _ _) n)

theorem OK.setSl {w : World} {B n c k : Nat} {A : Option Addr} {xs : List Sl} (h : OK encSl 1 22 w B (.slice A n c) xs) (hk : k < xs.length) (hx : xs.length ≤ 1000) (y : Sl) :
    ∃ b, A = some ⟨b, 0, none⟩ ∧ OK encSl 1 22 (w.setCell ⟨b, k, none⟩ (slV y)) B (.slice A n c) (xs.set k y) := by
  obtain ⟨h1, h2, h3⟩ := h
  rcases h3 with ⟨e, hn⟩ | ⟨g, cap, cur, e, hgB, hg, hnc, hcm, hsz, htk⟩
  · omega
  · injection e with e1 e2 e3
    subst e1 e2 e3
    have hblk : Blk w g 22 cur := hg
    refine ⟨g, rfl, OK.ofBlk (hblk.set_ k (slV y)) hgB (by rw [List.length_set]) ?_ (by omega) hcm (by simpa using hsz) ?_⟩
    · omega
    · rw [flat_encSl, Nat.mul_one] at htk
      rw [Array.toList_setIfInBounds, List.take_set, htk, List.map_set]

theorem OK.unfrozen {α : Type} {enc : α → List Value} {k E : Nat} {w : World} {B b o n c : Nat} {xs : List α} (h : OK enc k E w B (.slice (some ⟨b, o, none⟩) n c) xs) (i : Nat) : w.frozen? ⟨b, i, none⟩ = false := by
  rcases h.2.2 with ⟨e, _⟩ | ⟨g, cap, cur, e, _, hg, _⟩
  · cases e
  · injection e with e1
    injection e1 with e1
    injection e1 with e1 e2
    subst e1
    exact Blk.frozen (t := E) (cs := cur) hg i

def PG.replace (m : PG) (i : Nat) (l : List Nat) : PG := { m with items := m.items.set i l }

def PG.repE (m : PG) (i : Int) (l : List Nat) : Int := if m.isSlot i = false then 82 else if 200 < l.length then 4 else if m.free m.items.length + ((m.items.getD i.toNat []).length : Int) < (l.length : Int) then 81 else 0

theorem PG.Ok.replace {m : PG} (h : m.Ok) {i : Nat} {l : List Nat} (hl : l.length ≤ 200) : (m.replace i l).Ok := by
  refine ⟨by unfold PG.replace; simpa using h.num, fun q hq => ?_, h.lsn, h.kind, h.extra⟩
  unfold PG.replace at hq
  rcases List.mem_or_eq_of_mem_set hq with hq | hq
  · exact h.item q hq
  · rw [hq]; exact hl

/-- What a store of a new item leaves. -/
theorem rep_arm {w W1 : World} {p B : Nat} {A : Option Addr} {n c k : Nat} {xs : List Sl} {m : PG} (h : PageAt w p B (.slice A n c) xs m) (hn : n = m.items.length) (hk : k < n) {l : List Nat} (hl : l.length ≤ 200) {A1 : Option Addr} {c1 b o : Nat} (hA : A = some ⟨b, o, none⟩) (hb1 : Below w.heap.size w W1) (ho1 : OB W1 w.heap.size (.slice A1 l.length c1) l) :
    PageAt (W1.setCell ⟨b, o + k, none⟩ (.slice A1 l.length c1)) p B (.slice A n c) (xs.set k (A1, l.length, c1)) (m.replace k l) ∧ PgStep w (W1.setCell ⟨b, o + k, none⟩ (.slice A1 l.length c1)) p (.slice A n c) (.slice A n c) ∧ Off (fun k => k < w.heap.size) (slV ((A1, l.length, c1) : Sl)) l := by
  have hz1 := hb1.size
  have hplt := h.lt
  have hxn : xs.length = n := by rw [h.len, hn]
  obtain ⟨b', e, hok⟩ := (h.row.below hb1).setSl (k := k) (by omega) (by have := h.ok.num; omega) (A1, l.length, c1)
  rw [hA] at e
  injection e with e
  injection e with e1 e2
  subst e1 e2
  subst hA
  rw [Nat.zero_add]
  have hbp : b ≠ p := fun e => h.far (by rw [e]; rfl)
  have hbz := (h.row.lt b rfl).2
  have hst : Mod (fun q => q = b) W1 (W1.setCell ⟨b, k, none⟩ (.slice A1 l.length c1)) := (Mod.refl (fun q => q = b) W1).setCell (p := ⟨b, k, none⟩) (fun _ => rfl) _
  have hall : Mod (fun q => q = p ∨ (Value.slice (some ⟨b, 0, none⟩) n c).ownBlock = some q) w (W1.setCell ⟨b, k, none⟩ (.slice A1 l.length c1)) := (Mod.of_below hb1 _).trans hst (fun q _ e => .inr (by subst e; rfl))
  refine ⟨⟨h.ok.replace hl, (h.blk.below hb1 hplt).far (p := ⟨b, k, none⟩) (Ne.symm hbp) _, hok, by unfold PG.replace; rw [List.length_set, List.length_set]; exact h.len, fun j x l' hx hl' => ?_, h.far, h.base⟩, ⟨hall, .inl rfl⟩, .inr fun b hb e => by have h1 := (ho1.lt b hb).1; omega⟩
  unfold PG.replace at hl'
  dsimp only at hl'
  rw [List.getElem?_set] at hx hl'
  by_cases hj : k = j
  · subst hj
    rw [if_pos rfl, if_pos (by omega)] at hx hl'
    injection hx with hx
    injection hl' with hl'
    subst hx hl'
    refine ⟨(ho1.mod hst (fun b' hb e => by have h1 := (ho1.lt b' hb).1; subst e; omega)).rbn, .inr fun b' hb e => ?_⟩
    have h1 := (ho1.lt b' hb).1
    rcases e with e | e
    · subst e; omega
    · injection e with e; simp at e; omega
  · rw [if_neg hj] at hx hl'
    obtain ⟨r1, r2⟩ := h.item j x l' hx hl'
    exact ⟨r1.mod hall r2, r2⟩

/-- The items lie in blocks of which Q holds. -/
def ItemsIn (Q : Nat → Prop) (xs : List Sl) (L : List (List Nat)) : Prop := ∀ (j : Nat) x l, xs[j]? = some x → L[j]? = some l → Off (fun k => ¬ Q k) (slV x) l

theorem ItemsIn.mono {Q Q' : Nat → Prop} {xs : List Sl} {L : List (List Nat)} (h : ItemsIn Q xs L) (hq : ∀ k, Q k → Q' k) : ItemsIn Q' xs L := fun j x l h1 h2 => (h j x l h1 h2).mono fun k hk e => hk (hq k e)

theorem PageAt.itemsIn {w : World} {p B : Nat} {v : Value} {xs : List Sl} {m : PG} (h : PageAt w p B v xs m) : ItemsIn (fun k => k < w.heap.size) xs m.items := fun j x l h1 h2 => RB.off (h.item j x l h1 h2).1 fun k hk hn => hn hk

theorem ItemsIn.off {Q S : Nat → Prop} {xs : List Sl} {L : List (List Nat)} (h : ItemsIn Q xs L) (hs : ∀ k, S k → ¬ Q k) : ∀ (j : Nat) x l, xs[j]? = some x → L[j]? = some l → Off S (slV x) l := fun j x l h1 h2 => (h j x l h1 h2).mono hs

theorem ItemsIn.insert {Q : Nat → Prop} {xs : List Sl} {L : List (List Nat)} {i : Nat} {y : Sl} {it : List Nat} (h : ItemsIn Q xs L) (h1 : i ≤ xs.length) (h2 : xs.length = L.length) (hy : Off (fun k => ¬ Q k) (slV y) it) : ItemsIn Q (xs.take i ++ [y] ++ xs.drop i) (L.take i ++ [it] ++ L.drop i) := fun j x l hx hl => by
  have e1 := ins_get h1 hx
  have e2 := ins_get (by omega) hl
  rcases e1 with ⟨q1, q2⟩ | ⟨q1, q2⟩ | ⟨q1, q2⟩ <;> rcases e2 with ⟨q3, q4⟩ | ⟨q3, q4⟩ | ⟨q3, q4⟩ <;> first | omega | exact h _ _ _ q2 q4 | (subst q2 q4; exact hy)

theorem ItemsIn.set_ {Q : Nat → Prop} {xs : List Sl} {L : List (List Nat)} {i : Nat} {y : Sl} {it : List Nat} (h : ItemsIn Q xs L) (hy : Off (fun k => ¬ Q k) (slV y) it) : ItemsIn Q (xs.set i y) (L.set i it) := fun j x l hx hl => by
  rw [List.getElem?_set] at hx hl
  by_cases hj : i = j
  · rw [if_pos hj] at hx hl
    split at hx
    · split at hl
      · injection hx with hx; injection hl with hl; subst hx hl; exact hy
      · cases hl
    · cases hx
  · rw [if_neg hj] at hx hl; exact h j x l hx hl

theorem ItemsIn.erase {Q : Nat → Prop} {xs : List Sl} {L : List (List Nat)} {i : Nat} (h : ItemsIn Q xs L) : ItemsIn Q (xs.eraseIdx i) (L.eraseIdx i) := fun j x l hx hl => by
  rw [List.getElem?_eraseIdx] at hx hl
  by_cases hj : j < i
  · rw [if_pos hj] at hx hl; exact h j x l hx hl
  · rw [if_neg hj] at hx hl; exact h _ x l hx hl

/-- Behind a call on a page: the page, what the call turned, and that its items are those that it had, or new. -/
def PgOut (w w' : World) (p B : Nat) (v : Value) (xs : List Sl) (m m' : PG) : Prop := ∃ v' xs', PageAt w' p B v' xs' m' ∧ PgStep w w' p v v' ∧ ∀ Q : Nat → Prop, ItemsIn Q xs m.items → (∀ k, w.heap.size ≤ k → Q k) → ItemsIn Q xs' m'.items

theorem PgOut.same {w w' : World} {p B : Nat} {v : Value} {xs : List Sl} {m : PG} (h : PageAt w p B v xs m) (hb : Below w.heap.size w w') : PgOut w w' p B v xs m m := ⟨v, xs, h.below hb, ⟨Mod.of_below hb _, .inl rfl⟩, fun Q h _ => h⟩

theorem pageInsert_u {w : World} {p B : Nat} {v : Value} {xs : List Sl} {m : PG} (h : PageAt w p B v xs m) (i : Int) {iv : Value} {l : List Nat} (hv : RB w w.heap.size iv l) {m' : PG} (hm' : m' = if m.insE i l = 0 then m.insert i.toNat l else m) :
    Calls Tryz.prog 51 #[.pointer (some ⟨p, 0, none⟩), .int .i64 i, iv] w fun e w' => e = .returned (.int .i64 (m.insE i l)) ∧ PgOut w w' p B v xs m m' := by
  refine (pageInsert_any w p B v xs m h i iv l hv).mono ?_
  rintro e w' ⟨he, h1 | h1⟩
  · obtain ⟨h1, rfl⟩ := h1
    rw [if_neg h1] at hm'
    subst hm'
    exact ⟨he, PgOut.same h (Below.refl _ _)⟩
  · obtain ⟨h1, v', x, h2, h3, h4⟩ := h1
    rw [if_pos h1] at hm'
    subst hm'
    refine ⟨he, v', _, h3, h4, fun Q hq hk => ?_⟩
    have hi : i.toNat ≤ m.items.length := by
      unfold PG.insE at h1
      split at h1
      · omega
      · omega
    exact hq.insert (by rw [h.len]; exact hi) h.len (h2.mono fun k hn => Nat.lt_of_not_le fun hge => hn (hk k hge))
end Go.Proofs.YtbagmmncjmbboaaGreat
