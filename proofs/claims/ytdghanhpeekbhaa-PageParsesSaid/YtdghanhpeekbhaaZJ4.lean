/-
  slices.Insert at a row of slices, one element, where there is no room.
-/
import Derived.Room.Entries
import Derived.Test.YtdghanhpeekbhaaZJ3
namespace Go.Proofs.Ytdghanhpeekbhaa
open Go.RowKit Go.Maps Go.Sort Go.Shelf
set_option linter.unusedVariables false

theorem wpList_appRun {P : Program} {ops : Array Oper} {rest : List Oper} {o : Oper} {a : Act} {Q : Exit → Act → World → Prop} {w w' : World} {t1 t2 : TypeId} {v u r : Value} (hgd : o.guard = none) (s x : Operand)
    (ho : o.op = .call { callee := .builtin .append, args := #[s, x], argTypes := #[t1, t2] }) (hs : a.eval s = v) (hx : a.eval x = u) (hrun : ∀ ty, (Builtin.append_ #[t1, t2] ty #[v, u]).run P w = .ok r w')
    (hK : wpList P ops Q rest (a.put o.dst r) w') : wpList P ops Q (o :: rest) a w := by
  refine wpList_plain hgd fun _ hK' => ?_
  unfold Oper.wp execOp
  simp only [ho, resolve, invoke, builtin, Sem.run_bind, Sem.run_pure, Result.andThen_ok, List.map_toArray, List.map_cons, List.map_nil, hs, hx, hrun]
  exact hK' _ _ hK
set_option maxRecDepth 100000 in
/-- What 'append(s[:i], make(S, n + m - i)...)' leaves. -/
theorem grown_row (w : World) (xs : List Sl) (i n g cap : Nat) (cur : Array Value) (hg : Blk w g 22 cur) (hn : xs.length = n) (hn1 : n ≤ 1000) (hsz : cur.size = cap) (htk : cur.toList.take n = xs.map slV) (hi : i < n) (hnc : n ≤ cap) (hroom : cap < n + 1) :
    ∃ C W1 cz, n + 1 ≤ C ∧ C ≤ maxLen ∧ (∀ ty, (Builtin.append_ #[30, 3] ty #[.slice (some ⟨g, 0, none⟩) i cap, .int .i64 ((n + 1 - i : Nat) : Int)]).run Try.prog w = .ok (.slice (some ⟨w.heap.size, 0, none⟩) (n + 1) C) W1) ∧
      Blk W1 w.heap.size 22 cz ∧ cz.size = C ∧ cz.toList.take i = (xs.take i).map slV ∧ Below w.heap.size w W1 := by
  obtain ⟨i0, hi0, hz0, hz1, hz2⟩ := info_parts (P := Try.prog) (e := 22) (z := .slice none 0 0) (size := 1) (bytes := 24) (by kernel_rfl)
  have hcl : cur.toList.length = cap := by simpa using hsz
  have htki : (xs.take i).map slV = cur.toList.take i := by
    have : (cur.toList.take n).take i = (xs.take i).map slV := by rw [htk, List.map_take]
    rw [List.take_take] at this
    rw [← this]; congr 1; omega
  obtain ⟨C, hC⟩ : ∃ C, C = grownCap w (i + (n + 1 - i)) cap 22 := ⟨_, rfl⟩
  have hCge : n + 1 ≤ C := by rw [hC]; have := grownCap_ge w (i + (n + 1 - i)) cap 22; omega
  have hCle : C ≤ maxLen := by rw [hC]; exact grownCap_le_maxLen _ _ _ _ (by unfold maxLen; omega)
  obtain ⟨cz, hcz⟩ : ∃ cz, cz = (cur.toList.take i).toArray ++ Builtin.zeroCells (Value.slice none 0 0).cells (n + 1 - i) ++ Builtin.zeroCells (Value.slice none 0 0).cells (C - (i + (n + 1 - i))) := ⟨_, rfl⟩
  have hrun : ∀ ty, (Builtin.append_ #[30, 3] ty #[.slice (some ⟨g, 0, none⟩) i cap, .int .i64 ((n + 1 - i : Nat) : Int)]).run Try.prog w = .ok (.slice (some ⟨w.heap.size, 0, none⟩) (i + (n + 1 - i)) C) (w.drew.alloc (.cells cz 22)) := by
    intro ty
    rw [hcz, hC]
    refine Lib.run_append_grow_zeros w 30 3 ty 22 i0 (.slice none 0 0) .i64 .i64 Try.underlying30 Try.underlying3 hi0 hz0 (some ⟨g, 0, none⟩) i cap (cur.toList.take i) ?_ (n + 1 - i) (by omega) (by omega) (by omega) (by omega) (by rw [hz2]; omega) ?_
    · rw [hz1]
      exact run_firstCells_some w.drew 1 i ⟨g, 0, none⟩ i cap (cur.toList.take i) (by rw [List.length_take]; omega) (fun j v hj => by
        rw [add_none, Nat.zero_add]
        have := hg.cell j
        rw [List.getElem?_take] at hj
        split at hj
        · rw [← Array.getElem?_toList] at this
          exact this.trans hj
        · cases hj)
    · rw [hz2]
      have := Room.nextslicecap_le' (need := i + (n + 1 - i)) (old := cap) (by omega)
      omega
  rw [show i + (n + 1 - i) = n + 1 by omega] at hrun hcz
  have hzc : ∀ k, (Builtin.zeroCells (Value.slice none 0 0).cells k).size = k := fun k => by simp [Builtin.zeroCells, Value.cells]
  have htl : ((cur.toList.take i).toArray : Array Value).size = i := by rw [List.size_toArray, List.length_take]; omega
  refine ⟨C, _, cz, hCge, hCle, hrun, Blk.new w.drew _ _, ?_, ?_, (Below.refl _ _).drew.alloc (Nat.le_refl _) _⟩
  · rw [hcz, Array.size_append, Array.size_append, hzc, hzc, htl]; omega
  · rw [htki, hcz, Array.toList_append, Array.toList_append, List.append_assoc, List.take_append_of_le_length (by simp; omega)]
    simp [List.take_take]
/-- What the two copies leave, in the new row. -/
theorem grow_cells {cz : List Value} {D : List Value} {u : Value} {i n : Nat} (hi : i < n) (hD : D.length = n - i) (hc : n + 1 ≤ cz.length) :
    ((cz.take i ++ [u] ++ cz.drop (i + 1)).take (i + 1) ++ D ++ (cz.take i ++ [u] ++ cz.drop (i + 1)).drop (i + 1 + D.length)).take (n + 1) = cz.take i ++ [u] ++ D := by
  have h0 : (cz.take i ++ [u]).length = i + 1 := by simp; omega
  have h1 : (cz.take i ++ [u] ++ cz.drop (i + 1)).take (i + 1) = cz.take i ++ [u] := List.take_left' h0
  rw [h1]
  exact List.take_left' (by simp; omega)
set_option maxRecDepth 100000 in
set_option maxHeartbeats 1000000 in
/-- .. where there is no room, ahead of the end. -/
theorem ins_grow (w : World) (xs : List Sl) (y : Sl) (i n g cap h0 : Nat) (cur : Array Value) (hg : Blk w g 22 cur) (hn : xs.length = n) (hn1 : n ≤ 1000) (hsz : cur.size = cap) (htk : cur.toList.take n = xs.map slV) (hi : i < n) (hnc : n ≤ cap) (hroom : cap < n + 1) (hh : Blk w h0 22 #[slV y]) :
    Calls Try.prog 62 #[.slice (some ⟨g, 0, none⟩) n cap, .int .i64 (i : Int), .slice (some ⟨h0, 0, none⟩) 1 1] w fun e w' => ∃ C, e = .returned (.slice (some ⟨w.heap.size, 0, none⟩) (n + 1) C) ∧ n + 1 ≤ C ∧ C ≤ maxLen ∧ ∃ cur', Blk w' w.heap.size 22 cur' ∧ cur'.size = C ∧ cur'.toList.take (n + 1) = (xs.take i ++ [y] ++ xs.drop i).map slV ∧ Below w.heap.size w w' := by
  obtain ⟨C, W1, cz, hC1, hC2, hrun, hbz, hczs, hczt, hbw⟩ := grown_row w xs i n g cap cur hg hn hn1 hsz htk hi hnc hroom
  have hcells : ∀ (j : Nat) v, ((xs.drop i).map slV)[j]? = some v → w.cell? ⟨g, i + j, none⟩ = some v := by
    intro j v hj
    rw [hg.cell, ← Array.getElem?_toList]
    have hjn : i + j < n := by have := (List.getElem?_eq_some_iff.1 hj).1; rw [List.length_map, List.length_drop] at this; omega
    have h2 : (cur.toList.take n)[i + j]? = some v := by
      rw [htk]
      rw [List.getElem?_map, List.getElem?_drop] at hj
      rw [List.getElem?_map]; exact hj
    rw [List.getElem?_take, if_pos hjn] at h2
    exact h2
  have hglt := hg.lt
  have hhlt := hh.lt
  have hC3 : C ≤ 9223372036854775807 := by simpa [maxLen] using hC2
  have HC1 : Hid (∀ (j : Nat) v, ((xs.drop i).map slV)[j]? = some v → W1.cell? ⟨g, i + j, none⟩ = some v) := fun j v hj => (hbw.cell (p := ⟨g, i + j, none⟩) hglt).trans (hcells j v hj)
  have HH1 : Hid (Blk W1 h0 22 #[slV y]) := hh.below hbw hhlt
  have HZ1 := Lib.hid hbz
  have HW1 := Lib.hid hbw
  have HCZT := Lib.hid hczt
  have HD : Hid (((xs.drop i).map slV).length = n - i) := by show _ = _; rw [List.length_map, List.length_drop, hn]
  obtain ⟨nw, hnw⟩ : ∃ nw, nw = w.heap.size := ⟨_, rfl⟩
  rw [← hnw] at HZ1 hrun hglt hhlt ⊢
  have HNW := Lib.hid hnw
  have hz2' : ¬ ((i : Int) = (n : Int)) := by omega
  have hcapl : (cap : Int) < (n : Int) + 1 := by omega
  have hw2 : IntKind.i64.wrap ((n : Int) + 1) = (n : Int) + 1 := by rw [IntKind.wrap_i64]; omega
  have hw3 : IntKind.i64.wrap ((n : Int) + 1 - (i : Int)) = ((n : Int) + 1 - (i : Int)) := by rw [IntKind.wrap_i64]; omega
  have hw1 : IntKind.i64.wrap ((i : Int) + 1) = (i : Int) + 1 := by rw [IntKind.wrap_i64]; omega
  have hin : i ≤ n := by omega
  have hic : i ≤ cap := by omega
  have hin1 : i ≤ n + 1 := by omega
  have htn : ((i : Int) + 1).toNat = i + 1 := by omega
  have hb0 : (0 : Int) ≤ (i : Int) + 1 := by omega
  have hb1 : (i : Int) + 1 ≤ (n : Int) + 1 := by omega
  have hb4 : ¬ (C = i + 1) := by omega
  have hb5 : ¬ (C = i) := by omega
  have hb6 : ¬ (cap = i) := by omega
  have hb7 : i + 1 ≤ C := by omega
  clear htk hbz hbw hczt hcells hg hh hnw
  go_enter Try.func62, Try.ntmps62
  go_wp2_with (first
    | (refine wpList_appRun (v := .slice (some ⟨g, 0, none⟩) i cap) (u := .int .i64 ((n + 1 - i : Nat) : Int)) rfl (.tmp 34) (.tmp 39) rfl rfl (by show Value.int IntKind.i64 _ = _; congr 1; omega) hrun ?_; clear hrun)
    | (refine wpList_copySl rfl (.tmp 43) (.tmp 44) rfl nw i _ _ h0 0 _ _ cz [slV y] rfl rfl HZ1.out (by simp only [List.length_singleton, Nat.min_def]; split <;> omega) (by intro j v hj; rw [HH1.out.cell]; simpa using hj) (by simp; omega) (slV_one [y]) ?_; intro w2 u2 hb2 hm2; have HB2 := Lib.hid hb2; have HM2 := Lib.hid hm2; clear hb2 hm2))
  obtain ⟨C1, hCC⟩ : ∃ C1, C1 = (cz.toList.take i ++ [slV y] ++ cz.toList.drop (i + [slV y].length)).toArray := ⟨_, rfl⟩
  rw [← hCC] at HB2
  have hcl : cz.toList.length = C := by simpa using hczs
  have hsz1 : C1.size = C := by rw [hCC, List.size_toArray, List.length_append, List.length_append, List.length_take, List.length_drop, hcl]; simp; omega
  have HCC := Lib.hid hCC
  obtain ⟨W3, hW, hg3, hcells3, hm3⟩ : ∃ W3, W3 = w2.drew ∧ Blk W3 nw 22 C1 ∧ (∀ (j : Nat) v, ((xs.drop i).map slV)[j]? = some v → W3.cell? ⟨g, i + j, none⟩ = some v) ∧ Mod (fun k => k = nw) W1 W3 :=
    ⟨w2.drew, rfl, HB2.out.drew, fun j v hj => (HM2.out.cell (b := g) (Nat.lt_of_lt_of_le (by rw [← HNW.out]; exact hglt) HW1.out.size) (by omega) (i + j)).trans (HC1.out j v hj), HM2.out.drew⟩
  have HG3 := Lib.hid hg3
  have HC3 := Lib.hid hcells3
  have HM3 := Lib.hid hm3
  clear hg3 hcells3 hm3 hCC HB2 HM2
  refine still_tail_at 8 W3 hW (by kernel_rfl) (by kernel_rfl) ?_
  clear hW
  simp only [List.take_succ_cons, List.take_zero, List.drop_succ_cons, List.drop_zero]
  iterate 8 still_step
  refine wpStill_nil ?_
  refine wpList_copySl rfl (.tmp 50) (.tmp 53) rfl nw (i + 1) _ _ g i _ _ C1 ((xs.drop i).map slV) rfl rfl HG3.out (by rw [HD.out]; simp only [Nat.min_def]; split <;> omega) HC3.out (by rw [HD.out]; omega) (slV_one _) ?_
  intro w4 u4 hb4' hm4
  have HB4 := Lib.hid hb4'
  have HM4 := Lib.hid (HM3.out.trans' hm4)
  clear hb4' hm4
  go_wp2_with fail
  go_ret
  refine ⟨C, rfl, hC1, hC2, _, HB4.out, ?_, ?_, ?_⟩
  · have hcl1 : C1.toList.length = C := by simpa using hsz1
    have hD := HD.out
    rw [List.size_toArray, List.length_append, List.length_append, List.length_take, List.length_drop, hcl1, hD]; omega
  · rw [List.toList_toArray, HCC.out, List.toList_toArray]
    have h1 := grow_cells (cz := cz.toList) (u := slV y) hi HD.out (by omega)
    rw [HCZT.out] at h1
    simp only [List.length_singleton]
    rw [HCZT.out, h1]
    simp
  · have h1 := (HW1.out).trans ((Mod.below (B := nw) HM4.out (by rw [HNW.out]; exact HW1.out.size) (fun k e => Nat.le_of_eq e.symm)).mono (by rw [HNW.out]; exact Nat.le_refl _))
    rw [HNW.out]
    exact h1
end Go.Proofs.Ytdghanhpeekbhaa
