/-
  slices.Insert at a row of slices, one element.
-/
import Derived.Lib.Overlaps
import Derived.Lib.AppendZerosOnto
import Derived.Test.YtdghanhpeekbhaaZJ2
namespace Go.Proofs.Ytdghanhpeekbhaa
open Go.RowKit Go.Maps Go.Sort Go.Shelf
set_option linter.unusedVariables false

/-- A copy into a row of slices. -/
theorem wpList_copySl {ops : Array Oper} {rest : List Oper} {o : Oper} {a : Act} {Q : Exit → Act → World → Prop} {w : World} (hgd : o.guard = none) (x y : Operand) (hop : o.op = .call { callee := .builtin .copy, args := #[x, y], argTypes := #[30, 30] })
    (g d dl dc b s sl sc : Nat) (cur : Array Value) (cs : List Value) (hx : a.eval x = .slice (some ⟨g, d, none⟩) dl dc) (hy : a.eval y = .slice (some ⟨b, s, none⟩) sl sc) (hB : Blk w g 22 cur) (hn : cs.length = Nat.min sl dl)
    (hsrc : ∀ (j : Nat) v, cs[j]? = some v → w.cell? ⟨b, s + j, none⟩ = some v) (hfit : d + cs.length ≤ cur.size) (h1 : ∀ v ∈ cs, v.oneCell' = true)
    (h : ∀ w' u, Blk w' g 22 (cur.toList.take d ++ cs ++ cur.toList.drop (d + cs.length)).toArray → Mod (fun k => k = g) w w' → wpList Try.prog ops Q rest (a.put o.dst u) w') : wpList Try.prog ops Q (o :: rest) a w := by
  refine wpList_plain hgd fun K' hK' => ?_
  have hrun := fun ty => run_copy_row (P := Try.prog) w 30 30 ty 22 g d dl dc ⟨b, s, none⟩ sl sc cur 22 cs Try.underlying30 (by kernel_rfl) hB hn (fun j v hj => by rw [add_none]; exact hsrc j v hj) hfit h1
  unfold Oper.wp
  simp only [execOp, hop, resolve, invoke, builtin, Sem.run_bind, Sem.run_pure, Result.andThen_ok, List.map_toArray, List.map_cons, List.map_nil, hx, hy, hrun]
  exact hK' _ _ (h _ _ (setRow_heap w g _ _ _ _ hB) ((Mod.refl (fun k => k = g) w).setRow (fun _ => rfl) _))
theorem slV_one (l : List Sl) : ∀ v ∈ l.map slV, v.oneCell' = true := by
  intro v hv
  obtain ⟨x, _, rfl⟩ := List.mem_map.1 hv
  rfl
/-- What two copies leave: one element more, at its place. -/
theorem ins_cells {cur : List Value} {D : List Value} {u : Value} {i n : Nat} (hi : i < n) (hD : D.length = n - i) (hc : n + 1 ≤ cur.length) :
    ((((cur.take (i + 1) ++ D ++ cur.drop (i + 1 + D.length)).take i ++ [u] ++ (cur.take (i + 1) ++ D ++ cur.drop (i + 1 + D.length)).drop (i + 1)))).take (n + 1) = cur.take i ++ [u] ++ D := by
  have h1 : (cur.take (i + 1) ++ D ++ cur.drop (i + 1 + D.length)).take i = cur.take i := by
    rw [List.append_assoc, List.take_append_of_le_length (by rw [List.length_take]; omega), List.take_take]
    congr 1; omega
  have h2 : (cur.take (i + 1) ++ D ++ cur.drop (i + 1 + D.length)).drop (i + 1) = D ++ cur.drop (i + 1 + D.length) := by
    rw [List.append_assoc, List.drop_left' (by rw [List.length_take]; omega)]
  rw [h1, h2]
  have h3 : (cur.take i ++ [u] ++ D).length = n + 1 := by simp; omega
  rw [← List.append_assoc, List.take_left' h3]

set_option maxRecDepth 100000 in
set_option maxHeartbeats 1000000 in
/-- .. where there is room, ahead of the end. -/
theorem ins_room (w : World) (xs : List Sl) (y : Sl) (i n g cap h0 : Nat) (cur : Array Value) (hg : Blk w g 22 cur) (hn : xs.length = n) (hn1 : n ≤ 1000) (hsz : cur.size = cap) (htk : cur.toList.take n = xs.map slV) (hi : i < n) (hroom : n + 1 ≤ cap) (hcm : cap ≤ 9223372036854775807) (hh : Blk w h0 22 #[slV y]) (hne : h0 ≠ g) :
    Calls Try.prog 62 #[.slice (some ⟨g, 0, none⟩) n cap, .int .i64 (i : Int), .slice (some ⟨h0, 0, none⟩) 1 1] w fun e w' => e = .returned (.slice (some ⟨g, 0, none⟩) (n + 1) cap) ∧ ∃ cur', Blk w' g 22 cur' ∧ cur'.size = cap ∧ cur'.toList.take (n + 1) = (xs.take i ++ [y] ++ xs.drop i).map slV ∧ Mod (fun k => k = g) w w' := by
  have hz2 : ¬ ((i : Int) = (n : Int)) := by omega
  have hov : ∀ lb cb, (callFunc 83 #[.slice (some ⟨h0, 0, none⟩) 1 1, .slice (some ⟨g, i + 1, none⟩) lb cb]).run Try.prog w = .ok (.value (.bool false)) w := fun lb cb => by
    have hsa : w.shape? h0 = some (22, 1) := by unfold Blk at hh; simp [World.shape?, hh]
    have hsb : w.shape? g = some (22, cap) := by unfold Blk at hg; simp [World.shape?, hg, hsz]
    rw [run_callFunc_extern Try.func83 (by kernel_rfl) (by kernel_rfl) (by kernel_rfl) (e := Extern.SlicesOverlaps.overlaps #[30, 30] #[4]) (by kernel_rfl),
      Lib.run_overlaps_apart w 30 4 22 Try.underlying30 1 Try.sizeOf22 ⟨h0, 0, none⟩ ⟨g, i + 1, none⟩ 1 1 lb cb hne 22 22 1 cap hsa hsb (by omega) (hh.frozen 0) (hh.frozen 1)]
    rfl
  have hw1 : IntKind.i64.wrap ((i : Int) + 1) = (i : Int) + 1 := by rw [IntKind.wrap_i64]; omega
  have hw2 : IntKind.i64.wrap ((n : Int) + 1) = (n : Int) + 1 := by rw [IntKind.wrap_i64]; omega
  have hlt1 : ¬ ((cap : Int) < (n : Int) + 1) := by omega
  have htn : ((i : Int) + 1).toNat = i + 1 := by omega
  have htn2 : ((n : Int) + 1).toNat = n + 1 := by omega
  have hb0 : (0 : Int) ≤ (i : Int) + 1 := by omega
  have hb1 : (i : Int) + 1 ≤ (n : Int) + 1 := by omega
  have hb2 : (n : Int) + 1 ≤ cap := by omega
  have hin : i ≤ n := by omega
  have hin2 : i ≤ n + 1 := by omega
  have hb3 : (i : Int) ≤ (n : Int) + 1 := by omega
  have hb4 : ¬ (cap = i + 1) := by omega
  have hb5 : ¬ (cap = i) := by omega
  go_enter Try.func62, Try.ntmps62
  go_wp2_with (simp only [hov])
  have hD : ((xs.drop i).map slV).length = n - i := by rw [List.length_map, List.length_drop, hn]
  have hcells : ∀ (j : Nat) v, ((xs.drop i).map slV)[j]? = some v → w.cell? ⟨g, i + j, none⟩ = some v := by
    intro j v hj
    rw [hg.cell, ← Array.getElem?_toList]
    have hjn : i + j < n := by have := (List.getElem?_eq_some_iff.1 hj).1; omega
    have h2 : (cur.toList.take n)[i + j]? = some v := by
      rw [htk]
      rw [List.getElem?_map, List.getElem?_drop] at hj
      rw [List.getElem?_map]; exact hj
    rw [List.getElem?_take, if_pos hjn] at h2
    exact h2
  obtain ⟨W2, hW, hg2, hh2, hcells2, hm2⟩ : ∃ W2, W2 = w.drew ∧ Blk W2 g 22 cur ∧ Blk W2 h0 22 #[slV y] ∧ (∀ (j : Nat) v, ((xs.drop i).map slV)[j]? = some v → W2.cell? ⟨g, i + j, none⟩ = some v) ∧ Mod (fun k => k = g) w W2 := ⟨w.drew, rfl, hg.drew, hh.drew, hcells, (Mod.refl _ _).drew⟩
  have HG2 := Lib.hid hg2
  have HH2 := Lib.hid hh2
  have HC2 := Lib.hid hcells2
  have HM2 := Lib.hid hm2
  have HD := Lib.hid hD
  clear hcells hg2 hh2 hcells2 hm2 hov hh hD
  refine still_tail_at 8 W2 hW (by kernel_rfl) (by kernel_rfl) ?_
  clear hW
  simp only [List.take_succ_cons, List.take_zero, List.drop_succ_cons, List.drop_zero]
  iterate 8 still_step
  refine wpStill_nil ?_
  refine wpList_copySl rfl (.tmp 73) (.tmp 76) rfl g (i + 1) _ _ g i _ _ cur ((xs.drop i).map slV) rfl rfl HG2.out (by rw [HD.out]; simp only [Nat.min_def]; split <;> omega) HC2.out (by rw [HD.out]; omega) (slV_one _) ?_
  intro w3 u3 hb3 hm3
  have hh3 := HH2.out.mod hm3 hne
  obtain ⟨C1, hC1⟩ : ∃ C1, C1 = (cur.toList.take (i + 1) ++ (xs.drop i).map slV ++ cur.toList.drop (i + 1 + ((xs.drop i).map slV).length)).toArray := ⟨_, rfl⟩
  rw [← hC1] at hb3
  have hsz1 : C1.size = cap := by
    have hD := HD.out
    have hcl : cur.toList.length = cap := by simpa using hsz
    rw [hC1, List.size_toArray, List.length_append, List.length_append, List.length_take, List.length_drop, hD, hcl]; omega
  have HB3 := Lib.hid hb3
  have HH3 := Lib.hid hh3
  have HM3 := Lib.hid (HM2.out.trans' hm3)
  have HC1 := Lib.hid hC1
  clear hb3 hh3 hm3 hC1
  go_wp2_with (first | (refine wpList_copySl rfl (.tmp 80) (.tmp 81) rfl g i _ _ h0 0 _ _ C1 [slV y] rfl rfl HB3.out (by simp only [List.length_singleton, Nat.min_def]; split <;> omega) (by intro j v hj; rw [HH3.out.cell]; simpa using hj) (by simp; omega) (slV_one [y]) ?_; intro w4 u4 hb4 hm4; have HB4 := Lib.hid hb4; have HM4 := Lib.hid hm4; clear hb4 hm4))
  go_ret
  refine ⟨rfl, _, HB4.out, ?_, ?_, HM3.out.trans' HM4.out⟩
  · have hcl : C1.toList.length = cap := by simpa using hsz1
    rw [List.size_toArray, List.length_append, List.length_append, List.length_take, List.length_drop, hcl]; simp; omega
  · have hD := HD.out
    have hcl : cur.toList.length = cap := by simpa using hsz
    rw [List.toList_toArray, HC1.out, List.toList_toArray]
    have h1 := ins_cells (cur := cur.toList) (u := slV y) hi hD (by omega)
    have h2 : cur.toList.take i = (xs.take i).map slV := by
      have : (cur.toList.take n).take i = (xs.take i).map slV := by rw [htk, List.map_take]
      rw [List.take_take] at this
      rw [← this]; congr 1; omega
    rw [h2] at h1
    simp only [List.length_singleton]
    rw [h1]
    simp

theorem etSls : ElemT 30 22 1 24 := elemT_of (z := .slice none 0 0) Try.underlying30 (by kernel_rfl) (by kernel_rfl) (by decide) (by decide) (by decide)
set_option maxRecDepth 100000 in
set_option maxHeartbeats 1000000 in
/-- .. at the end. -/
theorem ins_end (w : World) (B : Nat) (v : Value) (xs : List Sl) (y : Sl) (h0 : Nat) (h : OK encSl 1 22 w B v xs) (hn1 : xs.length ≤ 1000) (hh : Blk w h0 22 #[slV y]) (hB : B ≤ w.heap.size) :
    Calls Try.prog 62 #[v, .int .i64 (xs.length : Int), .slice (some ⟨h0, 0, none⟩) 1 1] w fun e w' => ∃ v', e = .returned v' ∧ OK encSl 1 22 w' B v' (xs ++ [y]) ∧ w.grownBy w' v.ownBlock ∧ (v'.ownBlock = v.ownBlock ∨ v'.ownBlock = some w.heap.size) := by
  obtain ⟨A, c, rfl, _, _, _, _⟩ := (h.rk encSl_len (Nat.le_refl _)).open_
  obtain ⟨n, hn⟩ : ∃ n, n = xs.length := ⟨_, rfl⟩
  rw [← hn] at h hn1 ⊢
  have HE : Hid ((xs ++ [y]).length = n + 1) := by rw [List.length_append, List.length_singleton, hn]; exact Lib.hid rfl
  have HN := Lib.hid hn
  clear hn
  have hlen1 : xs.length + 1 ≤ 1000000 := by have := HN.out; omega
  by_cases hc : c = n
  · go_enter Try.func62, Try.ntmps62
    go_wp2_with (first | (refine wpList_appE etSls encSl_len encSl_one rfl (.tmp 23) (.tmp 24) rfl rfl h h0 rfl (by intro j u hu; rw [hh.cell]; simpa [encSl] using hu) hlen1 hB ?_; intro v' w' k1 k2 k3; have K1 := Lib.hid k1; have K2 := Lib.hid k2; have K3 := Lib.hid k3; obtain ⟨A2, c2, rfl, _, _, _, _⟩ := (k1.rk encSl_len (Nat.le_refl _)).open_; rw [HE.out] at K1 K3 ⊢; clear k1 k2 k3))
    go_ret
    exact ⟨_, rfl, K1.out, K2.out, K3.out⟩
  · go_enter Try.func62, Try.ntmps62
    go_wp2_with (first | (refine wpList_appE etSls encSl_len encSl_one rfl (.tmp 23) (.tmp 24) rfl rfl h h0 rfl (by intro j u hu; rw [hh.cell]; simpa [encSl] using hu) hlen1 hB ?_; intro v' w' k1 k2 k3; have K1 := Lib.hid k1; have K2 := Lib.hid k2; have K3 := Lib.hid k3; obtain ⟨A2, c2, rfl, _, _, _, _⟩ := (k1.rk encSl_len (Nat.le_refl _)).open_; rw [HE.out] at K1 K3 ⊢; clear k1 k2 k3))
    go_ret
    exact ⟨_, rfl, K1.out, K2.out, K3.out⟩
end Go.Proofs.Ytdghanhpeekbhaa
