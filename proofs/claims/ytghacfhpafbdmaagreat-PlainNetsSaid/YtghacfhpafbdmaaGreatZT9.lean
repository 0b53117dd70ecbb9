/-
  The walks of skeinref05's Edge, the law's edgeOf, skeinref06's Ahead; equality of edges and of complex numbers.
-/
import Derived.Test.YtghacfhpafbdmaaGreatZT5
namespace Go.Proofs.YtghacfhpafbdmaaGreat
open Go.RowKit
set_option linter.unusedVariables false

theorem Blk.row {w : World} {g : Nat} {t : TypeId} {cs : Array Value} (h : Blk w g t cs) (ds : Array Value) : Blk (w.setRow g ds) g t ds := setRow_heap w g cs ds t (0, 0) h
theorem Blk.rowFar {w : World} {g : Nat} {t : TypeId} {cs : Array Value} (h : Blk w g t cs) {g' : Nat} (hg : g ≠ g') (ds : Array Value) : Blk (w.setRow g' ds) g t cs := (setRow_other w g' g ds hg).trans h
theorem below_row {B g : Nat} {w0 w : World} (hb : Below B w0 w) (hg : B ≤ g) (ds : Array Value) : Below B w0 (w.setRow g ds) :=
  ⟨hb.os, hb.tape, hb.output, by simpa using hb.size, fun i hi => (setRow_other w g i ds (by omega)).trans (hb.block i hi)⟩

theorem load_ed {w : World} {g : Nat} {e : Ed} (h : Blk w g 47 (encE e).toArray) : (loadVar 47 ⟨g, 0, none⟩).run Tryz.prog w = .ok (.agg #[.int .i64 e.id, .int .i64 e.u, .int .i64 e.v, .int .i64 e.w]) w := by
  have c0 : w.cell? ⟨g, 0, none⟩ = some (.int .i64 e.id) := h.cell 0
  have c1 : w.cell? ⟨g, 1, none⟩ = some (.int .i64 e.u) := h.cell 1
  have c2 : w.cell? ⟨g, 2, none⟩ = some (.int .i64 e.v) := h.cell 2
  have c3 : w.cell? ⟨g, 3, none⟩ = some (.int .i64 e.w) := h.cell 3
  go_simp

/-- The answer of Edge. -/
def edAns (e : Ed) (q : Bool) : Value := .tuple #[.agg #[.int .i64 e.id, .int .i64 e.u, .int .i64 e.v, .int .i64 e.w], .bool q]

def EdIs (e : Ed) (r : Ending) : Prop := ∃ q, r = .returned (edAns e q)

set_option maxRecDepth 100000 in
set_option maxHeartbeats 2000000 in
theorem Edge_any (v : Value) (E : List Ed) (x : Int) (w : World) (B : Nat) (he : RE w B v E) (hB : B ≤ w.heap.size) :
    Calls Tryz.prog 64 #[.agg #[.slice none 0 0, v, .slice none 0 0], .int .i64 x] w fun e w' => EdIs (edIn E x) e ∧ Below w.heap.size w w' := by
  obtain ⟨A, c, rfl, hc1, hc2, hc3, HC⟩ := he.open_
  clear he
  obtain ⟨n, hn⟩ : ∃ n, n = E.length := ⟨_, rfl⟩
  rw [← hn] at hc1 hc3 ⊢
  have HN := Lib.hid hn
  have HQ : Hid (edIn (E.drop 0) x = edIn E x) := rfl
  clear hn
  go_enter Tryz.func64, Tryz.ntmps64
  go_wp2
  have hbw : Below w.heap.size w ((w.alloc (.cells #[.slice none 0 0, .slice A n c, .slice none 0 0] 122)).alloc (.cells #[.int .i64 0, .int .i64 0, .int .i64 0, .int .i64 0] 47)) := ((Below.refl _ _).alloc (Nat.le_refl _) _).alloc (by simp) _
  have HBW := Lib.hid hbw
  clear hbw
  go_loop [6] (fun i => ∃ k : Nat, k ≤ n ∧ i = .int .i64 k ∧ Hid (edIn (E.drop k) x = edIn E x)) (fun i => n - (intOf i).toNat)
  case atStart => exact ⟨0, Nat.zero_le _, rfl, HQ⟩
  case round =>
    obtain ⟨k, hk, rfl, HT⟩ := hrel
    by_cases hlt : k < n
    · obtain ⟨b, o, rfl, hb, hx⟩ := HC.out k (by have := HN.out; omega)
      obtain ⟨e, hy⟩ : ∃ e, e = E[k]'(by have := HN.out; omega) := ⟨_, rfl⟩
      rw [← hy] at hx
      obtain ⟨x0, x1, x2, x3⟩ := cellE hx
      have HD : Hid (edIn (E.drop k) x = if e.id = x then e else edIn (E.drop (k + 1)) x) := by
        rw [List.drop_eq_getElem_cons (by have := HN.out; omega), ← hy]; rfl
      clear hy hx
      have x0 := (HBW.out.cell (p := ⟨b, o + k * 4, none⟩) (by show b < _; omega)).trans x0
      have x1 := (HBW.out.cell (p := ⟨b, o + k * 4 + 1, none⟩) (by show b < _; omega)).trans x1
      have x2 := (HBW.out.cell (p := ⟨b, o + k * 4 + 2, none⟩) (by show b < _; omega)).trans x2
      have x3 := (HBW.out.cell (p := ⟨b, o + k * 4 + 3, none⟩) (by show b < _; omega)).trans x3
      obtain ⟨eid, eu, ev, ew⟩ := e
      dsimp only at *
      by_cases hid : eid = x
      · have HF : Hid (edIn E x = ⟨eid, eu, ev, ew⟩) := by show _ = _; rw [← HT.out, HD.out, if_pos hid]
        clear HD HT
        subst hid
        go_wp2
        have hbk := Blk.new (w.alloc (.cells #[.slice none 0 0, .slice (some ⟨b, o, none⟩) n c, .slice none 0 0] 122)) 47 (encE ⟨eid, eu, ev, ew⟩).toArray
        rw [show (w.alloc (.cells #[.slice none 0 0, .slice (some ⟨b, o, none⟩) n c, .slice none 0 0] 122)).heap.size = w.heap.size + 1 by simp] at hbk
        refine ret_cell_tmp (p := 4) (u := 5) rfl rfl rfl (load_ed hbk) rfl ⟨⟨true, ?_⟩, ?_⟩
        · rw [HF.out]; rfl
        · exact ((Below.refl _ _).alloc (Nat.le_refl _) _).alloc (by simp) _
      · have HT' : Hid (edIn (E.drop (k + 1)) x = edIn E x) := by show _ = _; rw [← HT.out, HD.out, if_neg hid]
        clear HD HT
        go_wp2
        go_round
        case rel => exact ⟨k + 1, by omega, by go_num, HT'⟩
        case measure => simp [intOf]; omega
    · obtain rfl : k = n := by omega
      have HF : Hid (edIn E x = ⟨0, 0, 0, 0⟩) := by
        show _ = _
        rw [← HT.out, List.drop_eq_nil_of_le (by have := HN.out; omega)]; rfl
      go_wp2
      have hbk := Blk.new (w.alloc (.cells #[.slice none 0 0, .slice A k c, .slice none 0 0] 122)) 47 (encE ⟨0, 0, 0, 0⟩).toArray
      rw [show (w.alloc (.cells #[.slice none 0 0, .slice A k c, .slice none 0 0] 122)).heap.size = w.heap.size + 1 by simp] at hbk
      refine ret_cell_tmp (p := 4) (u := 5) rfl rfl rfl (load_ed hbk) rfl ⟨⟨false, ?_⟩, ?_⟩
      · rw [HF.out]; rfl
      · exact ((Below.refl _ _).alloc (Nat.le_refl _) _).alloc (by simp) _

set_option maxRecDepth 100000 in
set_option maxHeartbeats 2000000 in
theorem edgeOf_any (sv se : Value) (E : List Ed) (x : Int) (w : World) (B : Nat) (he : RE w B se E) (hB : B ≤ w.heap.size) :
    Calls Tryz.prog 29 #[netV sv se, .int .i64 x] w fun e w' => e = .returned (.agg #[.int .i64 (edIn E x).id, .int .i64 (edIn E x).u, .int .i64 (edIn E x).v, .int .i64 (edIn E x).w]) ∧ Below w.heap.size w w' := by
  have HE := Lib.hid he
  obtain ⟨A, c, rfl, hc1, hc2, hc3, _⟩ := he.open_
  clear he
  go_enter Tryz.func29, Tryz.ntmps29
  go_wp2_with fail
  refine (Edge_any _ E x _ B ((HE.out.alloc hB _).alloc (by simp; omega) _) (by simp; omega)).mono ?_
  rintro e w1 ⟨⟨q, rfl⟩, hb⟩
  have hA : Blk w1 (w.heap.size + 1) 47 #[.int .i64 0, .int .i64 0, .int .i64 0, .int .i64 0] := by
    have := Blk.new (w.alloc (.cells #[sv, .slice A E.length c] 25)) 47 #[.int .i64 0, .int .i64 0, .int .i64 0, .int .i64 0]
    rw [show (w.alloc (.cells #[sv, .slice A E.length c] 25)).heap.size = w.heap.size + 1 by simp] at this
    exact this.below hb (by simp)
  have HW1 : Hid (Below w.heap.size w w1) := (((Below.refl _ _).alloc (Nat.le_refl _) _).alloc (by simp) _).trans (hb.mono (by simp; omega))
  have hz1 := hb.size
  simp only [World.alloc, Array.size_push] at hz1
  obtain ⟨⟨eid, eu, ev, ew⟩, hed⟩ : ∃ e, e = edIn E x := ⟨_, rfl⟩
  rw [← hed]
  have HA := Lib.hid hA
  have HED := Lib.hid hed
  clear hb hA hed
  unfold edAns
  go_wp2_with (refine wpList_store_row rfl 47 (.tmp 4) (.tmp 15) rfl (w.heap.size + 1) #[.int .i64 eid, .int .i64 eu, .int .i64 ev, .int .i64 ew] rfl rfl 47 #[.int .i64 0, .int .i64 0, .int .i64 0, .int .i64 0] (HA.out.alloc _) (by kernel_rfl) rfl (by kernel_rfl) ?_)
  have hbk : Blk ((w1.alloc (.cells #[.int .i64 eid, .int .i64 eu, .int .i64 ev, .int .i64 ew] 47)).setRow (w.heap.size + 1) #[.int .i64 eid, .int .i64 eu, .int .i64 ev, .int .i64 ew]) (w.heap.size + 1) 47 (encE ⟨eid, eu, ev, ew⟩).toArray := (HA.out.alloc _).row _
  refine ret_cell1 (p := 4) rfl rfl (load_ed hbk) rfl ⟨by rw [← HED.out], ?_⟩
  exact below_row (HW1.out.alloc (by omega) _) (by omega) _

set_option maxHeartbeats 2000000 in
theorem Ahead_any (a b : Ed) (w : World) : Calls Tryz.prog 31 #[.agg #[.int .i64 a.id, .int .i64 a.u, .int .i64 a.v, .int .i64 a.w], .agg #[.int .i64 b.id, .int .i64 b.u, .int .i64 b.v, .int .i64 b.w]] w fun e w' => e = .returned (.bool (ltW a b)) ∧ Below w.heap.size w w' := by
  obtain ⟨aid, au, av, aw⟩ := a
  obtain ⟨bid, bu, bv, bw⟩ := b
  unfold ltW
  dsimp only
  by_cases h1 : aw < bw
  · rw [decide_eq_true (.inl h1)]
    go_enter Tryz.func31, Tryz.ntmps31
    go_wp2
    go_ret
    exact ⟨rfl, ((Below.refl _ _).alloc (Nat.le_refl _) _).alloc (by simp) _⟩
  · by_cases h2 : aw = bw
    · by_cases h3 : aid < bid
      · rw [decide_eq_true (.inr ⟨h2, h3⟩)]
        go_enter Tryz.func31, Tryz.ntmps31
        go_wp2
        go_ret
        exact ⟨rfl, ((Below.refl _ _).alloc (Nat.le_refl _) _).alloc (by simp) _⟩
      · rw [decide_eq_false (by omega)]
        go_enter Tryz.func31, Tryz.ntmps31
        go_wp2
        go_ret
        exact ⟨rfl, ((Below.refl _ _).alloc (Nat.le_refl _) _).alloc (by simp) _⟩
    · rw [decide_eq_false (by omega)]
      go_enter Tryz.func31, Tryz.ntmps31
      go_wp2
      go_ret
      exact ⟨rfl, ((Below.refl _ _).alloc (Nat.le_refl _) _).alloc (by simp) _⟩
theorem Ahead_q (a b : Ed) (q : Bool) (hq : ltW a b = q) (w : World) : Calls Tryz.prog 31 #[.agg #[.int .i64 a.id, .int .i64 a.u, .int .i64 a.v, .int .i64 a.w], .agg #[.int .i64 b.id, .int .i64 b.u, .int .i64 b.v, .int .i64 b.w]] w fun e w' => e = .returned (.bool q) ∧ Below w.heap.size w w' := by
  subst hq; exact Ahead_any a b w

/-! ### Equality -/
theorem run_eqE (W : World) (d : Nat) (i u v x : Int) : (Op.equalIn (d + 2) 47 (.agg #[.int .i64 i, .int .i64 u, .int .i64 v, .int .i64 x]) (.agg #[.int .i64 i, .int .i64 u, .int .i64 v, .int .i64 x])).run Tryz.prog W = .ok true W := by
  have h0 := fun (x y : Int) (w : World) => run_equalIn_int (P := Tryz.prog) w d 3 .i64 .i64 x y Tryz.underlying3
  have h1 := fun (x y : Int) (w : World) => run_equalIn_int (P := Tryz.prog) w d 2 .i64 .i64 x y Tryz.underlying2
  rw [Op.equalIn]
  simp only [run_underlying Tryz.underlying47, Sem.run_bind, Result.andThen_ok]
  simp [go_sem, h0, h1]
theorem run_eqC (W : World) (d : Nat) (a b : Nat) (ha : a < 2 ^ 53) (hb : b < 2 ^ 53) : (Op.equalIn (d + 1) 48 (.complex .f64 (fl a) (fl b)) (.complex .f64 (fl a) (fl b))).run Tryz.prog W = .ok true W := by
  have e : ∀ {x : Nat}, x < 2 ^ 53 → Op.floatEq .f64 (fl x) (fl x) = true := by
    intro x hx
    unfold Op.floatEq
    rw [show FloatKind.f64.format.order (fl x) (fl x) = some (compare x x) from fl_order hx hx]
    simp
  rw [Op.equalIn]
  simp only [run_underlying Tryz.underlying48, Sem.run_bind, Result.andThen_ok]
  simp [e ha, e hb]
theorem run_eqZ (W : World) : (Op.equalIn 9999 48 (.complex .f64 0 0) (.complex .f64 0 0)).run Tryz.prog W = .ok true W := by kernel_rfl
end Go.Proofs.YtghacfhpafbdmaaGreat

/-
  What PlainPaths' walk wants in plain words: errors there and back, the beginning of a list, the greatest edge of one more.
-/
namespace Go.Proofs.YtghacfhpafbdmaaGreat
open Go.RowKit
set_option linter.unusedVariables false

theorem chk_symm (V : List Int) (E : List Ed) (u v : Int) : chkV V E [v, u] = chkV V E [u, v] := by
  unfold chkV
  simp only [List.all_cons, List.all_nil, Bool.and_true]
  rw [Bool.and_comm]
theorem pathErr_symm (V : List Int) (E : List Ed) (u v : Int) : pathErr V E v u = pathErr V E u v := by
  unfold pathErr
  rw [chk_symm]
  by_cases h : chkV V E [u, v] = 0
  · rw [if_pos h, if_pos h]
    obtain ⟨h1, h2⟩ := chk_zero h
    have hr := right_of h1
    have hu := h2 u (by simp)
    have hv := h2 v (by simp)
    rw [pathK_joined hr hu hv, pathK_joined hr hv hu, joinedB_symm]
  · rw [if_neg h, if_neg h]
/-- What is known where there is a path. -/
theorem path_known {V : List Int} {E : List Ed} {u v : Int} (h : pathErr V E u v = 0) : chkV V E [u, v] = 0 ∧ Right V E ∧ u ∈ V ∧ v ∈ V ∧ pathK V E u v = true ∧ joinedB V E u v = true := by
  obtain ⟨h1, h2⟩ := pathErr_zero h
  obtain ⟨h3, h4⟩ := chk_zero h1
  have hr := right_of h3
  have hu := h4 u (by simp)
  have hv := h4 v (by simp)
  exact ⟨h1, hr, hu, hv, h2, by rw [← pathK_joined hr hu hv]; exact h2⟩
/-- .. where there is none, though all is right. -/
theorem path_none {V : List Int} {E : List Ed} {u v : Int} (h : pathErr V E u v ≠ 0) (hc : chkV V E [u, v] = 0) : joinedB V E u v = false := by
  obtain ⟨h3, h4⟩ := chk_zero hc
  have hr := right_of h3
  rw [← pathK_joined hr (h4 u (by simp)) (h4 v (by simp))]
  unfold pathErr at h
  rw [if_pos hc] at h
  cases hk : pathK V E u v with
  | false => rfl
  | true => rw [hk] at h; exact absurd rfl h

theorem RK.take {α : Type} {enc : α → List Value} {k : Nat} {w : World} {B c : Nat} {A : Option Addr} {n : Nat} {xs : List α} (h : RK enc k w B (.slice A n c) xs) (i : Nat) (hi : i ≤ n) : RK enc k w B (.slice A i c) (xs.take i) := by
  obtain ⟨h1, A', c', hv, h3, h4, h5⟩ := h
  injection hv with e1 e2 e3
  subst e1 e2 e3
  have hl : (xs.take i).length = i := by rw [List.length_take]; omega
  refine ⟨by rw [hl]; exact Nat.le_trans (Nat.mul_le_mul_right k hi) h1, A, c, by rw [hl], by omega, h4, ?_⟩
  rcases h5 with rfl | ⟨b, off, rfl, hb, hc⟩
  · exact .inl (by simp)
  · refine .inr ⟨b, off, rfl, hb, fun j x hj u hu => hc j x ?_ u hu⟩
    rw [List.getElem?_take] at hj
    split at hj
    · exact hj
    · cases hj

theorem most_next (p : List Ed) (k : Nat) (hk : k < p.length) (h0 : 0 < k) : mostL (p.take (k + 1)) = if ltW (mostL (p.take k)) p[k] = true then p[k] else mostL (p.take k) := by
  have h1 : p.take k ≠ [] := by intro e; have := congrArg List.length e; rw [List.length_take_of_le (by omega)] at this; simp at this; omega
  rw [List.take_succ_eq_append_getElem hk, mostL_snoc _ _ h1, ltW_cfW]
  simp only [decide_eq_true_eq]
theorem most_first (p : List Ed) (hk : 0 < p.length) : mostL (p.take 1) = p[0] := by
  rw [List.take_succ_eq_append_getElem hk, List.take_zero, List.nil_append, mostL_one]
theorem not_before {xs : List Int} (h : xs.Nodup) (k : Nat) (hk : k < xs.length) : (xs.take k).contains xs[k] = false := by
  rw [Bool.eq_false_iff]
  intro hc
  have hc : xs[k] ∈ xs.take k := by simpa using hc
  obtain ⟨j, hj, he⟩ := List.getElem_of_mem hc
  have hjk : j < k := by rw [List.length_take] at hj; omega
  rw [List.getElem_take] at he
  exact absurd he (List.pairwise_iff_getElem.1 h j k (by omega) hk hjk)

/-- What Along answers, opened. -/
theorem along_open (p : List Ed) : ∃ (m : Ed) (re im : Nat) (g : Int), alongT p = .tuple #[.agg #[.int .i64 m.id, .int .i64 m.u, .int .i64 m.v, .int .i64 m.w, .complex .f64 re im], .int .i64 g] ∧
    ((70368744177664 < sumN p ∧ g = 62) ∨ (¬ 70368744177664 < sumN p ∧ g = 0 ∧ m = mostL p ∧ re = fl (sumN p) ∧ im = fl p.length)) := by
  unfold alongT
  by_cases h : 70368744177664 < sumN p
  · rw [if_pos h]
    exact ⟨⟨0, 0, 0, 0⟩, 0, 0, 62, rfl, .inl ⟨h, rfl⟩⟩
  · rw [if_neg h]
    exact ⟨mostL p, _, _, 0, rfl, .inr ⟨h, rfl, rfl, rfl, rfl⟩⟩
end Go.Proofs.YtghacfhpafbdmaaGreat
