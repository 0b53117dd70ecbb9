/-
  The walks of plain's back and farthest.
-/
import Derived.Test.YtghacfhpafbdmaaGreatG29
namespace Go.Proofs.YtghacfhpafbdmaaGreat
open Go.RowKit Go.Sort
set_option linter.unusedVariables false

section
variable {w : World} {B gw gl gf gk n : Nat} {ov : Value} {b : Bs}
theorem WkAt.known_cell (h : WkAt w B gw gl gf gk n ov b) {i : Nat} (hi : i < n) : w.cell? ⟨gk, i, none⟩ = some (.bool (knw b.known i)) := by
  rw [h.known.cell]
  have := h.klen
  unfold knw
  simp [boolV, List.getD, List.getElem?_eq_getElem (show i < b.known.length by omega)]
theorem WkAt.far_cell (h : WkAt w B gw gl gf gk n ov b) {i : Nat} (hi : i < n) : w.cell? ⟨gf, i, none⟩ = some (.int .i64 (frr b.far i)) := by
  rw [h.far.cell]
  have := h.flen
  unfold frr
  simp [intV, List.getD, List.getElem?_eq_getElem (show i < b.far.length by omega)]
theorem WkAt.last_cell (h : WkAt w B gw gl gf gk n ov b) {i : Nat} (hi : i < n) : w.cell? ⟨gl, i * 5, none⟩ = some (.int .i64 ((lst b.last i).1 : Int)) ∧ w.cell? ⟨gl, i * 5 + 1, none⟩ = some (.int .i64 (lst b.last i).2.id) ∧ w.cell? ⟨gl, i * 5 + 2, none⟩ = some (.int .i64 (lst b.last i).2.u) ∧ w.cell? ⟨gl, i * 5 + 3, none⟩ = some (.int .i64 (lst b.last i).2.v) ∧ w.cell? ⟨gl, i * 5 + 4, none⟩ = some (.int .i64 (lst b.last i).2.w) := by
  have hl := h.llen
  have hx : b.last[i]? = some (lst b.last i) := by unfold lst; simp [List.getD, List.getElem?_eq_getElem (show i < b.last.length by omega)]
  have key : ∀ (j : Nat) u, (encP (lst b.last i))[j]? = some u → w.cell? ⟨gl, i * 5 + j, none⟩ = some u := by
    intro j u hu
    rw [h.last.cell]
    have := flat_get encP_len b.last i _ hx j u hu
    simpa using this
  exact ⟨key 0 _ rfl, key 1 _ rfl, key 2 _ rfl, key 3 _ rfl, key 4 _ rfl⟩
end

set_option maxHeartbeats 1000000 in
theorem back_no (w : World) (B gw gl gf gk n : Nat) (ov : Value) (b : Bs) (i : Nat) (h : WkAt w B gw gl gf gk n ov b) (hi : i < n) (hk : knw b.known i = false) :
    Calls Tryz.prog 88 #[.pointer (some ⟨gw, 0, none⟩), .int .i64 (i : Int)] w fun e w' => e = .returned (.tuple #[.slice none 0 0, .bool false]) ∧ w' = w := by
  have h3 : w.cell? ⟨gw, 3, none⟩ = some (.slice (some ⟨gk, 0, none⟩) n n) := h.head.cell 3
  have h4 := h.known_cell hi
  rw [hk] at h4
  have h5 : (i : Int) < n := by omega
  clear h
  go_enter Tryz.func88, Tryz.ntmps88
  go_wp2_with fail
  go_ret2
  exact ⟨rfl, rfl⟩

theorem idxOf_at {l : List Nat} (hn : l.Nodup) {k x : Nat} (h : l[k]? = some x) : l.idxOf x = k := by
  have hm : x ∈ l := List.mem_of_getElem? h
  have h1 : l[l.idxOf x]? = some x := by
    rw [List.getElem?_eq_getElem (List.idxOf_lt_length_of_mem hm)]; simp
  exact (List.getElem?_inj (List.idxOf_lt_length_of_mem hm) hn).1 (h1.trans h.symm)
/-- What holds at the head of back's loop. -/
def BackRel (w : World) (b : Bs) (s : Nat) (tot : List Ed) (i t : Value) (wr : World) : Prop :=
  ∃ (x k fuel : Nat) (acc : List Ed), i = .int .i64 (x : Int) ∧ b.order[k]? = some x ∧ k < fuel ∧ fuel ≤ acc.length + fuel ∧ acc.length + fuel ≤ 100000 ∧ Below w.heap.size w wr ∧ OK encE 4 47 wr w.heap.size t acc ∧ acc ++ backL b.last s fuel x = tot

set_option maxRecDepth 100000 in
set_option maxHeartbeats 4000000 in
theorem back_ok (w : World) (B gw gl gf gk n : Nat) (ov : Value) (b : Bs) (i s : Nat) (f : Ed → Nat × Nat) (T : List Ed) (h : WkAt w B gw gl gf gk n ov b) (hB : B ≤ w.heap.size) (hn : n ≤ 2048) (hw : Went f T n s b) (hi : i < n) (hk : knw b.known i = true) :
    Calls Tryz.prog 88 #[.pointer (some ⟨gw, 0, none⟩), .int .i64 (i : Int)] w fun e w' => ∃ v, e = .returned (.tuple #[v, .bool true]) ∧ OK encE 4 47 w' w.heap.size v (backL b.last s n i) ∧ Below w.heap.size w w' := by
  have h3 : w.cell? ⟨gw, 3, none⟩ = some (.slice (some ⟨gk, 0, none⟩) n n) := h.head.cell 3
  have h4 := h.known_cell hi
  rw [hk] at h4
  have h5 : (i : Int) < n := by omega
  have H := Lib.hid h
  have HW := Lib.hid hw
  have hne : b.order.map natI ≠ [] := by intro e; have h1 := hw.first; have h2 : b.order = [] := by simpa using e
                                         rw [h2] at h1; simp at h1
  obtain ⟨k0, hk0⟩ := List.getElem?_of_mem ((hw.known i).2 ⟨hi, hk⟩)
  have HK0 := Lib.hid hk0
  have HNE := Lib.hid hne
  clear h hw hne hk0
  obtain ⟨tot, htot⟩ : ∃ tot, tot = backL b.last s n i := ⟨_, rfl⟩
  rw [← htot]
  have HT := Lib.hid htot
  clear htot
  go_enter Tryz.func88, Tryz.ntmps88
  go_wp2_with fail
  clear h3 h4
  go_loopw [1, 6] (fun i t wr => BackRel w b s tot i t wr) (fun i _ wr => b.order.idxOf (intOf i).toNat)
  case atStart =>
    refine ⟨i, k0, n, [], rfl, HK0.out, ?_, by omega, by simp; omega, Below.refl _ _, .nil _ _, HT.out.symm⟩
    have := (List.getElem?_eq_some_iff.1 HK0.out).1
    have := HW.out.len
    omega
  case round =>
    obtain ⟨x, k, fuel, acc, rfl, hxk, hkf, _, hal, hbel, ho, htt⟩ := hrel
    have hwk := H.out.below hbel
    obtain ⟨go, co, hov, ho1, ho2, ho3, ho4, hoc⟩ := hwk.order.row encI_len HNE.out
    rw [List.length_map] at hov ho3
    subst hov
    have a0 : wr.cell? ⟨gw, 0, none⟩ = some (.slice (some ⟨go, 0, none⟩) b.order.length co) := hwk.head.cell 0
    have a1 : wr.cell? ⟨gw, 1, none⟩ = some (.slice (some ⟨gl, 0, none⟩) n n) := hwk.head.cell 1
    have o0 : wr.cell? ⟨go, 0, none⟩ = some (.int .i64 (s : Int)) := by
      have := hoc 0 (natI s) (by simp [HW.out.first]) 0 _ rfl
      simpa [natI] using this
    have hx : x < n := HW.out.lt (List.mem_of_getElem? hxk)
    have hxi : (x : Int) < n := by omega
    obtain ⟨l0, l1, l2, l3, l4⟩ := hwk.last_cell hx
    obtain ⟨m, hm⟩ : ∃ m, m = b.order.length := ⟨_, rfl⟩
    rw [← hm] at ho3 a0
    have hmp : 0 < m := by have := (List.getElem?_eq_some_iff.1 hxk).1; omega
    have hmpi : (0 : Int) < m := by omega
    have HM := Lib.hid hm
    have HB := Lib.hid hbel
    have HO := Lib.hid ho
    have HTT := Lib.hid htt
    have HXK := Lib.hid hxk
    have HLo := Lib.hid ho.lt
    have hz := hbel.size
    clear hwk hoc hbel ho htt hxk hm
    obtain ⟨⟨to, ⟨eid, eu, ev, ew⟩⟩, hst⟩ : ∃ p : Stp, p = lst b.last x := ⟨_, rfl⟩
    rw [← hst] at l0 l1 l2 l3 l4
    dsimp only at l0 l1 l2 l3 l4
    have HST := Lib.hid hst
    clear hst
    by_cases hxs : x = s
    · subst hxs
      have hacc : acc = tot := by
        have h1 := HTT.out
        have h0 : k = 0 := by
          have h2 := HXK.out
          have h3 := HW.out.first
          exact (List.getElem?_inj (List.getElem?_eq_some_iff.1 h2).1 HW.out.nodup).1 (h2.trans h3.symm)
        obtain ⟨fu, rfl⟩ : ∃ fu, fuel = fu + 1 := ⟨fuel - 1, by omega⟩
        rw [backL, if_pos rfl, List.append_nil] at h1
        exact h1
      have HA := Lib.hid hacc
      clear hacc
      go_wp2_with fail
      go_ret2
      refine ⟨u6, rfl, ?_, HB.out⟩
      rw [← HA.out]
      exact HO.out
    · have hxs' : (x : Int) ≠ s := by omega
      have hk0 : 0 < k := by
        rcases Nat.eq_zero_or_pos k with h0 | h0
        · have h2 := HXK.out
          have h3 := HW.out.first
          rw [h0, h3] at h2
          injection h2 with h2
          exact absurd h2.symm hxs
        · exact h0
      obtain ⟨j, hjk, hjo, _⟩ := HW.out.came k x hk0 HXK.out
      obtain ⟨fu, rfl⟩ : ∃ fu, fuel = fu + 1 := ⟨fuel - 1, by omega⟩
      have htt2 : (acc ++ [⟨eid, eu, ev, ew⟩]) ++ backL b.last s fu to = tot := by
        rw [← HTT.out, backL, if_neg hxs, ← HST.out, List.append_assoc]; rfl
      rw [← HST.out] at hjo
      dsimp only at hjo
      have HTT2 := Lib.hid htt2
      have HJ := Lib.hid hjo
      clear htt2 hjo
      go_wp2_with (at_builtin; refine wpList_app1 etEdges encE_len encE_one rfl (.tmp 23) (.tmp 32) rfl rfl (HO.out.alloc _) wr.heap.size rfl (y := ⟨eid, eu, ev, ew⟩) (by intro j u hu; rw [World.cell?_alloc_at _ _ _ _ (by simp), ← hu, ← Array.getElem?_toList]; rfl) (by omega) (by simp; omega) ?_; intro v' w5 ho5 hg5 hb5; have HO5 := Lib.hid ho5; have HG5 := Lib.hid hg5; have hl5 := (H.out.below ((HB.out.alloc (by omega) _).grown HG5.out (by simp; omega) (fun q hq => (HLo.out q hq).1))).last_cell hx; rw [← HST.out] at hl5; obtain ⟨l0, l1, l2, l3, l4⟩ := hl5; have a1 := (H.out.below ((HB.out.alloc (by omega) _).grown HG5.out (by simp; omega) (fun q hq => (HLo.out q hq).1))).head.cell 1; clear ho5 hg5 hb5; dsimp only at *)
      go_roundw
      case rel =>
        refine ⟨to, j, fu, acc ++ [⟨eid, eu, ev, ew⟩], rfl, HJ.out, by omega, by omega, by simp; omega, (HB.out.alloc (by omega) _).grown HG5.out (by simp; omega) (fun q hq => (HLo.out q hq).1), HO5.out, HTT2.out⟩
      case measure =>
        simp only [intOf, Int.toNat_natCast]
        rw [idxOf_at HW.out.nodup HXK.out, idxOf_at HW.out.nodup HJ.out]
        exact hjk

/-- What holds at the head of farthest's loop. -/
def FarRel (w : World) (b : Bs) (m : Nat) (best i : Value) (wr : World) : Prop :=
  ∃ k : Nat, k ≤ m ∧ i = .int .i64 k ∧ best = .int .i64 (((b.order.take k).foldl (fstep b.far) (b.order.getD 0 0) : Nat) : Int) ∧ Below w.heap.size w wr

set_option maxRecDepth 100000 in
set_option maxHeartbeats 4000000 in
theorem farthest_any (w : World) (B gw gl gf gk n : Nat) (ov : Value) (b : Bs) (s : Nat) (f : Ed → Nat × Nat) (T : List Ed) (h : WkAt w B gw gl gf gk n ov b) (hB : B ≤ w.heap.size) (hn : n ≤ 2048) (hw : Went f T n s b) :
    Calls Tryz.prog 59 #[.pointer (some ⟨gw, 0, none⟩)] w fun e w' => e = .returned (.tuple #[.int .i64 (farthest b : Int), .int .i64 (frr b.far (farthest b))]) ∧ Below w.heap.size w w' := by
  have H := Lib.hid h
  have HW := Lib.hid hw
  have hne : b.order.map natI ≠ [] := by intro e; have h1 := hw.first; have h2 : b.order = [] := by simpa using e
                                         rw [h2] at h1; simp at h1
  obtain ⟨go, co, hov, ho1, ho2, ho3, ho4, hoc⟩ := h.order.row encI_len hne
  rw [List.length_map] at hov ho3
  subst hov
  have a0 : w.cell? ⟨gw, 0, none⟩ = some (.slice (some ⟨go, 0, none⟩) b.order.length co) := h.head.cell 0
  have a2 : w.cell? ⟨gw, 2, none⟩ = some (.slice (some ⟨gf, 0, none⟩) n n) := h.head.cell 2
  have o0 : w.cell? ⟨go, 0, none⟩ = some (.int .i64 (s : Int)) := by
    have := hoc 0 (natI s) (by simp [hw.first]) 0 _ rfl
    simpa [natI] using this
  have hmp : 0 < b.order.length := by have := (List.getElem?_eq_some_iff.1 hw.first).1; omega
  have hml := hw.len
  have HOC := Lib.hid hoc
  obtain ⟨m, hm⟩ : ∃ m, m = b.order.length := ⟨_, rfl⟩
  rw [← hm] at ho3 a0 hmp hml
  have HM := Lib.hid hm
  have hmpi : (0 : Int) < m := by omega
  clear h hw hne hoc hm
  go_enter Tryz.func59, Tryz.ntmps59
  go_wp2_with fail
  go_loopw [4, 18] (fun best i wr => FarRel w b m best i wr) (fun _ i wr => m - (intOf i).toNat)
  case atStart =>
    refine ⟨0, Nat.zero_le _, rfl, ?_, Below.refl _ _⟩
    simp [List.getD, HW.out.first]
  case round =>
    obtain ⟨k, hk, rfl, rfl, hbel⟩ := hrel
    have hwk := H.out.below hbel
    have HB := Lib.hid hbel
    have hmem : ∀ (l : List Nat), (∀ x ∈ l, x ∈ b.order) → l.foldl (fstep b.far) (b.order.getD 0 0) ∈ b.order := by
      intro l hl
      have h0 : b.order.getD 0 0 ∈ b.order := by simp [List.getD, HW.out.first]; exact List.mem_of_getElem? HW.out.first
      rcases (fstep_spec b.far l (b.order.getD 0 0)).1 with h1 | h1
      · rw [h1]; exact h0
      · exact hl _ h1
    have hbm := hmem (b.order.take k) fun x hx => List.mem_of_mem_take hx
    obtain ⟨bs, hbs⟩ : ∃ bs, bs = (b.order.take k).foldl (fstep b.far) (b.order.getD 0 0) := ⟨_, rfl⟩
    rw [← hbs] at hbm ⊢
    have HBs := Lib.hid hbs
    have hbn := HW.out.lt hbm
    have hbi : (bs : Int) < n := by omega
    have a2' : wr.cell? ⟨gw, 2, none⟩ = some (.slice (some ⟨gf, 0, none⟩) n n) := hwk.head.cell 2
    have f1 := hwk.far_cell hbn
    by_cases hlt : k < m
    · obtain ⟨x, hx⟩ : ∃ x, b.order[k]? = some x := ⟨b.order[k]'(by have := HM.out; omega), List.getElem?_eq_getElem _⟩
      have hxn := HW.out.lt (List.mem_of_getElem? hx)
      have hxi : (x : Int) < n := by omega
      have f2 := hwk.far_cell hxn
      have ok : wr.cell? ⟨go, k, none⟩ = some (.int .i64 (x : Int)) := by
        have := HOC.out k (natI x) (by simp [hx]) 0 _ rfl
        exact (hbel.cell (p := ⟨go, k, none⟩) ho2).trans (by simpa [natI] using this)
      have hT : (b.order.take (k + 1)).foldl (fstep b.far) (b.order.getD 0 0) = fstep b.far bs x := by
        rw [List.take_add_one, hx, List.foldl_append, ← hbs]; rfl
      have HT := Lib.hid hT
      clear hT hx hwk hbel hbs hmem hbm
      go_wp2_with fail
      by_cases hgt : frr b.far bs < frr b.far x
      · have HG := Lib.hid hgt
        go_quiet (fail)
        go_wp2_with fail
        go_roundw
        case measure => simp only [intOf]; omega
        case rel => exact ⟨k + 1, by omega, by go_num, by rw [HT.out, fstep, if_pos HG.out], below_drewN HB.out _⟩
      · have HG := Lib.hid hgt
        go_quiet (fail)
        go_wp2_with fail
        go_roundw
        case measure => simp only [intOf]; omega
        case rel => exact ⟨k + 1, by omega, by go_num, by rw [HT.out, fstep, if_neg HG.out], below_drewN HB.out _⟩
    · obtain rfl : k = m := by omega
      have hfe : bs = farthest b := by rw [hbs, HM.out, List.take_length]; rfl
      have HFE := Lib.hid hfe
      clear hwk hbel hbs hmem hbm hfe
      go_wp2_with fail
      go_quiet (fail)
      go_wp2_with fail
      go_ret2
      rw [← HFE.out]
      exact ⟨rfl, below_drewN HB.out _⟩
end Go.Proofs.YtghacfhpafbdmaaGreat
