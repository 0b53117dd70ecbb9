/-
  The walk of plain's forest.
-/
import Derived.Test.YtghacfhpafbdmaaGreatG21
namespace Go.Proofs.YtghacfhpafbdmaaGreat
open Go.RowKit Go.Sort
set_option linter.unusedVariables false

theorem arr39 (t : Array Value) (h : t.size = 39) : ∃ x0 x1 x2 x3 x4 x5 x6 x7 x8 x9 x10 x11 x12 x13 x14 x15 x16 x17 x18 x19 x20 x21 x22 x23 x24 x25 x26 x27 x28 x29 x30 x31 x32 x33 x34 x35 x36 x37 x38 : Value, t = #[x0, x1, x2, x3, x4, x5, x6, x7, x8, x9, x10, x11, x12, x13, x14, x15, x16, x17, x18, x19, x20, x21, x22, x23, x24, x25, x26, x27, x28, x29, x30, x31, x32, x33, x34, x35, x36, x37, x38] := by
  obtain ⟨l⟩ := t
  match l, h with
  | x0 :: x1 :: x2 :: x3 :: x4 :: x5 :: x6 :: x7 :: x8 :: x9 :: x10 :: x11 :: x12 :: x13 :: x14 :: x15 :: x16 :: x17 :: x18 :: x19 :: x20 :: x21 :: x22 :: x23 :: x24 :: x25 :: x26 :: x27 :: x28 :: x29 :: x30 :: x31 :: x32 :: x33 :: x34 :: x35 :: x36 :: x37 :: x38 :: [], _ => exact ⟨x0, x1, x2, x3, x4, x5, x6, x7, x8, x9, x10, x11, x12, x13, x14, x15, x16, x17, x18, x19, x20, x21, x22, x23, x24, x25, x26, x27, x28, x29, x30, x31, x32, x33, x34, x35, x36, x37, x38, rfl⟩

/-- What holds at the head of forest's loop. -/
def ForRel (w w2 w3 : World) (Av : Option Addr) (m cv : Nat) (se : Value) (V : List Int) (E : List Ed) (n : Nat) (t i : Value) (wr : World) : Prop :=
  ∃ (k : Nat), k ≤ n ∧ i = .int .i64 k ∧ Below (w.heap.size + 1) (w.alloc (.cells #[.slice Av m cv, se] 25)) wr ∧ Hid (SB wr w2.heap.size (labs V ((sortE E).take k))) ∧ Hid (OK encE 4 47 wr w3.heap.size t (krus (plE V) (List.range V.length) ((sortE E).take k))) ∧ Hid (Below w2.heap.size w3 wr) ∧ Hid (w3.heap.size ≤ wr.heap.size)

set_option maxRecDepth 100000 in
set_option maxHeartbeats 8000000 in
theorem forest_any (sv se : Value) (V : List Int) (E : List Ed) (w : World) (B : Nat) (hv : RI w B sv V) (he : RE w B se E) (hB : B ≤ w.heap.size) (hr : Right V E) :
    Calls Tryz.prog 48 #[netV sv se] w fun e w' => ∃ v', e = .returned v' ∧ OK encE 4 47 w' w.heap.size v' (forE V E) ∧ Below w.heap.size w w' := by
  have HR := Lib.hid hr
  have hvl := hr.vlen
  have hel := hr.elen
  clear hr
  have HV := Lib.hid hv
  have HE := Lib.hid he
  obtain ⟨Av, cv, rfl, hv1, hv2, hv3, _⟩ := hv.open_
  clear hv he
  obtain ⟨m, hm⟩ : ∃ m, m = V.length := ⟨_, rfl⟩
  rw [← hm] at hv1 hv3 hvl HV ⊢
  have HM := Lib.hid hm
  clear hm
  go_enter Tryz.func48, Tryz.ntmps48
  go_wp2_with fail
  refine (clone_any _ E _ B (HE.out.alloc hB _) (by omega)).mono ?_
  rintro e w1 ⟨v1, rfl, ho1, hb1⟩
  have HB1 : Hid (Below (w.heap.size + 1) (w.alloc (.cells #[.slice Av m cv, se] 25)) w1) := hb1.mono (by simp)
  have HO1 := Lib.hid ho1
  clear ho1 hb1
  go_wp2_with fail
  refine (sortEdges_any v1 E _ _ HO1.out HR.out.eup (by omega)).mono ?_
  rintro e w2 ⟨rfl, ho2, hg2⟩
  have hlow := HO1.out.lt
  have HB2 : Hid (Below (w.heap.size + 1) (w.alloc (.cells #[.slice Av m cv, se] 25)) w2) :=
    HB1.out.trans (below_grownBy hg2 (by have := HB1.out.size; simpa using this) (fun g hg => by have := (hlow g hg).1; simpa using this))
  have HO2 := Lib.hid ho2
  clear hlow ho2 hg2 HO1
  have c0 : w2.cell? ⟨w.heap.size, 0, none⟩ = some (.slice Av m cv) := (HB2.out.cell (p := ⟨w.heap.size, 0, none⟩) (by show w.heap.size < _; omega)).trans (by simp)
  have hz2 := HB2.out.size
  simp only [World.alloc, Array.size_push] at hz2
  go_wp2_with fail
  refine (newSets_any m (by omega) _).mono ?_
  rintro e w3 ⟨rfl, hb3, hs3⟩
  have HS3 := Lib.hid hs3
  have HB3 : Hid (Below (w.heap.size + 1) (w.alloc (.cells #[.slice Av m cv, se] 25)) w3) := HB2.out.trans (hb3.mono hz2)
  have hG : w2.heap.size < w3.heap.size := hs3.lt
  have hrow : RE w3 w2.heap.size v1 (sortE E) := (HO2.out.rk encE_len (Nat.le_refl _)).below hb3
  have HL1 := Lib.hid HO2.out.lt
  clear c0 hb3 hs3
  obtain ⟨A, c, rfl, hc1, hc2, hc3, HC⟩ := hrow.open_
  clear hrow HO2
  have hSl : (sortE E).length = E.length := (sortE_perm E).length_eq
  obtain ⟨n, hn⟩ : ∃ n, n = (sortE E).length := ⟨_, rfl⟩
  rw [← hn] at hc1 hc3 hSl
  rw [← hSl] at hel
  clear hSl
  have HN := Lib.hid hn
  rw [← hn]
  clear hn
  go_wp2_with fail
  go_loopw [5, 19] (fun t i wr => ForRel w w2 w3 Av m cv se V E n t i wr) (fun _ i wr => n - (intOf i).toNat)
  case atStart =>
    show ForRel _ _ _ _ _ _ _ _ _ _ _ _ _
    refine ⟨0, Nat.zero_le _, rfl, HB3.out, ?_, ?_, Below.refl _ _, Nat.le_refl _⟩
    · have := HS3.out
      rw [HM.out] at this
      show SB _ _ _
      simpa [labs, labsF] using this
    · show OK _ _ _ _ _ _ _
      rw [List.take_zero]
      exact OK.nil _ _
  case round =>
    obtain ⟨k, hk, rfl, hbel, HT, HO, HR3, HZ3⟩ := hrel
    by_cases hlt : k < n
    · obtain ⟨b, o, rfl, hb, hx⟩ := HC.out k (by have := HN.out; omega)
      obtain ⟨e, hy⟩ : ∃ e, e = (sortE E)[k]'(by have := HN.out; omega) := ⟨_, rfl⟩
      have hL := labs_snoc V (sortE E) k (by have := HN.out; omega)
      have hKr : krus (plE V) (List.range V.length) ((sortE E).take (k + 1)) = krus (plE V) (List.range V.length) ((sortE E).take k) ++ (if lab (labs V ((sortE E).take k)) (pl V e.u) = lab (labs V ((sortE E).take k)) (pl V e.v) then [] else [e]) := by
        rw [List.take_succ_eq_append_getElem (by have := HN.out; omega), krus_snoc, ← hy]
        rfl
      have hkl : (krus (plE V) (List.range V.length) ((sortE E).take k)).length ≤ k := by
        have := (krus_sublist (plE V) ((sortE E).take k) (List.range V.length)).length_le
        have := List.length_take_le k (sortE E)
        omega
      rw [← hy] at hx hL
      obtain ⟨x0, x1, x2, x3⟩ := cellE hx
      have hem : e ∈ E := (sortE_perm E).mem_iff.1 (by rw [hy]; exact List.getElem_mem _)
      have huv : e.u ∈ V ∧ e.v ∈ V := ⟨HR.out.eu e hem, HR.out.ev e hem⟩
      have HU := Lib.hid huv
      have HL := Lib.hid hL
      have HKr := Lib.hid hKr
      have HKl := Lib.hid hkl
      clear hx hy hL huv hem hKr hkl
      have hbw : Below w.heap.size w wr := ((Below.refl _ _).alloc (Nat.le_refl _) _).trans (hbel.mono (by omega))
      have x0 := (HR3.out.cell (p := ⟨b, o + k * 4, none⟩) (by show b < _; omega)).trans x0
      have x1 := (HR3.out.cell (p := ⟨b, o + k * 4 + 1, none⟩) (by show b < _; omega)).trans x1
      have x2 := (HR3.out.cell (p := ⟨b, o + k * 4 + 2, none⟩) (by show b < _; omega)).trans x2
      have x3 := (HR3.out.cell (p := ⟨b, o + k * 4 + 3, none⟩) (by show b < _; omega)).trans x3
      have b0 : wr.cell? ⟨w.heap.size, 0, none⟩ = some (.slice Av m cv) := (hbel.cell (p := ⟨w.heap.size, 0, none⟩) (by show w.heap.size < _; omega)).trans (by simp)
      have b1 : wr.cell? ⟨w.heap.size, 1, none⟩ = some se := (hbel.cell (p := ⟨w.heap.size, 1, none⟩) (by show w.heap.size < _; omega)).trans (by simp)
      have HV1 := Lib.hid (HV.out.below (hbw.mono hB))
      have hsz := hbel.size
      simp only [World.alloc, Array.size_push] at hsz
      have hGl := HT.out.lt
      have hz3 := HZ3.out
      have HB := Lib.hid hbel
      clear hbel hbw
      obtain ⟨eid, eu, ev, ew⟩ := e
      dsimp only at *
      go_wp2_with fail
      rename_i K hK
      obtain ⟨W, hW⟩ : ∃ W, W = wr.alloc (Obj.cells #[Value.int IntKind.i64 eid, Value.int IntKind.i64 eu, Value.int IntKind.i64 ev, Value.int IntKind.i64 ew] 47) := ⟨_, rfl⟩
      have hWb : Below wr.heap.size wr W := by rw [hW]; exact (Below.refl _ _).alloc (Nat.le_refl _) _
      have hWz : W.heap.size = wr.heap.size + 1 := by rw [hW]; simp
      have hWe : Blk W wr.heap.size 47 #[Value.int IntKind.i64 eid, Value.int IntKind.i64 eu, Value.int IntKind.i64 ev, Value.int IntKind.i64 ew] := by rw [hW]; exact Blk.new _ _ _
      have e1 : W.cell? ⟨wr.heap.size, 1, none⟩ = some (.int .i64 eu) := (hWe.cell 1)
      have e2 : W.cell? ⟨wr.heap.size, 2, none⟩ = some (.int .i64 ev) := (hWe.cell 2)
      have d0 : W.cell? ⟨w.heap.size, 0, none⟩ = some (.slice Av m cv) := (hWb.cell (p := ⟨w.heap.size, 0, none⟩) (by show w.heap.size < _; omega)).trans b0
      have d1 : W.cell? ⟨w.heap.size, 1, none⟩ = some se := (hWb.cell (p := ⟨w.heap.size, 1, none⟩) (by show w.heap.size < _; omega)).trans b1
      have HVW : Hid (RI W B (.slice Av m cv) V) := HV1.out.below (hWb.mono (by omega))
      have HTW : Hid (SB W w2.heap.size (labs V ((sortE E).take k))) := HT.out.below hWb hGl
      have HWE := Lib.hid hWe
      rw [← hW]
      clear hW x0 x1 x2 x3 b0 b1 hWe
      have hlok : LabOk (labs V ((sortE E).take k)) := labs_ok HR.out.vup fun e he => by
        have := (sortE_perm E).mem_iff.1 (List.mem_of_mem_take he)
        exact ⟨HR.out.eu e this, HR.out.ev e this⟩
      have hpu := pl_lt HR.out.vup HU.out.1
      have hpv := pl_lt HR.out.vup HU.out.2
      have hll := labs_len V ((sortE E).take k)
      rw [← HM.out] at hpu hpv hll
      refine wp_region_slots (SJoin2 (.slice (some ⟨w2.heap.size, 0, none⟩) m m) (.slice Av m cv) se wr.heap.size V (labs V ((sortE E).take k)) eu ev) (IJoin W w2.heap.size (labs V ((sortE E).take k)) (pl V eu) (pl V ev)) (by kernel_rfl) (by kernel_rfl) (by kernel_rfl) ⟨⟨rfl, rfl, rfl, Nat.le_refl _, fun _ _ _ => rfl⟩, HTW.out⟩ ?_ ?_
      · intro L a w4 i o' h ho h0 hd
        have c0 : w4.cell? ⟨w.heap.size, 0, none⟩ = some (.slice Av m cv) := (cell_grownBy h.world.1 _ _ (by omega) (by simp; omega)).trans d0
        have c1 : w4.cell? ⟨w.heap.size, 1, none⟩ = some se := (cell_grownBy h.world.1 _ _ (by omega) (by simp; omega)).trans d1
        have c2 : w4.cell? ⟨wr.heap.size, 1, none⟩ = some (.int .i64 eu) := (cell_grownBy h.world.1 _ _ (by omega) (by simp; omega)).trans e1
        have c3 : w4.cell? ⟨wr.heap.size, 2, none⟩ = some (.int .i64 ev) := (cell_grownBy h.world.1 _ _ (by omega) (by simp; omega)).trans e2
        have hv1 : RI w4 B (.slice Av m cv) V := HVW.out.grown h.world.1 (by omega) (by intro g hg; injection hg with hg; omega)
        have hz1 := h.world.1.size
        revert L a w4
        revert i o'
        refine each_array ?_
        refine ⟨?_, ?_, ?_, ?_, ?_, ?_, ?_, ?_, ?_, ?_, trivial⟩ <;> intro L a w4 h h0 hd c0 c1 c2 c3 hv1 hz1
        · exact h.val rfl rfl (ro_move w4 (h.still 4 (by kernel_rfl))) (h.world.keep (Below.refl _ _) (by decide)) rfl
        · exact h.val rfl rfl (ro_loadNet w4 (h.still 1 (by kernel_rfl)) c0 c1) (h.world.keep (Below.refl _ _) (by decide)) rfl
        · exact h.val rfl rfl (ro_fieldE w4 (by decide) (h.still 7 (by kernel_rfl))) (h.world.keep (Below.refl _ _) (by decide)) rfl
        · exact h.val rfl rfl (ro_loadI w4 (h.ran 2 _ 25 rfl rfl (hd ⟨2, .data⟩ (by simp) rfl)) c2) (h.world.keep (Below.refl _ _) (by decide)) rfl
        · have r1 := h.ran 1 _ 24 rfl rfl (hd ⟨1, .data⟩ (by simp) rfl)
          have r3 := h.ran 3 _ 26 rfl rfl (hd ⟨3, .data⟩ (by simp) rfl)
          refine h.call rfl rfl (ro_call2 cf_at w4 r1 r3) ((at_any _ _ V _ w4 B hv1 (by omega) HR.out.vup).mono ?_)
          rintro r w5 ⟨rfl, hb⟩
          exact ⟨_, rfl, fun _ _ _ h => h, h.world.keep hb (by decide), rfl⟩
        · exact h.val rfl rfl (ro_loadNet w4 (h.still 1 (by kernel_rfl)) c0 c1) (h.world.keep (Below.refl _ _) (by decide)) rfl
        · exact h.val rfl rfl (ro_fieldE w4 (by decide) (h.still 7 (by kernel_rfl))) (h.world.keep (Below.refl _ _) (by decide)) rfl
        · exact h.val rfl rfl (ro_loadI w4 (h.ran 6 _ 29 rfl rfl (hd ⟨6, .data⟩ (by simp) rfl)) c3) (h.world.keep (Below.refl _ _) (by decide)) rfl
        · have r1 := h.ran 5 _ 28 rfl rfl (hd ⟨5, .data⟩ (by simp) rfl)
          have r3 := h.ran 7 _ 30 rfl rfl (hd ⟨7, .data⟩ (by simp) rfl)
          refine h.call rfl rfl (ro_call2 cf_at w4 r1 r3) ((at_any _ _ V _ w4 B hv1 (by omega) HR.out.vup).mono ?_)
          rintro r w5 ⟨rfl, hb⟩
          exact ⟨_, rfl, fun _ _ _ h => h, h.world.keep hb (by decide), rfl⟩
        · have r0 := h.ran 0 _ 23 rfl rfl (hd ⟨0, .data⟩ (by simp) rfl)
          have r4 := h.ran 4 _ 27 rfl rfl (hd ⟨4, .data⟩ (by simp) rfl)
          have r8 := h.ran 8 _ 31 rfl rfl (hd ⟨8, .data⟩ (by simp) rfl)
          have hs1 : SB w4 w2.heap.size (labs V ((sortE E).take k)) := by have := h.world.2; rw [h0] at this; exact this
          refine h.call rfl rfl (ro_call3 cf_join w4 r0 r4 r8) ((join_any _ _ m (pl V eu) (pl V ev) w4 hlok hs1 hll.symm hpu hpv (by omega)).mono ?_)
          rintro r w5 ⟨rfl, hg5, hs5, hz5⟩
          refine ⟨_, rfl, fun _ _ _ h => h, ⟨grownBy_trans h.world.1 hg5, ?_⟩, rfl⟩
          have : (L.setIfInBounds 9 true).getD 9 false = true := by simp [h.sized]
          rw [this]; exact hs5
      · intro L a w4 hL hdf hsz' hw hother hall
        have hs2 : SB w4 w2.heap.size (labs V ((sortE E).take (k + 1))) := by
          have := hw.2
          rw [hL 9 (by simp)] at this
          rw [HL.out]; exact this
        have h9 : a.tmps.getD 32 undef = .bool (!decide (lab (labs V ((sortE E).take k)) (pl V eu) = lab (labs V ((sortE E).take k)) (pl V ev))) := hall 9 _ 32 rfl rfl
        have hgw : wr.grownBy w4 (some w2.heap.size) := grownBy_trans (grownBy_below hWb) hw.1
        have hbel2 : Below (w.heap.size + 1) (w.alloc (.cells #[.slice Av m cv, se] 25)) w4 := HB.out.trans (below_grownBy hgw (by omega) (by intro g hg; injection hg with hg; omega))
        have hrow2 : Below w2.heap.size w3 w4 := HR3.out.trans (below_grownBy hgw (by omega) (by intro g hg; injection hg with hg; omega))
        have hsz4 : wr.heap.size + 1 ≤ w4.heap.size := by have := hw.1.size; omega
        have hblk4 := HWE.out.grown hw.1 (by simp; omega)
        have ho4 := HO.out.kept hgw (by
          cases hob : Value.ownBlock _ with
          | none => exact .inl rfl
          | some q => right; intro e; injection e with e; have := (HO.out.lt q hob).1; omega)
        refine hK _ _ ?_
        obtain ⟨tm, df⟩ := a
        obtain ⟨y0, y1, y2, y3, y4, y5, y6, y7, y8, y9, y10, y11, y12, y13, y14, y15, y16, y17, y18, y19, y20, y21, y22, y23, y24, y25, y26, y27, y28, y29, y30, y31, y32, y33, y34, y35, y36, y37, y38, rfl⟩ := arr39 tm hsz'
        obtain rfl : df = [] := hdf
        obtain rfl : _ = y0 := (hother 0 (unwritten_spec (by kernel_rfl))).symm
        obtain rfl : _ = y1 := (hother 1 (unwritten_spec (by kernel_rfl))).symm
        obtain rfl : _ = y2 := (hother 2 (unwritten_spec (by kernel_rfl))).symm
        obtain rfl : _ = y3 := (hother 3 (unwritten_spec (by kernel_rfl))).symm
        obtain rfl : _ = y4 := (hother 4 (unwritten_spec (by kernel_rfl))).symm
        obtain rfl : _ = y5 := (hother 5 (unwritten_spec (by kernel_rfl))).symm
        obtain rfl : _ = y6 := (hother 6 (unwritten_spec (by kernel_rfl))).symm
        obtain rfl : _ = y7 := (hother 7 (unwritten_spec (by kernel_rfl))).symm
        obtain rfl : _ = y8 := (hother 8 (unwritten_spec (by kernel_rfl))).symm
        obtain rfl : _ = y9 := (hother 9 (unwritten_spec (by kernel_rfl))).symm
        obtain rfl : _ = y10 := (hother 10 (unwritten_spec (by kernel_rfl))).symm
        obtain rfl : _ = y11 := (hother 11 (unwritten_spec (by kernel_rfl))).symm
        obtain rfl : _ = y12 := (hother 12 (unwritten_spec (by kernel_rfl))).symm
        obtain rfl : _ = y13 := (hother 13 (unwritten_spec (by kernel_rfl))).symm
        obtain rfl : _ = y14 := (hother 14 (unwritten_spec (by kernel_rfl))).symm
        obtain rfl : _ = y15 := (hother 15 (unwritten_spec (by kernel_rfl))).symm
        obtain rfl : _ = y16 := (hother 16 (unwritten_spec (by kernel_rfl))).symm
        obtain rfl : _ = y17 := (hother 17 (unwritten_spec (by kernel_rfl))).symm
        obtain rfl : _ = y18 := (hother 18 (unwritten_spec (by kernel_rfl))).symm
        obtain rfl : _ = y19 := (hother 19 (unwritten_spec (by kernel_rfl))).symm
        obtain rfl : _ = y20 := (hother 20 (unwritten_spec (by kernel_rfl))).symm
        obtain rfl : _ = y21 := (hother 21 (unwritten_spec (by kernel_rfl))).symm
        obtain rfl : _ = y22 := (hother 22 (unwritten_spec (by kernel_rfl))).symm
        obtain rfl : _ = y33 := (hother 33 (unwritten_spec (by kernel_rfl))).symm
        obtain rfl : _ = y34 := (hother 34 (unwritten_spec (by kernel_rfl))).symm
        obtain rfl : _ = y35 := (hother 35 (unwritten_spec (by kernel_rfl))).symm
        obtain rfl : _ = y36 := (hother 36 (unwritten_spec (by kernel_rfl))).symm
        obtain rfl : _ = y37 := (hother 37 (unwritten_spec (by kernel_rfl))).symm
        obtain rfl : _ = y38 := (hother 38 (unwritten_spec (by kernel_rfl))).symm
        have HB2' := Lib.hid hbel2
        have HS2 := Lib.hid hs2
        have HR4 := Lib.hid hrow2
        have HO4 := Lib.hid ho4
        have HK4 := Lib.hid hblk4
        clear hs2 hbel2 hother hall hw hL hgw hrow2 hblk4 ho4
        by_cases hsame : lab (labs V ((sortE E).take k)) (pl V eu) = lab (labs V ((sortE E).take k)) (pl V ev)
        · have hkk : krus (plE V) (List.range V.length) ((sortE E).take (k + 1)) = krus (plE V) (List.range V.length) ((sortE E).take k) := by
            rw [HKr.out, if_pos hsame, List.append_nil]
          have HKK := Lib.hid hkk
          obtain rfl : y32 = .bool false := by rw [show y32 = _ from h9, decide_eq_true hsame]; rfl
          clear hsame hkk h9
          go_wp2_with fail
          refine ⟨⟨_, _, _, ?rel, rfl, rfl, rfl⟩, ?measure⟩
          case rel =>
            refine ⟨k + 1, by omega, by go_num, HB2'.out, HS2.out, ?_, HR4.out, by show _ ≤ _; omega⟩
            show OK _ _ _ _ _ _ _
            rw [HKK.out]; exact HO4.out
          case measure => simp [intOf]; omega
        · have hkk : krus (plE V) (List.range V.length) ((sortE E).take (k + 1)) = krus (plE V) (List.range V.length) ((sortE E).take k) ++ [⟨eid, eu, ev, ew⟩] := by
            rw [HKr.out, if_neg hsame]
          have HKK := Lib.hid hkk
          obtain rfl : y32 = .bool true := by rw [show y32 = _ from h9, decide_eq_false hsame]; rfl
          clear hsame hkk h9
          have f0 : w4.cell? ⟨wr.heap.size, 0, none⟩ = some (.int .i64 eid) := HK4.out.cell 0
          have f1 : w4.cell? ⟨wr.heap.size, 1, none⟩ = some (.int .i64 eu) := HK4.out.cell 1
          have f2 : w4.cell? ⟨wr.heap.size, 2, none⟩ = some (.int .i64 ev) := HK4.out.cell 2
          have f3 : w4.cell? ⟨wr.heap.size, 3, none⟩ = some (.int .i64 ew) := HK4.out.cell 3
          have HLo := Lib.hid HO4.out.lt
          go_wp2_with (at_builtin; refine wpList_app1 etEdges encE_len encE_one rfl (.tmp 33) (.tmp 35) rfl rfl (HO4.out.alloc _) w4.heap.size rfl (y := ⟨eid, eu, ev, ew⟩) (by intro j u hu; rw [World.cell?_alloc_at _ _ _ _ rfl, ← hu, ← Array.getElem?_toList]; rfl) (by have := HKl.out; omega) (by simp; omega) ?_; intro v' w5 ho5 hg5 hb5; have HO5 := Lib.hid ho5; have HG5 := Lib.hid hg5; clear ho5 hg5 hb5)
          have hge : ∀ (q : Nat), Value.ownBlock _ = some q → w3.heap.size ≤ q ∧ q < w4.heap.size := HLo.out
          go_roundw
          case rel =>
            refine ⟨k + 1, by omega, by go_num, (HB2'.out.alloc (by omega) _).grown HG5.out (by simp; omega) (fun q hq => by have := (hge q hq).1; omega), ?_, ?_, (HR4.out.alloc (by omega) _).grown HG5.out (by simp; omega) (fun q hq => by have := (hge q hq).1; omega), by show _ ≤ _; have := HG5.out.size; simp at this; omega⟩
            · show SB _ _ _
              exact (HS2.out.below ((Below.refl _ _).alloc (Nat.le_refl _) _) (by omega)).grown HG5.out (by intro e; have := (hge _ e.symm).1; omega)
            · show OK _ _ _ _ _ _ _
              rw [HKK.out]; exact HO5.out
          case measure => simp [intOf]; omega
    · obtain rfl : k = n := by omega
      have hkf : krus (plE V) (List.range V.length) ((sortE E).take k) = forE V E := by rw [HN.out, List.take_length]; rfl
      have HKF := Lib.hid hkf
      have HB := Lib.hid hbel
      clear hkf hbel
      go_wp2
      go_ret
      refine ⟨_, rfl, ?_, ((Below.refl _ _).alloc (Nat.le_refl _) _).trans (HB.out.mono (by omega))⟩
      have := HO.out.base (B' := w.heap.size) (by omega)
      rw [HKF.out] at this
      exact this
end Go.Proofs.YtghacfhpafbdmaaGreat
