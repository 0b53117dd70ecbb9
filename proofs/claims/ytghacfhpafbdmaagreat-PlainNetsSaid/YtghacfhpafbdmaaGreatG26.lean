/-
  The walk of plain's waysOf.
-/
import Derived.Test.YtghacfhpafbdmaaGreatG25
import Derived.Test.YtghacfhpafbdmaaGreatG18
namespace Go.Proofs.YtghacfhpafbdmaaGreat
open Go.RowKit Go.Sort
set_option linter.unusedVariables false

theorem arr53 (t : Array Value) (h : t.size = 53) : ∃ x0 x1 x2 x3 x4 x5 x6 x7 x8 x9 x10 x11 x12 x13 x14 x15 x16 x17 x18 x19 x20 x21 x22 x23 x24 x25 x26 x27 x28 x29 x30 x31 x32 x33 x34 x35 x36 x37 x38 x39 x40 x41 x42 x43 x44 x45 x46 x47 x48 x49 x50 x51 x52 : Value, t = #[x0, x1, x2, x3, x4, x5, x6, x7, x8, x9, x10, x11, x12, x13, x14, x15, x16, x17, x18, x19, x20, x21, x22, x23, x24, x25, x26, x27, x28, x29, x30, x31, x32, x33, x34, x35, x36, x37, x38, x39, x40, x41, x42, x43, x44, x45, x46, x47, x48, x49, x50, x51, x52] := by
  obtain ⟨l⟩ := t
  match l, h with
  | x0 :: x1 :: x2 :: x3 :: x4 :: x5 :: x6 :: x7 :: x8 :: x9 :: x10 :: x11 :: x12 :: x13 :: x14 :: x15 :: x16 :: x17 :: x18 :: x19 :: x20 :: x21 :: x22 :: x23 :: x24 :: x25 :: x26 :: x27 :: x28 :: x29 :: x30 :: x31 :: x32 :: x33 :: x34 :: x35 :: x36 :: x37 :: x38 :: x39 :: x40 :: x41 :: x42 :: x43 :: x44 :: x45 :: x46 :: x47 :: x48 :: x49 :: x50 :: x51 :: x52 :: [], _ => exact ⟨x0, x1, x2, x3, x4, x5, x6, x7, x8, x9, x10, x11, x12, x13, x14, x15, x16, x17, x18, x19, x20, x21, x22, x23, x24, x25, x26, x27, x28, x29, x30, x31, x32, x33, x34, x35, x36, x37, x38, x39, x40, x41, x42, x43, x44, x45, x46, x47, x48, x49, x50, x51, x52, rfl⟩

/-- What holds at the head of waysOf's loop. -/
def WaysRel (w W0 W3 : World) (G m : Nat) (V : List Int) (F : List Ed) (n : Nat) (i : Value) (wr : World) : Prop :=
  ∃ (k : Nat) (vs : List Value), k ≤ n ∧ i = .int .i64 k ∧ Below (w.heap.size + 1) W0 wr ∧ W3.grownBy wr (some G) ∧ Grp encP 5 160 wr W3.heap.size G 153 vs (waysF (plE V) m (F.take k))

set_option maxRecDepth 100000 in
set_option maxHeartbeats 8000000 in
theorem waysOf_any (sv se : Value) (V : List Int) (E : List Ed) (w : World) (B : Nat) (hv : RI w B sv V) (he : RE w B se E) (hB : B ≤ w.heap.size) (hr : Right V E) :
    Calls Tryz.prog 93 #[netV sv se] w fun e w' => ∃ G vs, e = .returned (.slice (some ⟨G, 0, none⟩) V.length V.length) ∧ w.heap.size ≤ G ∧ w.heap.size < w'.heap.size ∧ (∃ B', w.heap.size ≤ B' ∧ Grp encP 5 160 w' B' G 153 vs (waysF (plE V) V.length (forE V E))) ∧ Below w.heap.size w w' := by
  have HR := Lib.hid hr
  have hvl := hr.vlen
  have hel := hr.elen
  have hfl := forE_len V E
  have hfs := forE_sub V E
  have HFS := Lib.hid hfs
  clear hr hfs
  have HV := Lib.hid hv
  have HE := Lib.hid he
  obtain ⟨Av, cv, rfl, hv1, hv2, hv3, _⟩ := hv.open_
  clear hv he
  obtain ⟨m, hm⟩ : ∃ m, m = V.length := ⟨_, rfl⟩
  obtain ⟨F, hF⟩ : ∃ F, F = forE V E := ⟨_, rfl⟩
  rw [← hm] at hv1 hv3 hvl HV ⊢
  rw [← hF] at hfl HFS ⊢
  have HM := Lib.hid hm
  have HF := Lib.hid hF
  clear hm hF
  have hmk := fun w => run_make157 m (by omega) w
  go_enter Tryz.func93, Tryz.ntmps93
  go_wp2_with fail
  clear hmk
  refine (forest_any _ _ V E _ B ((HV.out.alloc hB _).alloc (by simp; omega) _) ((HE.out.alloc hB _).alloc (by simp; omega) _) (by simp; omega) HR.out).mono ?_
  rw [← HF.out]
  rintro e w2 ⟨fv, rfl, ho2, hb2⟩
  have hgrp0 := Grp.made (enc := encP) (k := 5) (E := 160) (tE := 153) (w.alloc (.cells #[.slice Av m cv, se] 25)) w2.heap.size m
  have hz0 : (w.alloc (.cells #[.slice Av m cv, se] 25)).heap.size = w.heap.size + 1 := by simp
  rw [hz0] at hgrp0
  have HG2 := Lib.hid (hgrp0.below hb2)
  have HB2 : Hid (Below (w.heap.size + 1) (w.alloc (.cells #[.slice Av m cv, se] 25)) w2) := ((Below.refl _ _).alloc (by simp) _).trans (hb2.mono (by simp))
  have hrow : RE w2 w2.heap.size fv F := ho2.rk encE_len (Nat.le_refl _)
  have HLO := Lib.hid ho2.lt
  have hz2 := hb2.size
  clear hgrp0 hz0 hb2 ho2
  obtain ⟨A, c, rfl, hc1, hc2, hc3, HC⟩ := hrow.open_
  clear hrow
  obtain ⟨n, hn⟩ : ∃ n, n = F.length := ⟨_, rfl⟩
  rw [← hn] at hc1 hc3 hfl
  have HN := Lib.hid hn
  rw [← hn]
  clear hn
  simp only [World.alloc, Array.size_push] at hz2
  go_wp2_with fail
  go_loopw [15] (fun i wr => WaysRel w (w.alloc (.cells #[.slice Av m cv, se] 25)) w2 (w.heap.size + 1) m V F n i wr) (fun i wr => n - (intOf i).toNat)
  case atStart =>
    refine ⟨0, List.replicate m (.slice none 0 0), Nat.zero_le _, rfl, HB2.out, World.grownBy.refl _ _, ?_⟩
    rw [List.take_zero]
    exact HG2.out
  case round =>
    obtain ⟨k, vs, hk, rfl, hbel, hb3, hgrp⟩ := hrel
    have HB := Lib.hid hbel
    have HB3 := Lib.hid hb3
    have HG := Lib.hid hgrp
    have hz := hbel.size
    simp only [World.alloc, Array.size_push] at hz
    have hgl := hgrp.lt
    by_cases hlt : k < n
    · obtain ⟨b, o, rfl, hb, hx⟩ := HC.out k (by have := HN.out; omega)
      have hbG : w.heap.size + 2 ≤ b := by have := (HLO.out b rfl).1; simpa using this
      obtain ⟨e, hy⟩ : ∃ e, e = F[k]'(by have := HN.out; omega) := ⟨_, rfl⟩
      have hS := ways_snoc V F k (by have := HN.out; omega)
      rw [← hy] at hx hS
      obtain ⟨x0, x1, x2, x3⟩ := cellE hx
      have hem : e ∈ E := HFS.out e (by rw [hy]; exact List.getElem_mem _)
      have huv : e.u ∈ V ∧ e.v ∈ V := ⟨HR.out.eu e hem, HR.out.ev e hem⟩
      have HU := Lib.hid huv
      have HSn := Lib.hid hS
      clear hx hy huv hem hS
      have x0 := (cell_grownBy hb3 b (o + k * 4) (by omega) (by simp; omega)).trans x0
      have x1 := (cell_grownBy hb3 b (o + k * 4 + 1) (by omega) (by simp; omega)).trans x1
      have x2 := (cell_grownBy hb3 b (o + k * 4 + 2) (by omega) (by simp; omega)).trans x2
      have x3 := (cell_grownBy hb3 b (o + k * 4 + 3) (by omega) (by simp; omega)).trans x3
      have b0 : wr.cell? ⟨w.heap.size, 0, none⟩ = some (.slice Av m cv) := (hbel.cell (p := ⟨w.heap.size, 0, none⟩) (by show w.heap.size < _; omega)).trans (by simp)
      have b1 : wr.cell? ⟨w.heap.size, 1, none⟩ = some se := (hbel.cell (p := ⟨w.heap.size, 1, none⟩) (by show w.heap.size < _; omega)).trans (by simp)
      have hbw : Below w.heap.size w wr := ((Below.refl _ _).alloc (Nat.le_refl _) _).trans (hbel.mono (by omega))
      have HV1 := Lib.hid (HV.out.below (hbw.mono hB))
      have hz3 := hb3.size
      clear hbel hb3 hgrp hbw
      obtain ⟨eid, eu, ev, ew⟩ := e
      dsimp only at *
      go_wp2_with fail
      rename_i K hK
      obtain ⟨W, hW⟩ : ∃ W, W = wr.alloc (Obj.cells #[Value.int IntKind.i64 eid, Value.int IntKind.i64 eu, Value.int IntKind.i64 ev, Value.int IntKind.i64 ew] 47) := ⟨_, rfl⟩
      have hWb : Below wr.heap.size wr W := by rw [hW]; exact (Below.refl _ _).alloc (Nat.le_refl _) _
      have hWz : W.heap.size = wr.heap.size + 1 := by rw [hW]; simp
      have hWe : Blk W wr.heap.size 47 #[Value.int IntKind.i64 eid, Value.int IntKind.i64 eu, Value.int IntKind.i64 ev, Value.int IntKind.i64 ew] := by rw [hW]; exact Blk.new _ _ _
      have e1 : W.cell? ⟨wr.heap.size, 1, none⟩ = some (.int .i64 eu) := (hWe.cell 1)
      have e2 : W.cell? ⟨wr.heap.size, 2, none⟩ = some (.int .i64 ev) := (hWe.cell 2)
      have d0 : W.cell? ⟨w.heap.size, 0, none⟩ = some (.slice Av m cv) := (hWb.cell (p := ⟨w.heap.size, 0, none⟩) (by show w.heap.size < _; omega)).trans b0
      have d1 : W.cell? ⟨w.heap.size, 1, none⟩ = some se := (hWb.cell (p := ⟨w.heap.size, 1, none⟩) (by show w.heap.size < _; omega)).trans b1
      have HVW : Hid (RI W B (.slice Av m cv) V) := HV1.out.below (hWb.mono (by omega))
      have HWE := Lib.hid hWe
      rw [← hW]
      clear hW x0 x1 x2 x3 b0 b1 hWe
      have hpu := pl_lt HR.out.vup HU.out.1
      have hpv := pl_lt HR.out.vup HU.out.2
      rw [← HM.out] at hpu hpv
      refine wp_region_slots (SAts (.slice Av m cv) se wr.heap.size V eu ev) (IAts W) (by kernel_rfl) (by kernel_rfl) (by kernel_rfl) ((Below.refl _ _).drew) ?_ ?_
      · intro L a w4 i o' h ho h0 hd
        have hwb : Below W.heap.size W w4 := h.world
        have c0 : w4.cell? ⟨w.heap.size, 0, none⟩ = some (.slice Av m cv) := (hwb.cell (p := ⟨w.heap.size, 0, none⟩) (by show w.heap.size < _; omega)).trans d0
        have c1 : w4.cell? ⟨w.heap.size, 1, none⟩ = some se := (hwb.cell (p := ⟨w.heap.size, 1, none⟩) (by show w.heap.size < _; omega)).trans d1
        have c2 : w4.cell? ⟨wr.heap.size, 1, none⟩ = some (.int .i64 eu) := (hwb.cell (p := ⟨wr.heap.size, 1, none⟩) (by show wr.heap.size < _; omega)).trans e1
        have c3 : w4.cell? ⟨wr.heap.size, 2, none⟩ = some (.int .i64 ev) := (hwb.cell (p := ⟨wr.heap.size, 2, none⟩) (by show wr.heap.size < _; omega)).trans e2
        have hv1 : RI w4 B (.slice Av m cv) V := HVW.out.below (hwb.mono (by omega))
        have hz1 := hwb.size
        revert L a w4
        revert i o'
        refine each_array ?_
        refine ⟨?_, ?_, ?_, ?_, ?_, ?_, ?_, ?_, ?_, ?_, trivial⟩ <;> intro L a w4 h h0 hd hwb c0 c1 c2 c3 hv1 hz1
        · exact h.val rfl rfl (ro_loadNet w4 (h.still 1 (by kernel_rfl)) c0 c1) hwb rfl
        · exact h.val rfl rfl (ro_fieldE w4 (by decide) (h.still 5 (by kernel_rfl))) hwb rfl
        · exact h.val rfl rfl (ro_loadI w4 (h.ran 1 _ 20 rfl rfl (hd ⟨1, .data⟩ (by simp) rfl)) c2) hwb rfl
        · have r1 := h.ran 0 _ 19 rfl rfl (hd ⟨0, .data⟩ (by simp) rfl)
          have r3 := h.ran 2 _ 21 rfl rfl (hd ⟨2, .data⟩ (by simp) rfl)
          refine h.call rfl rfl (ro_call2 cf_at w4 r1 r3) ((at_any _ _ V _ w4 B hv1 (by omega) HR.out.vup).mono ?_)
          rintro r w5 ⟨rfl, hb⟩
          exact ⟨_, rfl, fun _ _ _ h => h, hwb.trans (hb.mono hz1), rfl⟩
        · exact h.val rfl rfl (ro_loadNet w4 (h.still 1 (by kernel_rfl)) c0 c1) hwb rfl
        · exact h.val rfl rfl (ro_fieldE w4 (by decide) (h.still 5 (by kernel_rfl))) hwb rfl
        · exact h.val rfl rfl (ro_loadI w4 (h.ran 5 _ 24 rfl rfl (hd ⟨5, .data⟩ (by simp) rfl)) c3) hwb rfl
        · have r1 := h.ran 4 _ 23 rfl rfl (hd ⟨4, .data⟩ (by simp) rfl)
          have r3 := h.ran 6 _ 25 rfl rfl (hd ⟨6, .data⟩ (by simp) rfl)
          refine h.call rfl rfl (ro_call2 cf_at w4 r1 r3) ((at_any _ _ V _ w4 B hv1 (by omega) HR.out.vup).mono ?_)
          rintro r w5 ⟨rfl, hb⟩
          exact ⟨_, rfl, fun _ _ _ h => h, hwb.trans (hb.mono hz1), rfl⟩
        · exact h.val rfl rfl (ro_assign w4 (h.ran 3 _ 22 rfl rfl (hd ⟨3, .data⟩ (by simp) rfl))) hwb rfl
        · exact h.val rfl rfl (ro_assign w4 (h.ran 7 _ 26 rfl rfl (hd ⟨7, .data⟩ (by simp) rfl))) hwb rfl
      · intro L a w4 hL hdf hsz' hw hother hall
        have hwb : Below W.heap.size W w4 := hw
        have h8 : a.tmps.getD 6 undef = .int .i64 (pl V eu : Nat) := hall 8 _ 6 rfl rfl
        have h9 : a.tmps.getD 7 undef = .int .i64 (pl V ev : Nat) := hall 9 _ 7 rfl rfl
        have hgw : Below wr.heap.size wr w4 := hWb.trans (hwb.mono (by omega))
        have hbel2 : Below (w.heap.size + 1) (w.alloc (.cells #[.slice Av m cv, se] 25)) w4 := HB.out.trans (hgw.mono (by omega))
        have hgr2 : w2.grownBy w4 (some (w.heap.size + 1)) := grownBy_trans HB3.out (grownBy_below hgw)
        have hsz4 : wr.heap.size + 1 ≤ w4.heap.size := by have := hwb.size; omega
        have hblk4 := HWE.out.below hwb (by omega)
        have hgrp4 := HG.out.below hgw
        refine hK _ _ ?_
        obtain ⟨tm, df⟩ := a
        obtain ⟨y0, y1, y2, y3, y4, y5, y6, y7, y8, y9, y10, y11, y12, y13, y14, y15, y16, y17, y18, y19, y20, y21, y22, y23, y24, y25, y26, y27, y28, y29, y30, y31, y32, y33, y34, y35, y36, y37, y38, y39, y40, y41, y42, y43, y44, y45, y46, y47, y48, y49, y50, y51, y52, rfl⟩ := arr53 tm hsz'
        obtain rfl : df = [] := hdf
        obtain rfl : _ = y0 := (hother 0 (unwritten_spec (by kernel_rfl))).symm
        obtain rfl : _ = y1 := (hother 1 (unwritten_spec (by kernel_rfl))).symm
        obtain rfl : _ = y2 := (hother 2 (unwritten_spec (by kernel_rfl))).symm
        obtain rfl : _ = y3 := (hother 3 (unwritten_spec (by kernel_rfl))).symm
        obtain rfl : _ = y4 := (hother 4 (unwritten_spec (by kernel_rfl))).symm
        obtain rfl : _ = y5 := (hother 5 (unwritten_spec (by kernel_rfl))).symm
        obtain rfl : _ = y8 := (hother 8 (unwritten_spec (by kernel_rfl))).symm
        obtain rfl : _ = y9 := (hother 9 (unwritten_spec (by kernel_rfl))).symm
        obtain rfl : _ = y10 := (hother 10 (unwritten_spec (by kernel_rfl))).symm
        obtain rfl : _ = y11 := (hother 11 (unwritten_spec (by kernel_rfl))).symm
        obtain rfl : _ = y12 := (hother 12 (unwritten_spec (by kernel_rfl))).symm
        obtain rfl : _ = y13 := (hother 13 (unwritten_spec (by kernel_rfl))).symm
        obtain rfl : _ = y14 := (hother 14 (unwritten_spec (by kernel_rfl))).symm
        obtain rfl : _ = y15 := (hother 15 (unwritten_spec (by kernel_rfl))).symm
        obtain rfl : _ = y16 := (hother 16 (unwritten_spec (by kernel_rfl))).symm
        obtain rfl : _ = y17 := (hother 17 (unwritten_spec (by kernel_rfl))).symm
        obtain rfl : _ = y18 := (hother 18 (unwritten_spec (by kernel_rfl))).symm
        obtain rfl : _ = y27 := (hother 27 (unwritten_spec (by kernel_rfl))).symm
        obtain rfl : _ = y28 := (hother 28 (unwritten_spec (by kernel_rfl))).symm
        obtain rfl : _ = y29 := (hother 29 (unwritten_spec (by kernel_rfl))).symm
        obtain rfl : _ = y30 := (hother 30 (unwritten_spec (by kernel_rfl))).symm
        obtain rfl : _ = y31 := (hother 31 (unwritten_spec (by kernel_rfl))).symm
        obtain rfl : _ = y32 := (hother 32 (unwritten_spec (by kernel_rfl))).symm
        obtain rfl : _ = y33 := (hother 33 (unwritten_spec (by kernel_rfl))).symm
        obtain rfl : _ = y34 := (hother 34 (unwritten_spec (by kernel_rfl))).symm
        obtain rfl : _ = y35 := (hother 35 (unwritten_spec (by kernel_rfl))).symm
        obtain rfl : _ = y36 := (hother 36 (unwritten_spec (by kernel_rfl))).symm
        obtain rfl : _ = y37 := (hother 37 (unwritten_spec (by kernel_rfl))).symm
        obtain rfl : _ = y38 := (hother 38 (unwritten_spec (by kernel_rfl))).symm
        obtain rfl : _ = y39 := (hother 39 (unwritten_spec (by kernel_rfl))).symm
        obtain rfl : _ = y40 := (hother 40 (unwritten_spec (by kernel_rfl))).symm
        obtain rfl : _ = y41 := (hother 41 (unwritten_spec (by kernel_rfl))).symm
        obtain rfl : _ = y42 := (hother 42 (unwritten_spec (by kernel_rfl))).symm
        obtain rfl : _ = y43 := (hother 43 (unwritten_spec (by kernel_rfl))).symm
        obtain rfl : _ = y44 := (hother 44 (unwritten_spec (by kernel_rfl))).symm
        obtain rfl : _ = y45 := (hother 45 (unwritten_spec (by kernel_rfl))).symm
        obtain rfl : _ = y46 := (hother 46 (unwritten_spec (by kernel_rfl))).symm
        obtain rfl : _ = y47 := (hother 47 (unwritten_spec (by kernel_rfl))).symm
        obtain rfl : _ = y48 := (hother 48 (unwritten_spec (by kernel_rfl))).symm
        obtain rfl : _ = y49 := (hother 49 (unwritten_spec (by kernel_rfl))).symm
        obtain rfl : _ = y50 := (hother 50 (unwritten_spec (by kernel_rfl))).symm
        obtain rfl : _ = y51 := (hother 51 (unwritten_spec (by kernel_rfl))).symm
        obtain rfl : _ = y52 := (hother 52 (unwritten_spec (by kernel_rfl))).symm
        obtain rfl : y6 = .int .i64 (pl V eu : Nat) := h8
        obtain rfl : y7 = .int .i64 (pl V ev : Nat) := h9
        have HB4 := Lib.hid hbel2
        have HR4 := Lib.hid hgr2
        have HK4 := Lib.hid hblk4
        have HG4 := Lib.hid hgrp4
        clear hbel2 hother hall hw hL hgw hgr2 hblk4 hgrp4 hwb
        obtain ⟨pu, hpu0⟩ : ∃ pu, pu = pl V eu := ⟨_, rfl⟩
        obtain ⟨pv, hpv0⟩ : ∃ pv, pv = pl V ev := ⟨_, rfl⟩
        have hS1 : waysF (plE V) m (F.take (k + 1)) = wset (wset (waysF (plE V) m (F.take k)) pu (pv, ⟨eid, eu, ev, ew⟩)) pv (pu, ⟨eid, eu, ev, ew⟩) := by
          have := HSn.out
          rw [← HM.out] at this
          rw [this, hpu0, hpv0]; rfl
        rw [← hpu0] at hpu ⊢
        rw [← hpv0] at hpv ⊢
        have HS1 := Lib.hid hS1
        clear hpu0 hpv0 hS1
        have hwl : ∀ i, (wys (waysF (plE V) m (F.take k)) i).length ≤ 2 * (F.take k).length := by
          intro i
          have := wys_len_aux (plE V) (F.take k) (List.replicate m []) 0 (fun e he => by
            have hE := HFS.out e (List.mem_of_mem_take he)
            rw [List.length_replicate, HM.out]
            exact ⟨pl_lt HR.out.vup (HR.out.eu e hE), pl_lt HR.out.vup (HR.out.ev e hE)⟩) (fun i => by simp [wys, List.getD, List.getElem?_replicate]; split <;> simp) i
          simpa [waysF] using this
        have hkl := List.length_take_le k F
        have hll : (waysF (plE V) m (F.take k)).length = m := by unfold waysF; rw [length_waysF]; simp
        obtain ⟨ls, hls⟩ : ∃ ls, ls = waysF (plE V) m (F.take k) := ⟨_, rfl⟩
        rw [← hls] at hwl hll
        have HGa : Hid (Grp encP 5 160 w4 w2.heap.size (w.heap.size + 1) 153 vs ls) := by rw [hls]; exact HG4.out
        have HLs := Lib.hid hls
        clear hls
        have hvl := HGa.out.len
        obtain ⟨vf, hvf⟩ : ∃ vf, vs[pu]? = some vf := ⟨vs[pu]'(by omega), List.getElem?_eq_getElem _⟩
        have hlf : ls[pu]? = some (wys ls pu) := wys_get (by omega)
        have HVF := Lib.hid hvf
        have HLF := Lib.hid hlf
        have HO := Lib.hid (HGa.out.own pu vf _ hvf hlf)
        have hlen1 : (wys ls pu).length + 1 ≤ 1000000 := by have := hwl pu; omega
        have HLn1 := Lib.hid hlen1
        have c1 : w4.cell? ⟨w.heap.size + 1, pu, none⟩ = some vf := (HGa.out.blk.cell pu).trans (by simpa using hvf)
        have f0 : w4.cell? ⟨wr.heap.size, 0, none⟩ = some (.int .i64 eid) := HK4.out.cell 0
        have f1 : w4.cell? ⟨wr.heap.size, 1, none⟩ = some (.int .i64 eu) := HK4.out.cell 1
        have f2 : w4.cell? ⟨wr.heap.size, 2, none⟩ = some (.int .i64 ev) := HK4.out.cell 2
        have f3 : w4.cell? ⟨wr.heap.size, 3, none⟩ = some (.int .i64 ew) := HK4.out.cell 3
        have g1 : (pu : Int) < m := by omega
        have g2 : (pv : Int) < m := by omega
        have hgz : w.heap.size + 1 < w4.heap.size := by omega
        have hez : wr.heap.size < w4.heap.size := by omega
        have hbz : w2.heap.size ≤ w4.heap.size + 1 := by omega
        have g0 : (0 : Int) ≤ m := by omega
        clear hvf hlf hlen1 hwl hll hvl c1 f0 f1 f2 f3
        go_wp2_with fail
        rename_i K2 hK2
        obtain ⟨wa, hwa0⟩ : ∃ wa, wa = (w4.drew.alloc (.cells #[.int .i64 (pv : Int), .int .i64 eid, .int .i64 eu, .int .i64 ev, .int .i64 ew] 160)) := ⟨_, rfl⟩
        have hba : Below w4.heap.size w4 wa := by rw [hwa0]; exact ((Below.refl _ _).drew).alloc (Nat.le_refl _) _
        have hwaz : wa.heap.size = w4.heap.size + 1 := by rw [hwa0]; simp
        have hwab : Blk wa w4.heap.size 160 #[.int .i64 (pv : Int), .int .i64 eid, .int .i64 eu, .int .i64 ev, .int .i64 ew] := by rw [hwa0]; exact Blk.new w4.drew _ _
        have HWA := Lib.hid hwa0
        clear hwa0
        refine wp_region_slots (SPush wa w2.heap.size (w.heap.size + 1) m pu pv w4.heap.size ⟨eid, eu, ev, ew⟩ vf (wys ls pu)) (IPush w4 wa w2.heap.size (w.heap.size + 1) vs ls pu (pv, ⟨eid, eu, ev, ew⟩) vf) (by kernel_rfl) (by kernel_rfl) (by kernel_rfl) ⟨fun h => by simp at h, fun h => by simp at h, fun _ h => by simp at h, fun _ _ h => by simp at h, fun h => by simp at h, fun _ _ _ => rfl⟩ ?_ ?_
        · intro L a w5 q o' h ho h0 hd
          revert L a w5
          revert q o'
          refine each_array ?_
          refine ⟨?_, ?_, ?_, ?_, ?_, ?_, ?_, ?_, ?_, ?_, ?_, ?_, ?_, trivial⟩ <;> intro L a w5 h h0 hd
          · exact h.val rfl rfl (ro_move w5 (h.still 3 (by kernel_rfl))) (h.world.keep (by decide) (by decide) (by decide) h0 (by decide)) rfl
          · exact h.val rfl rfl (ro_move w5 (h.still 6 (by kernel_rfl))) (h.world.keep (by decide) (by decide) (by decide) h0 (by decide)) rfl
          · exact h.val rfl rfl (ro_move w5 (h.still 3 (by kernel_rfl))) (h.world.keep (by decide) (by decide) (by decide) h0 (by decide)) rfl
          · exact h.val rfl rfl (ro_move w5 (h.still 6 (by kernel_rfl))) (h.world.keep (by decide) (by decide) (by decide) h0 (by decide)) rfl
          · have r2 : a.tmps.getD 29 undef = .slice (some ⟨w.heap.size + 1, 0, none⟩) m m := h.ran 2 _ 29 rfl rfl (hd ⟨2, .data⟩ (by simp) rfl)
            have r3 : a.tmps.getD 30 undef = .int .i64 (pu : Int) := h.ran 3 _ 30 rfl rfl (hd ⟨3, .data⟩ (by simp) rfl)
            exact h.val rfl rfl (ro_idx157 w5 r2 r3 (by omega)) (h.world.keep (by decide) (by decide) (by decide) h0 (by decide)) rfl
          · have r4 : a.tmps.getD 31 undef = .pointer (some ⟨w.heap.size + 1, pu, none⟩) := h.ran 4 _ 31 rfl rfl (hd ⟨4, .data⟩ (by simp) rfl)
            have cg := (h.world.blk (x := vf) (h.world.not12 h0 (by decide)) HO.out hba HGa.out.blk (by decide)).cell pu
            have cg' : w5.cell? ⟨w.heap.size + 1, pu, none⟩ = some vf := cg.trans (by simpa using HVF.out)
            clear cg
            exact h.val rfl rfl (ro_load153 w5 r4 cg') (h.world.keep (by decide) (by decide) (by decide) h0 (by decide)) rfl
          · exact h.val rfl rfl (ro_move w5 (h.still 7 (by kernel_rfl))) (h.world.keep (by decide) (by decide) (by decide) h0 (by decide)) rfl
          · have r5 : a.tmps.getD 5 undef = .pointer (some ⟨wr.heap.size, 0, none⟩) := h.still 5 (by kernel_rfl)
            have be := h.world.blk (x := vf) (h.world.not12 h0 (by decide)) HO.out hba HK4.out (by decide)
            have be0 : w5.cell? ⟨wr.heap.size, 0, none⟩ = some (.int .i64 eid) := be.cell 0
            have be1 : w5.cell? ⟨wr.heap.size, 1, none⟩ = some (.int .i64 eu) := be.cell 1
            have be2 : w5.cell? ⟨wr.heap.size, 2, none⟩ = some (.int .i64 ev) := be.cell 2
            have be3 : w5.cell? ⟨wr.heap.size, 3, none⟩ = some (.int .i64 ew) := be.cell 3
            clear be
            exact h.val rfl rfl (ro_loadE w5 r5 be0 be1 be2 be3) (h.world.keep (by decide) (by decide) (by decide) h0 (by decide)) rfl
          · have r6 : a.tmps.getD 33 undef = .int .i64 (pv : Int) := h.ran 6 _ 33 rfl rfl (hd ⟨6, .data⟩ (by simp) rfl)
            have r7 : a.tmps.getD 34 undef = .agg #[.int .i64 eid, .int .i64 eu, .int .i64 ev, .int .i64 ew] := h.ran 7 _ 34 rfl rfl (hd ⟨7, .data⟩ (by simp) rfl)
            exact h.val rfl rfl (ro_build160 w5 r6 r7) (h.world.keep (by decide) (by decide) (by decide) h0 (by decide)) rfl
          · have r8 : a.tmps.getD 35 undef = .agg #[.int .i64 (pv : Int), .int .i64 eid, .int .i64 eu, .int .i64 ev, .int .i64 ew] := h.ran 8 _ 35 rfl rfl (hd ⟨8, .data⟩ (by simp) rfl)
            have h12 := h.world.not12 h0 (by decide)
            have h10 : L.getD 10 false = false := by
              cases hL : L.getD 10 false with
              | false => rfl
              | true => have := h.world.ord hL; rw [h0] at this; cases this
            have hw5 := h.world.old h10 h12 h0
            have hw6 : w5.alloc (.cells #[.int .i64 (pv : Int), .int .i64 eid, .int .i64 eu, .int .i64 ev, .int .i64 ew] 160) = wa := by rw [hw5, HWA.out]
            have hz5 : w5.heap.size = w4.heap.size := by rw [hw5]; rfl
            refine h.mem rfl rfl (v := .slice (some ⟨w4.heap.size, 0, none⟩) 1 1) (w' := wa) ?_ ?_ ⟨?_, ?_, ?_, fun _ _ _ => rfl, ?_, ?_⟩ rfl
            · rw [← hw6, ← hz5]; exact ro_slice160 w5 r8
            · intro k' v' hk' hs'
              match k', hs' with
              | 0, hs' => exact hs'
              | 1, hs' => exact hs'
              | 2, hs' => exact hs'
              | 3, hs' => exact hs'
              | 4, hs' => exact hs'
              | 5, hs' => exact hs'
              | 6, hs' => exact hs'
              | 7, hs' => exact hs'
              | 8, hs' => exact hs'
              | 9, hs' => exact hs'
              | 10, hs' => exact ⟨hs'.1, (by have := hs'.2.1.alloc (.cells #[.int .i64 (pv : Int), .int .i64 eid, .int .i64 eu, .int .i64 ev, .int .i64 ew] 160); rw [hw6] at this; exact this), hs'.2.2⟩
              | 11, hs' => exact hs'
              | k' + 12, hs' => trivial
            · rw [getD_set_ne false (by decide), h12]; intro e; cases e
            · rw [getD_set_ne false (by decide), h12]; intro e; cases e
            · rw [getD_set_ne false (by decide), getD_set_ne false (by decide), h10]; intro _ e; cases e
            · rw [getD_set_ne false (by decide), h10]; intro e; cases e
            · intro _ _ e
              have : (L.setIfInBounds 9 true).getD 9 false = true := (by simp [h.sized])
              rw [this] at e; cases e
          · have r5 : a.tmps.getD 32 undef = vf := h.ran 5 _ 32 rfl rfl (hd ⟨5, .data⟩ (by simp) rfl)
            have r9 : a.tmps.getD 36 undef = .slice (some ⟨w4.heap.size, 0, none⟩) 1 1 := h.ran 9 _ 36 rfl rfl (hd ⟨9, .data⟩ (by simp) rfl)
            have h9 : L.getD 9 false = true := hd ⟨9, .data⟩ (by simp) rfl
            have h12 := h.world.not12 h0 (by decide)
            have hw5 := h.world.new h0 h12 h9
            obtain ⟨v', w6, hrun, ho6, hg6, hb6⟩ := ro_app1 (w := w5) (base := w2.heap.size) (xs := wys ls pu) (y := (pv, ⟨eid, eu, ev, ew⟩)) etSteps encP_len encP_one r5 (by rw [hw5]; exact HO.out.below hba) w4.heap.size r9 (by intro c u hu; rw [hw5, hwab.cell c, ← Array.getElem?_toList]; exact hu) HLn1.out (by rw [hw5]; omega)
            refine h.mem rfl rfl hrun ?_ ⟨?_, ?_, ?_, ?_, ?_, ?_⟩ ⟨ho6.slice3, ho6, by rw [hw5] at hb6; exact hb6⟩
            · intro k' v'' hk' hs'
              match k', hk', hs' with
              | 0, _, hs' => exact hs'
              | 1, _, hs' => exact hs'
              | 2, _, hs' => exact hs'
              | 3, _, hs' => exact hs'
              | 4, _, hs' => exact hs'
              | 5, _, hs' => exact hs'
              | 6, _, hs' => exact hs'
              | 7, _, hs' => exact hs'
              | 8, _, hs' => exact hs'
              | 9, _, hs' => exact hs'
              | 10, hk', hs' => rw [h0] at hk'; cases hk'
              | 11, _, hs' => exact hs'
              | k' + 12, _, hs' => trivial
            · rw [getD_set_ne false (by decide), h12]; intro e; cases e
            · rw [getD_set_ne false (by decide), h12]; intro e; cases e
            · intro _ _; rw [hw5] at hg6; exact hg6
            · intro e; have : (L.setIfInBounds 10 true).getD 10 false = true := (by simp [h.sized]); rw [this] at e; cases e
            · intro _; rw [getD_set_ne false (by decide)]; exact h9
            · intro e; have : (L.setIfInBounds 10 true).getD 10 false = true := (by simp [h.sized]); rw [this] at e; cases e
          · have r0 : a.tmps.getD 27 undef = .slice (some ⟨w.heap.size + 1, 0, none⟩) m m := h.ran 0 _ 27 rfl rfl (hd ⟨0, .data⟩ (by simp) rfl)
            have r1 : a.tmps.getD 28 undef = .int .i64 (pu : Int) := h.ran 1 _ 28 rfl rfl (hd ⟨1, .data⟩ (by simp) rfl)
            exact h.val rfl rfl (ro_idx157 w5 r0 r1 (by omega)) (h.world.keep (by decide) (by decide) (by decide) h0 (by decide)) rfl
          · have r11 : a.tmps.getD 38 undef = .pointer (some ⟨w.heap.size + 1, pu, none⟩) := h.ran 11 _ 38 rfl rfl (hd ⟨11, .data⟩ (by simp) rfl)
            have h10 : L.getD 10 false = true := hd ⟨10, .data⟩ (by simp) rfl
            obtain ⟨⟨A5, m5, q5, hv5⟩, ho5, hb5⟩ := h.ran 10 _ 37 rfl rfl h10
            have hg5 := h.world.app h0 h10
            have bg := h.world.blk (x := vf) h0 HO.out hba HGa.out.blk (by decide)
            obtain ⟨u5, c5⟩ := bg.setAt pu (by simp; exact (List.getElem?_eq_some_iff.1 HVF.out).1)
            have f5 := bg.frozen pu
            have hP := pushed_of HGa.out HVF.out HLF.out hba (by omega) ho5 hg5 hb5
            have hne5 := ho5.ne_blk bg (by decide)
            rw [hv5] at hP hne5
            have r10 : a.tmps.getD 37 undef = .slice A5 m5 q5 := hv5
            clear ho5 hb5 hg5 bg
            refine h.skip rfl rfl (w' := w5.setCell ⟨w.heap.size + 1, pu, none⟩ (.slice A5 m5 q5)) (ro_store153 w5 r11 r10 c5 f5) ?_ ⟨?_, fun _ => hP, ?_, ?_, ?_, ?_⟩ trivial
            · intro k' v'' hk' hs'
              match k', hk', hs' with
              | 0, _, hs' => exact hs'
              | 1, _, hs' => exact hs'
              | 2, _, hs' => exact hs'
              | 3, _, hs' => exact hs'
              | 4, _, hs' => exact hs'
              | 5, _, hs' => exact hs'
              | 6, _, hs' => exact hs'
              | 7, _, hs' => exact hs'
              | 8, _, hs' => exact hs'
              | 9, _, hs' => exact hs'
              | 10, _, hs' => exact ⟨hs'.1, hs'.2.1.kept (row := some (w.heap.size + 1)) ⟨rfl, rfl, rfl, by simp, fun q _ hq => heap_setCell_other _ ⟨w.heap.size + 1, pu, none⟩ q _ (fun e => hq (by simp [e]))⟩ (.inr (hs'.2.1.ne_blk (h.world.blk (x := vf) h0 HO.out hba HGa.out.blk (by decide)) (by decide))), hs'.2.2⟩
              | 11, _, hs' => exact hs'
              | k' + 12, _, hs' => trivial
            · intro _ q hq
              rw [getD_set_ne false (by omega)]
              match q, hq with
              | 0, _ => exact hd ⟨0, .phase⟩ (by simp) rfl
              | 1, _ => exact hd ⟨1, .phase⟩ (by simp) rfl
              | 2, _ => exact hd ⟨2, .phase⟩ (by simp) rfl
              | 3, _ => exact hd ⟨3, .phase⟩ (by simp) rfl
              | 4, _ => exact hd ⟨4, .phase⟩ (by simp) rfl
              | 5, _ => exact hd ⟨5, .phase⟩ (by simp) rfl
              | 6, _ => exact hd ⟨6, .phase⟩ (by simp) rfl
              | 7, _ => exact hd ⟨7, .phase⟩ (by simp) rfl
              | 8, _ => exact hd ⟨8, .phase⟩ (by simp) rfl
              | 9, _ => exact hd ⟨9, .phase⟩ (by simp) rfl
              | 10, _ => exact hd ⟨10, .phase⟩ (by simp) rfl
              | 11, _ => exact hd ⟨11, .data⟩ (by simp) rfl
            · intro e; have : (L.setIfInBounds 12 true).getD 12 false = true := (by simp [h.sized]); rw [this] at e; cases e
            · intro _ e; have : (L.setIfInBounds 12 true).getD 12 false = true := (by simp [h.sized]); rw [this] at e; cases e
            · intro _; rw [getD_set_ne false (by decide)]; exact h.world.ord h10
            · intro _ e; have : (L.setIfInBounds 12 true).getD 12 false = true := (by simp [h.sized]); rw [this] at e; cases e
        · intro L a w6 hL hdf hsz6' hw hother hall
          have HP6 := Lib.hid (hw.fin (hL 12 (by simp)))
          refine hK2 _ _ ?_
          obtain ⟨tm, df⟩ := a
          obtain ⟨z0, z1, z2, z3, z4, z5, z6, z7, z8, z9, z10, z11, z12, z13, z14, z15, z16, z17, z18, z19, z20, z21, z22, z23, z24, z25, z26, z27, z28, z29, z30, z31, z32, z33, z34, z35, z36, z37, z38, z39, z40, z41, z42, z43, z44, z45, z46, z47, z48, z49, z50, z51, z52, rfl⟩ := arr53 tm hsz6'
          obtain rfl : df = [] := hdf
          obtain rfl : _ = z0 := (hother 0 (unwritten_spec (by kernel_rfl))).symm
          obtain rfl : _ = z1 := (hother 1 (unwritten_spec (by kernel_rfl))).symm
          obtain rfl : _ = z2 := (hother 2 (unwritten_spec (by kernel_rfl))).symm
          obtain rfl : _ = z3 := (hother 3 (unwritten_spec (by kernel_rfl))).symm
          obtain rfl : _ = z4 := (hother 4 (unwritten_spec (by kernel_rfl))).symm
          obtain rfl : _ = z5 := (hother 5 (unwritten_spec (by kernel_rfl))).symm
          obtain rfl : _ = z6 := (hother 6 (unwritten_spec (by kernel_rfl))).symm
          obtain rfl : _ = z7 := (hother 7 (unwritten_spec (by kernel_rfl))).symm
          obtain rfl : _ = z8 := (hother 8 (unwritten_spec (by kernel_rfl))).symm
          obtain rfl : _ = z9 := (hother 9 (unwritten_spec (by kernel_rfl))).symm
          obtain rfl : _ = z10 := (hother 10 (unwritten_spec (by kernel_rfl))).symm
          obtain rfl : _ = z11 := (hother 11 (unwritten_spec (by kernel_rfl))).symm
          obtain rfl : _ = z12 := (hother 12 (unwritten_spec (by kernel_rfl))).symm
          obtain rfl : _ = z13 := (hother 13 (unwritten_spec (by kernel_rfl))).symm
          obtain rfl : _ = z14 := (hother 14 (unwritten_spec (by kernel_rfl))).symm
          obtain rfl : _ = z15 := (hother 15 (unwritten_spec (by kernel_rfl))).symm
          obtain rfl : _ = z16 := (hother 16 (unwritten_spec (by kernel_rfl))).symm
          obtain rfl : _ = z17 := (hother 17 (unwritten_spec (by kernel_rfl))).symm
          obtain rfl : _ = z18 := (hother 18 (unwritten_spec (by kernel_rfl))).symm
          obtain rfl : _ = z19 := (hother 19 (unwritten_spec (by kernel_rfl))).symm
          obtain rfl : _ = z20 := (hother 20 (unwritten_spec (by kernel_rfl))).symm
          obtain rfl : _ = z21 := (hother 21 (unwritten_spec (by kernel_rfl))).symm
          obtain rfl : _ = z22 := (hother 22 (unwritten_spec (by kernel_rfl))).symm
          obtain rfl : _ = z23 := (hother 23 (unwritten_spec (by kernel_rfl))).symm
          obtain rfl : _ = z24 := (hother 24 (unwritten_spec (by kernel_rfl))).symm
          obtain rfl : _ = z25 := (hother 25 (unwritten_spec (by kernel_rfl))).symm
          obtain rfl : _ = z26 := (hother 26 (unwritten_spec (by kernel_rfl))).symm
          obtain rfl : _ = z39 := (hother 39 (unwritten_spec (by kernel_rfl))).symm
          obtain rfl : _ = z40 := (hother 40 (unwritten_spec (by kernel_rfl))).symm
          obtain rfl : _ = z41 := (hother 41 (unwritten_spec (by kernel_rfl))).symm
          obtain rfl : _ = z42 := (hother 42 (unwritten_spec (by kernel_rfl))).symm
          obtain rfl : _ = z43 := (hother 43 (unwritten_spec (by kernel_rfl))).symm
          obtain rfl : _ = z44 := (hother 44 (unwritten_spec (by kernel_rfl))).symm
          obtain rfl : _ = z45 := (hother 45 (unwritten_spec (by kernel_rfl))).symm
          obtain rfl : _ = z46 := (hother 46 (unwritten_spec (by kernel_rfl))).symm
          obtain rfl : _ = z47 := (hother 47 (unwritten_spec (by kernel_rfl))).symm
          obtain rfl : _ = z48 := (hother 48 (unwritten_spec (by kernel_rfl))).symm
          obtain rfl : _ = z49 := (hother 49 (unwritten_spec (by kernel_rfl))).symm
          obtain rfl : _ = z50 := (hother 50 (unwritten_spec (by kernel_rfl))).symm
          obtain rfl : _ = z51 := (hother 51 (unwritten_spec (by kernel_rfl))).symm
          obtain rfl : _ = z52 := (hother 52 (unwritten_spec (by kernel_rfl))).symm
          clear hother hall hw hL hba hwaz hwab HWA wa
          obtain ⟨vs6, hgrp6⟩ := HP6.out.grp
          have hsz6 := HP6.out.size
          have hblk6 := HP6.out.blk _ _ _ HK4.out (by decide) (by omega)
          have hvl6 := hgrp6.len
          have hll6 : (wset ls pu (pv, ⟨eid, eu, ev, ew⟩)).length = m := by rw [length_wset, HLs.out]; unfold waysF; rw [length_waysF]; simp
          obtain ⟨ls6, hls6⟩ : ∃ ls6, ls6 = wset ls pu (pv, ⟨eid, eu, ev, ew⟩) := ⟨_, rfl⟩
          rw [← hls6] at hgrp6 hvl6 hll6
          have hlen6 : (wys ls6 pv).length + 1 ≤ 1000000 := by
            have h1 := List.length_take_le k F
            have h2 : ∀ i, (wys ls i).length ≤ 2 * (F.take k).length := by
              rw [HLs.out]
              intro i
              have := wys_len_aux (plE V) (F.take k) (List.replicate m []) 0 (fun e he => by
                have hE := HFS.out e (List.mem_of_mem_take he)
                rw [List.length_replicate, HM.out]
                exact ⟨pl_lt HR.out.vup (HR.out.eu e hE), pl_lt HR.out.vup (HR.out.ev e hE)⟩) (fun i => by simp [wys, List.getD, List.getElem?_replicate]; split <;> simp) i
              simpa [waysF] using this
            have h3 := h2 pu
            have h4 := h2 pv
            rw [hls6, wys_wset (by have := HLF.out; have := (List.getElem?_eq_some_iff.1 this).1; exact this)]
            split
            · simp; omega
            · omega
          obtain ⟨vg, hvg⟩ : ∃ vg, vs6[pv]? = some vg := ⟨vs6[pv]'(by omega), List.getElem?_eq_getElem _⟩
          have hlg : ls6[pv]? = some (wys ls6 pv) := wys_get (by omega)
          have HG6 := Lib.hid hgrp6
          have HVG := Lib.hid hvg
          have HLG := Lib.hid hlg
          have HO6 := Lib.hid (hgrp6.own pv vg _ hvg hlg)
          have HLn6 := Lib.hid hlen6
          have HLs6 := Lib.hid hls6
          have HK6 := Lib.hid hblk6
          have hgz6 : w.heap.size + 1 < w6.heap.size := by omega
          have hez6 : wr.heap.size < w6.heap.size := by omega
          have hbz6 : w2.heap.size ≤ w6.heap.size + 1 := by omega
          clear hgrp6 hvg hlg hlen6 hls6 hblk6 hvl6 hll6
          go_wp2_with fail
          obtain ⟨wa, hwa0⟩ : ∃ wa, wa = (w6.drew.alloc (.cells #[.int .i64 (pu : Int), .int .i64 eid, .int .i64 eu, .int .i64 ev, .int .i64 ew] 160)) := ⟨_, rfl⟩
          have hba : Below w6.heap.size w6 wa := by rw [hwa0]; exact ((Below.refl _ _).drew).alloc (Nat.le_refl _) _
          have hwaz : wa.heap.size = w6.heap.size + 1 := by rw [hwa0]; simp
          have hwab : Blk wa w6.heap.size 160 #[.int .i64 (pu : Int), .int .i64 eid, .int .i64 eu, .int .i64 ev, .int .i64 ew] := by rw [hwa0]; exact Blk.new w6.drew _ _
          have HWA := Lib.hid hwa0
          clear hwa0
          refine wp_region_slots (SPush wa w2.heap.size (w.heap.size + 1) m pv pu w6.heap.size ⟨eid, eu, ev, ew⟩ vg (wys ls6 pv)) (IPush w6 wa w2.heap.size (w.heap.size + 1) vs6 ls6 pv (pu, ⟨eid, eu, ev, ew⟩) vg) (by kernel_rfl) (by kernel_rfl) (by kernel_rfl) ⟨fun h => by simp at h, fun h => by simp at h, fun _ h => by simp at h, fun _ _ h => by simp at h, fun h => by simp at h, fun _ _ _ => rfl⟩ ?_ ?_
          · intro L a w5 q o' h ho h0 hd
            revert L a w5
            revert q o'
            refine each_array ?_
            refine ⟨?_, ?_, ?_, ?_, ?_, ?_, ?_, ?_, ?_, ?_, ?_, ?_, ?_, trivial⟩ <;> intro L a w5 h h0 hd
            · exact h.val rfl rfl (ro_move w5 (h.still 3 (by kernel_rfl))) (h.world.keep (by decide) (by decide) (by decide) h0 (by decide)) rfl
            · exact h.val rfl rfl (ro_move w5 (h.still 7 (by kernel_rfl))) (h.world.keep (by decide) (by decide) (by decide) h0 (by decide)) rfl
            · exact h.val rfl rfl (ro_move w5 (h.still 3 (by kernel_rfl))) (h.world.keep (by decide) (by decide) (by decide) h0 (by decide)) rfl
            · exact h.val rfl rfl (ro_move w5 (h.still 7 (by kernel_rfl))) (h.world.keep (by decide) (by decide) (by decide) h0 (by decide)) rfl
            · have r2 : a.tmps.getD 41 undef = .slice (some ⟨w.heap.size + 1, 0, none⟩) m m := h.ran 2 _ 41 rfl rfl (hd ⟨2, .data⟩ (by simp) rfl)
              have r3 : a.tmps.getD 42 undef = .int .i64 (pv : Int) := h.ran 3 _ 42 rfl rfl (hd ⟨3, .data⟩ (by simp) rfl)
              exact h.val rfl rfl (ro_idx157 w5 r2 r3 (by omega)) (h.world.keep (by decide) (by decide) (by decide) h0 (by decide)) rfl
            · have r4 : a.tmps.getD 43 undef = .pointer (some ⟨w.heap.size + 1, pv, none⟩) := h.ran 4 _ 43 rfl rfl (hd ⟨4, .data⟩ (by simp) rfl)
              have cg := (h.world.blk (x := vf) (h.world.not12 h0 (by decide)) HO6.out hba HG6.out.blk (by decide)).cell pv
              have cg' : w5.cell? ⟨w.heap.size + 1, pv, none⟩ = some vg := cg.trans (by simpa using HVG.out)
              clear cg
              exact h.val rfl rfl (ro_load153 w5 r4 cg') (h.world.keep (by decide) (by decide) (by decide) h0 (by decide)) rfl
            · exact h.val rfl rfl (ro_move w5 (h.still 6 (by kernel_rfl))) (h.world.keep (by decide) (by decide) (by decide) h0 (by decide)) rfl
            · have r5 : a.tmps.getD 5 undef = .pointer (some ⟨wr.heap.size, 0, none⟩) := h.still 5 (by kernel_rfl)
              have be := h.world.blk (x := vf) (h.world.not12 h0 (by decide)) HO6.out hba HK6.out (by decide)
              have be0 : w5.cell? ⟨wr.heap.size, 0, none⟩ = some (.int .i64 eid) := be.cell 0
              have be1 : w5.cell? ⟨wr.heap.size, 1, none⟩ = some (.int .i64 eu) := be.cell 1
              have be2 : w5.cell? ⟨wr.heap.size, 2, none⟩ = some (.int .i64 ev) := be.cell 2
              have be3 : w5.cell? ⟨wr.heap.size, 3, none⟩ = some (.int .i64 ew) := be.cell 3
              clear be
              exact h.val rfl rfl (ro_loadE w5 r5 be0 be1 be2 be3) (h.world.keep (by decide) (by decide) (by decide) h0 (by decide)) rfl
            · have r6 : a.tmps.getD 45 undef = .int .i64 (pu : Int) := h.ran 6 _ 45 rfl rfl (hd ⟨6, .data⟩ (by simp) rfl)
              have r7 : a.tmps.getD 46 undef = .agg #[.int .i64 eid, .int .i64 eu, .int .i64 ev, .int .i64 ew] := h.ran 7 _ 46 rfl rfl (hd ⟨7, .data⟩ (by simp) rfl)
              exact h.val rfl rfl (ro_build160 w5 r6 r7) (h.world.keep (by decide) (by decide) (by decide) h0 (by decide)) rfl
            · have r8 : a.tmps.getD 47 undef = .agg #[.int .i64 (pu : Int), .int .i64 eid, .int .i64 eu, .int .i64 ev, .int .i64 ew] := h.ran 8 _ 47 rfl rfl (hd ⟨8, .data⟩ (by simp) rfl)
              have h12 := h.world.not12 h0 (by decide)
              have h10 : L.getD 10 false = false := by
                cases hL : L.getD 10 false with
                | false => rfl
                | true => have := h.world.ord hL; rw [h0] at this; cases this
              have hw5 := h.world.old h10 h12 h0
              have hw6 : w5.alloc (.cells #[.int .i64 (pu : Int), .int .i64 eid, .int .i64 eu, .int .i64 ev, .int .i64 ew] 160) = wa := by rw [hw5, HWA.out]
              have hz5 : w5.heap.size = w6.heap.size := by rw [hw5]; rfl
              refine h.mem rfl rfl (v := .slice (some ⟨w6.heap.size, 0, none⟩) 1 1) (w' := wa) ?_ ?_ ⟨?_, ?_, ?_, fun _ _ _ => rfl, ?_, ?_⟩ rfl
              · rw [← hw6, ← hz5]; exact ro_slice160 w5 r8
              · intro k' v' hk' hs'
                match k', hs' with
                | 0, hs' => exact hs'
                | 1, hs' => exact hs'
                | 2, hs' => exact hs'
                | 3, hs' => exact hs'
                | 4, hs' => exact hs'
                | 5, hs' => exact hs'
                | 6, hs' => exact hs'
                | 7, hs' => exact hs'
                | 8, hs' => exact hs'
                | 9, hs' => exact hs'
                | 10, hs' => exact ⟨hs'.1, (by have := hs'.2.1.alloc (.cells #[.int .i64 (pu : Int), .int .i64 eid, .int .i64 eu, .int .i64 ev, .int .i64 ew] 160); rw [hw6] at this; exact this), hs'.2.2⟩
                | 11, hs' => exact hs'
                | k' + 12, hs' => trivial
              · rw [getD_set_ne false (by decide), h12]; intro e; cases e
              · rw [getD_set_ne false (by decide), h12]; intro e; cases e
              · rw [getD_set_ne false (by decide), getD_set_ne false (by decide), h10]; intro _ e; cases e
              · rw [getD_set_ne false (by decide), h10]; intro e; cases e
              · intro _ _ e
                have : (L.setIfInBounds 9 true).getD 9 false = true := (by simp [h.sized])
                rw [this] at e; cases e
            · have r5 : a.tmps.getD 44 undef = vg := h.ran 5 _ 44 rfl rfl (hd ⟨5, .data⟩ (by simp) rfl)
              have r9 : a.tmps.getD 48 undef = .slice (some ⟨w6.heap.size, 0, none⟩) 1 1 := h.ran 9 _ 48 rfl rfl (hd ⟨9, .data⟩ (by simp) rfl)
              have h9 : L.getD 9 false = true := hd ⟨9, .data⟩ (by simp) rfl
              have h12 := h.world.not12 h0 (by decide)
              have hw5 := h.world.new h0 h12 h9
              obtain ⟨v', w6, hrun, ho6, hg6, hb6⟩ := ro_app1 (w := w5) (base := w2.heap.size) (xs := wys ls6 pv) (y := (pu, ⟨eid, eu, ev, ew⟩)) etSteps encP_len encP_one r5 (by rw [hw5]; exact HO6.out.below hba) w6.heap.size r9 (by intro c u hu; rw [hw5, hwab.cell c, ← Array.getElem?_toList]; exact hu) HLn6.out (by rw [hw5]; omega)
              refine h.mem rfl rfl hrun ?_ ⟨?_, ?_, ?_, ?_, ?_, ?_⟩ ⟨ho6.slice3, ho6, by rw [hw5] at hb6; exact hb6⟩
              · intro k' v'' hk' hs'
                match k', hk', hs' with
                | 0, _, hs' => exact hs'
                | 1, _, hs' => exact hs'
                | 2, _, hs' => exact hs'
                | 3, _, hs' => exact hs'
                | 4, _, hs' => exact hs'
                | 5, _, hs' => exact hs'
                | 6, _, hs' => exact hs'
                | 7, _, hs' => exact hs'
                | 8, _, hs' => exact hs'
                | 9, _, hs' => exact hs'
                | 10, hk', hs' => rw [h0] at hk'; cases hk'
                | 11, _, hs' => exact hs'
                | k' + 12, _, hs' => trivial
              · rw [getD_set_ne false (by decide), h12]; intro e; cases e
              · rw [getD_set_ne false (by decide), h12]; intro e; cases e
              · intro _ _; rw [hw5] at hg6; exact hg6
              · intro e; have : (L.setIfInBounds 10 true).getD 10 false = true := (by simp [h.sized]); rw [this] at e; cases e
              · intro _; rw [getD_set_ne false (by decide)]; exact h9
              · intro e; have : (L.setIfInBounds 10 true).getD 10 false = true := (by simp [h.sized]); rw [this] at e; cases e
            · have r0 : a.tmps.getD 39 undef = .slice (some ⟨w.heap.size + 1, 0, none⟩) m m := h.ran 0 _ 39 rfl rfl (hd ⟨0, .data⟩ (by simp) rfl)
              have r1 : a.tmps.getD 40 undef = .int .i64 (pv : Int) := h.ran 1 _ 40 rfl rfl (hd ⟨1, .data⟩ (by simp) rfl)
              exact h.val rfl rfl (ro_idx157 w5 r0 r1 (by omega)) (h.world.keep (by decide) (by decide) (by decide) h0 (by decide)) rfl
            · have r11 : a.tmps.getD 50 undef = .pointer (some ⟨w.heap.size + 1, pv, none⟩) := h.ran 11 _ 50 rfl rfl (hd ⟨11, .data⟩ (by simp) rfl)
              have h10 : L.getD 10 false = true := hd ⟨10, .data⟩ (by simp) rfl
              obtain ⟨⟨A5, m5, q5, hv5⟩, ho5, hb5⟩ := h.ran 10 _ 49 rfl rfl h10
              have hg5 := h.world.app h0 h10
              have bg := h.world.blk (x := vf) h0 HO6.out hba HG6.out.blk (by decide)
              obtain ⟨u5, c5⟩ := bg.setAt pv (by simp; exact (List.getElem?_eq_some_iff.1 HVG.out).1)
              have f5 := bg.frozen pv
              have hP := pushed_of HG6.out HVG.out HLG.out hba (by omega) ho5 hg5 hb5
              have hne5 := ho5.ne_blk bg (by decide)
              rw [hv5] at hP hne5
              have r10 : a.tmps.getD 49 undef = .slice A5 m5 q5 := hv5
              clear ho5 hb5 hg5 bg
              refine h.skip rfl rfl (w' := w5.setCell ⟨w.heap.size + 1, pv, none⟩ (.slice A5 m5 q5)) (ro_store153 w5 r11 r10 c5 f5) ?_ ⟨?_, fun _ => hP, ?_, ?_, ?_, ?_⟩ trivial
              · intro k' v'' hk' hs'
                match k', hk', hs' with
                | 0, _, hs' => exact hs'
                | 1, _, hs' => exact hs'
                | 2, _, hs' => exact hs'
                | 3, _, hs' => exact hs'
                | 4, _, hs' => exact hs'
                | 5, _, hs' => exact hs'
                | 6, _, hs' => exact hs'
                | 7, _, hs' => exact hs'
                | 8, _, hs' => exact hs'
                | 9, _, hs' => exact hs'
                | 10, _, hs' => exact ⟨hs'.1, hs'.2.1.kept (row := some (w.heap.size + 1)) ⟨rfl, rfl, rfl, by simp, fun q _ hq => heap_setCell_other _ ⟨w.heap.size + 1, pv, none⟩ q _ (fun e => hq (by simp [e]))⟩ (.inr (hs'.2.1.ne_blk (h.world.blk (x := vf) h0 HO6.out hba HG6.out.blk (by decide)) (by decide))), hs'.2.2⟩
                | 11, _, hs' => exact hs'
                | k' + 12, _, hs' => trivial
              · intro _ q hq
                rw [getD_set_ne false (by omega)]
                match q, hq with
                | 0, _ => exact hd ⟨0, .phase⟩ (by simp) rfl
                | 1, _ => exact hd ⟨1, .phase⟩ (by simp) rfl
                | 2, _ => exact hd ⟨2, .phase⟩ (by simp) rfl
                | 3, _ => exact hd ⟨3, .phase⟩ (by simp) rfl
                | 4, _ => exact hd ⟨4, .phase⟩ (by simp) rfl
                | 5, _ => exact hd ⟨5, .phase⟩ (by simp) rfl
                | 6, _ => exact hd ⟨6, .phase⟩ (by simp) rfl
                | 7, _ => exact hd ⟨7, .phase⟩ (by simp) rfl
                | 8, _ => exact hd ⟨8, .phase⟩ (by simp) rfl
                | 9, _ => exact hd ⟨9, .phase⟩ (by simp) rfl
                | 10, _ => exact hd ⟨10, .phase⟩ (by simp) rfl
                | 11, _ => exact hd ⟨11, .data⟩ (by simp) rfl
              · intro e; have : (L.setIfInBounds 12 true).getD 12 false = true := (by simp [h.sized]); rw [this] at e; cases e
              · intro _ e; have : (L.setIfInBounds 12 true).getD 12 false = true := (by simp [h.sized]); rw [this] at e; cases e
              · intro _; rw [getD_set_ne false (by decide)]; exact h.world.ord h10
              · intro _ e; have : (L.setIfInBounds 12 true).getD 12 false = true := (by simp [h.sized]); rw [this] at e; cases e
          · intro L a w8 hL hdf hsz8' hw hother hall
            have HP8 := Lib.hid (hw.fin (hL 12 (by simp)))
            obtain ⟨tm, df⟩ := a
            obtain ⟨x0, x1, x2, x3, x4, x5, x6, x7, x8, x9, x10, x11, x12, x13, x14, x15, x16, x17, x18, x19, x20, x21, x22, x23, x24, x25, x26, x27, x28, x29, x30, x31, x32, x33, x34, x35, x36, x37, x38, x39, x40, x41, x42, x43, x44, x45, x46, x47, x48, x49, x50, x51, x52, rfl⟩ := arr53 tm hsz8'
            obtain rfl : df = [] := hdf
            obtain rfl : _ = x0 := (hother 0 (unwritten_spec (by kernel_rfl))).symm
            obtain rfl : _ = x1 := (hother 1 (unwritten_spec (by kernel_rfl))).symm
            obtain rfl : _ = x2 := (hother 2 (unwritten_spec (by kernel_rfl))).symm
            obtain rfl : _ = x3 := (hother 3 (unwritten_spec (by kernel_rfl))).symm
            obtain rfl : _ = x4 := (hother 4 (unwritten_spec (by kernel_rfl))).symm
            obtain rfl : _ = x5 := (hother 5 (unwritten_spec (by kernel_rfl))).symm
            obtain rfl : _ = x6 := (hother 6 (unwritten_spec (by kernel_rfl))).symm
            obtain rfl : _ = x7 := (hother 7 (unwritten_spec (by kernel_rfl))).symm
            obtain rfl : _ = x8 := (hother 8 (unwritten_spec (by kernel_rfl))).symm
            obtain rfl : _ = x9 := (hother 9 (unwritten_spec (by kernel_rfl))).symm
            obtain rfl : _ = x10 := (hother 10 (unwritten_spec (by kernel_rfl))).symm
            obtain rfl : _ = x11 := (hother 11 (unwritten_spec (by kernel_rfl))).symm
            obtain rfl : _ = x12 := (hother 12 (unwritten_spec (by kernel_rfl))).symm
            obtain rfl : _ = x13 := (hother 13 (unwritten_spec (by kernel_rfl))).symm
            obtain rfl : _ = x14 := (hother 14 (unwritten_spec (by kernel_rfl))).symm
            obtain rfl : _ = x15 := (hother 15 (unwritten_spec (by kernel_rfl))).symm
            obtain rfl : _ = x16 := (hother 16 (unwritten_spec (by kernel_rfl))).symm
            obtain rfl : _ = x17 := (hother 17 (unwritten_spec (by kernel_rfl))).symm
            obtain rfl : _ = x18 := (hother 18 (unwritten_spec (by kernel_rfl))).symm
            obtain rfl : _ = x19 := (hother 19 (unwritten_spec (by kernel_rfl))).symm
            obtain rfl : _ = x20 := (hother 20 (unwritten_spec (by kernel_rfl))).symm
            obtain rfl : _ = x21 := (hother 21 (unwritten_spec (by kernel_rfl))).symm
            obtain rfl : _ = x22 := (hother 22 (unwritten_spec (by kernel_rfl))).symm
            obtain rfl : _ = x23 := (hother 23 (unwritten_spec (by kernel_rfl))).symm
            obtain rfl : _ = x24 := (hother 24 (unwritten_spec (by kernel_rfl))).symm
            obtain rfl : _ = x25 := (hother 25 (unwritten_spec (by kernel_rfl))).symm
            obtain rfl : _ = x26 := (hother 26 (unwritten_spec (by kernel_rfl))).symm
            obtain rfl : _ = x27 := (hother 27 (unwritten_spec (by kernel_rfl))).symm
            obtain rfl : _ = x28 := (hother 28 (unwritten_spec (by kernel_rfl))).symm
            obtain rfl : _ = x29 := (hother 29 (unwritten_spec (by kernel_rfl))).symm
            obtain rfl : _ = x30 := (hother 30 (unwritten_spec (by kernel_rfl))).symm
            obtain rfl : _ = x31 := (hother 31 (unwritten_spec (by kernel_rfl))).symm
            obtain rfl : _ = x32 := (hother 32 (unwritten_spec (by kernel_rfl))).symm
            obtain rfl : _ = x33 := (hother 33 (unwritten_spec (by kernel_rfl))).symm
            obtain rfl : _ = x34 := (hother 34 (unwritten_spec (by kernel_rfl))).symm
            obtain rfl : _ = x35 := (hother 35 (unwritten_spec (by kernel_rfl))).symm
            obtain rfl : _ = x36 := (hother 36 (unwritten_spec (by kernel_rfl))).symm
            obtain rfl : _ = x37 := (hother 37 (unwritten_spec (by kernel_rfl))).symm
            obtain rfl : _ = x38 := (hother 38 (unwritten_spec (by kernel_rfl))).symm
            obtain rfl : _ = x51 := (hother 51 (unwritten_spec (by kernel_rfl))).symm
            obtain rfl : _ = x52 := (hother 52 (unwritten_spec (by kernel_rfl))).symm
            clear hother hall hw hL hba hwaz hwab HWA wa
            go_wp2_with fail
            refine ⟨⟨_, _, _, _, ?rel, rfl, rfl, rfl, rfl⟩, ?measure⟩
            case rel =>
              obtain ⟨vs8, hg8⟩ := HP8.out.grp
              refine ⟨k + 1, vs8, by omega, by go_num, HP8.out.below _ _ (HP6.out.below _ _ HB4.out (by omega) (by omega) (by omega)) (by omega) (by omega) (by omega), HP8.out.grown _ (HP6.out.grown _ HR4.out (Nat.le_refl _)) (Nat.le_refl _), ?_⟩
              rw [HS1.out, ← HLs.out, ← HLs6.out]
              exact hg8
            case measure => simp [intOf]; omega
    · obtain rfl : k = n := by omega
      have HFk : Hid (F.take k = F) := by show _ = _; rw [HN.out, List.take_length]
      clear hbel hb3 hgrp
      go_wp2
      go_ret
      refine ⟨w.heap.size + 1, vs, rfl, by omega, by omega, ⟨w2.heap.size, by omega, ?_⟩, ((Below.refl _ _).alloc (Nat.le_refl _) _).trans (HB.out.mono (by omega))⟩
      have := HG.out
      rw [HFk.out] at this
      exact this
end Go.Proofs.YtghacfhpafbdmaaGreat
