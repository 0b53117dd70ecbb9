/-
  The walk of plain's joined.
-/
import Derived.Test.YtghacfhpafbdmaaGreatG12
namespace Go.Proofs.YtghacfhpafbdmaaGreat
open Go.RowKit
set_option linter.unusedVariables false

/-- What the steps of 'join(at(n, e.U), at(n, e.V))' leave in their slots: no word on the world. -/
def SJoin (sets sv se : Value) (pe : Nat) (V : List Int) (u v : Int) (i : Nat) (x : Value) (w : World) : Prop := match i with
  | 0 => x = sets
  | 1 => x = netV sv se
  | 2 => x = .pointer (some ⟨pe, 1, none⟩)
  | 3 => x = .int .i64 u
  | 4 => x = .int .i64 (pl V u : Nat)
  | 5 => x = netV sv se
  | 6 => x = .pointer (some ⟨pe, 2, none⟩)
  | 7 => x = .int .i64 v
  | 8 => x = .int .i64 (pl V v : Nat)
  | _ => True
/-- What holds of the world while they run: the sets as they were, or joined. -/
def IJoin (W : World) (G : Nat) (Lk : List Nat) (i j : Nat) (L : Array Bool) (w : World) : Prop := W.grownBy w (some G) ∧ SB w G (if L.getD 9 false then joinL Lk i j else Lk)
theorem IJoin.keep {W w w' : World} {G : Nat} {Lk : List Nat} {i j q : Nat} {L : Array Bool} (h : IJoin W G Lk i j L w) (hb : Below w.heap.size w w') (hq : q ≠ 9) : IJoin W G Lk i j (L.setIfInBounds q true) w' := by
  refine ⟨grownBy_trans h.1 (grownBy_below hb), ?_⟩
  rw [getD_set_ne false hq]
  exact h.2.below hb h.2.lt

theorem labs_snoc (V : List Int) (E : List Ed) (k : Nat) (hk : k < E.length) : labs V (E.take (k + 1)) = joinL (labs V (E.take k)) (pl V E[k].u) (pl V E[k].v) := by
  rw [List.take_succ_eq_append_getElem hk]
  unfold labs
  rw [labsF_snoc]
  rfl
theorem labs_len (V : List Int) (E : List Ed) : (labs V E).length = V.length := by unfold labs; rw [length_labsF, List.length_range]
theorem labs_ok {V : List Int} {E : List Ed} (hs : V.Pairwise (· < ·)) (he : ∀ e ∈ E, e.u ∈ V ∧ e.v ∈ V) : LabOk (labs V E) := by
  refine LabOk.fold (labOk_range _) fun e h => ?_
  rw [List.length_range]
  exact ⟨pl_lt hs (he e h).1, pl_lt hs (he e h).2⟩

theorem arr29 (t : Array Value) (h : t.size = 29) : ∃ x0 x1 x2 x3 x4 x5 x6 x7 x8 x9 x10 x11 x12 x13 x14 x15 x16 x17 x18 x19 x20 x21 x22 x23 x24 x25 x26 x27 x28 : Value, t = #[x0, x1, x2, x3, x4, x5, x6, x7, x8, x9, x10, x11, x12, x13, x14, x15, x16, x17, x18, x19, x20, x21, x22, x23, x24, x25, x26, x27, x28] := by
  obtain ⟨l⟩ := t
  match l, h with
  | [x0, x1, x2, x3, x4, x5, x6, x7, x8, x9, x10, x11, x12, x13, x14, x15, x16, x17, x18, x19, x20, x21, x22, x23, x24, x25, x26, x27, x28], _ => exact ⟨x0, x1, x2, x3, x4, x5, x6, x7, x8, x9, x10, x11, x12, x13, x14, x15, x16, x17, x18, x19, x20, x21, x22, x23, x24, x25, x26, x27, x28, rfl⟩

set_option maxRecDepth 100000 in
set_option maxHeartbeats 4000000 in
theorem joined_any (sv se : Value) (V : List Int) (E : List Ed) (w : World) (B : Nat) (hv : RI w B sv V) (he : RE w B se E) (hB : B ≤ w.heap.size) (hr : Right V E) :
    Calls Tryz.prog 41 #[netV sv se] w fun e w' => ∃ g, e = .returned (.slice (some ⟨g, 0, none⟩) V.length V.length) ∧ w.heap.size ≤ g ∧ SB w' g (labs V E) ∧ Below w.heap.size w w' := by
  have HR := Lib.hid hr
  have hvl := hr.vlen
  have hel := hr.elen
  clear hr
  have HV := Lib.hid hv
  obtain ⟨A, c, rfl, hc1, hc2, hc3, HC⟩ := he.open_
  clear he
  obtain ⟨Av, cv, rfl, hv1, hv2, hv3, _⟩ := hv.open_
  clear hv
  obtain ⟨m, hm⟩ : ∃ m, m = V.length := ⟨_, rfl⟩
  obtain ⟨n, hn⟩ : ∃ n, n = E.length := ⟨_, rfl⟩
  rw [← hn] at hc1 hc3 hel ⊢
  rw [← hm] at hv1 hv3 hvl HV ⊢
  have HN := Lib.hid hn
  have HM := Lib.hid hm
  clear hn hm
  go_enter Tryz.func41, Tryz.ntmps41
  go_wp2_with fail
  refine (newSets_any m (by omega) _).mono ?_
  rintro e w1 ⟨rfl, hb, hs⟩
  have HB1 : Hid (Below (w.heap.size + 1) (w.alloc (.cells #[.slice Av m cv, .slice A n c] 25)) w1) := hb.mono (by simp)
  have HS1 := Lib.hid hs
  clear hb hs
  have b1 : w1.cell? ⟨w.heap.size, 1, none⟩ = some (.slice A n c) := (HB1.out.cell (p := ⟨w.heap.size, 1, none⟩) (by show w.heap.size < _; omega)).trans (by simp)
  go_wp2_with fail
  clear b1
  go_loopw [13] (fun i wr => ∃ (k : Nat), k ≤ n ∧ i = .int .i64 k ∧ Below (w.heap.size + 1) (w.alloc (.cells #[.slice Av m cv, .slice A n c] 25)) wr ∧ Hid (SB wr (w.heap.size + 1) (labs V (E.take k)))) (fun i wr => n - (intOf i).toNat)
  case atStart =>
    refine ⟨0, Nat.zero_le _, rfl, HB1.out, ?_⟩
    have := HS1.out
    rw [HM.out] at this
    show SB _ _ _
    simpa [labs, labsF] using this
  case round =>
    obtain ⟨k, hk, rfl, hbel, HT⟩ := hrel
    by_cases hlt : k < n
    · obtain ⟨b, o, rfl, hb, hx⟩ := HC.out k (by have := HN.out; omega)
      obtain ⟨e, hy⟩ : ∃ e, e = E[k]'(by have := HN.out; omega) := ⟨_, rfl⟩
      have hL := labs_snoc V E k (by have := HN.out; omega)
      rw [← hy] at hx hL
      obtain ⟨x0, x1, x2, x3⟩ := cellE hx
      have hem : e ∈ E := by rw [hy]; exact List.getElem_mem _
      have huv : e.u ∈ V ∧ e.v ∈ V := ⟨HR.out.eu e hem, HR.out.ev e hem⟩
      have HU := Lib.hid huv
      have HL := Lib.hid hL
      clear hx hy hL huv
      have hbw : Below w.heap.size w wr := ((Below.refl _ _).alloc (Nat.le_refl _) _).trans (hbel.mono (by omega))
      have x0 := (hbw.cell (p := ⟨b, o + k * 4, none⟩) (by show b < _; omega)).trans x0
      have x1 := (hbw.cell (p := ⟨b, o + k * 4 + 1, none⟩) (by show b < _; omega)).trans x1
      have x2 := (hbw.cell (p := ⟨b, o + k * 4 + 2, none⟩) (by show b < _; omega)).trans x2
      have x3 := (hbw.cell (p := ⟨b, o + k * 4 + 3, none⟩) (by show b < _; omega)).trans x3
      have b0 : wr.cell? ⟨w.heap.size, 0, none⟩ = some (.slice Av m cv) := (hbel.cell (p := ⟨w.heap.size, 0, none⟩) (by show w.heap.size < _; omega)).trans (by simp)
      have b1 : wr.cell? ⟨w.heap.size, 1, none⟩ = some (.slice (some ⟨b, o, none⟩) n c) := (hbel.cell (p := ⟨w.heap.size, 1, none⟩) (by show w.heap.size < _; omega)).trans (by simp)
      have HV1 := Lib.hid (HV.out.below (hbw.mono hB))
      have hsz := hbel.size
      simp only [World.alloc, Array.size_push] at hsz
      have hG := HT.out.lt
      have HB := Lib.hid hbel
      have HW := Lib.hid hbw
      clear hbel hbw
      obtain ⟨eid, eu, ev, ew⟩ := e
      dsimp only at *
      go_wp2_with fail
      rename_i K hK
      obtain ⟨W, hW⟩ : ∃ W, W = wr.alloc (Obj.cells #[Value.int IntKind.i64 eid, Value.int IntKind.i64 eu, Value.int IntKind.i64 ev, Value.int IntKind.i64 ew] 47) := ⟨_, rfl⟩
      have hWb : Below wr.heap.size wr W := by rw [hW]; exact (Below.refl _ _).alloc (Nat.le_refl _) _
      have hWz : W.heap.size = wr.heap.size + 1 := by rw [hW]; simp
      have e1 : W.cell? ⟨wr.heap.size, 1, none⟩ = some (.int .i64 eu) := by rw [hW]; simp
      have e2 : W.cell? ⟨wr.heap.size, 2, none⟩ = some (.int .i64 ev) := by rw [hW]; simp
      have d0 : W.cell? ⟨w.heap.size, 0, none⟩ = some (.slice Av m cv) := (hWb.cell (p := ⟨w.heap.size, 0, none⟩) (by show w.heap.size < _; omega)).trans b0
      have d1 : W.cell? ⟨w.heap.size, 1, none⟩ = some (.slice (some ⟨b, o, none⟩) n c) := (hWb.cell (p := ⟨w.heap.size, 1, none⟩) (by show w.heap.size < _; omega)).trans b1
      have HVW : Hid (RI W B (.slice Av m cv) V) := HV1.out.below (hWb.mono (by omega))
      have HTW : Hid (SB W (w.heap.size + 1) (labs V (E.take k))) := HT.out.below hWb hG
      rw [← hW]
      clear hW x0 x1 x2 x3 b0 b1
      have hlok : LabOk (labs V (E.take k)) := labs_ok HR.out.vup fun e he => ⟨HR.out.eu e (List.mem_of_mem_take he), HR.out.ev e (List.mem_of_mem_take he)⟩
      have hpu := pl_lt HR.out.vup HU.out.1
      have hpv := pl_lt HR.out.vup HU.out.2
      have hll := labs_len V (E.take k)
      rw [← HM.out] at hpu hpv hll
      refine wp_region_slots (SJoin (.slice (some ⟨w.heap.size + 1, 0, none⟩) m m) (.slice Av m cv) (.slice (some ⟨b, o, none⟩) n c) wr.heap.size V eu ev) (IJoin W (w.heap.size + 1) (labs V (E.take k)) (pl V eu) (pl V ev)) (by kernel_rfl) (by kernel_rfl) (by kernel_rfl) ⟨⟨rfl, rfl, rfl, Nat.le_refl _, fun _ _ _ => rfl⟩, HTW.out⟩ ?_ ?_
      · intro L a w1 i o' h ho h0 hd
        have c0 : w1.cell? ⟨w.heap.size, 0, none⟩ = some (.slice Av m cv) := (cell_grownBy h.world.1 _ _ (by omega) (by simp)).trans d0
        have c1 : w1.cell? ⟨w.heap.size, 1, none⟩ = some (.slice (some ⟨b, o, none⟩) n c) := (cell_grownBy h.world.1 _ _ (by omega) (by simp)).trans d1
        have c2 : w1.cell? ⟨wr.heap.size, 1, none⟩ = some (.int .i64 eu) := (cell_grownBy h.world.1 _ _ (by omega) (by simp; omega)).trans e1
        have c3 : w1.cell? ⟨wr.heap.size, 2, none⟩ = some (.int .i64 ev) := (cell_grownBy h.world.1 _ _ (by omega) (by simp; omega)).trans e2
        have hv1 : RI w1 B (.slice Av m cv) V := HVW.out.grown h.world.1 (by omega) (by intro g hg; injection hg with hg; omega)
        have hz1 := h.world.1.size
        revert L a w1
        revert i o'
        refine each_array ?_
        refine ⟨?_, ?_, ?_, ?_, ?_, ?_, ?_, ?_, ?_, ?_, trivial⟩ <;> intro L a w1 h h0 hd c0 c1 c2 c3 hv1 hz1
        · exact h.val rfl rfl (ro_move w1 (h.still 3 (by kernel_rfl))) (h.world.keep (Below.refl _ _) (by decide)) rfl
        · exact h.val rfl rfl (ro_loadNet w1 (h.still 1 (by kernel_rfl)) c0 c1) (h.world.keep (Below.refl _ _) (by decide)) rfl
        · exact h.val rfl rfl (ro_fieldE w1 (by decide) (h.still 5 (by kernel_rfl))) (h.world.keep (Below.refl _ _) (by decide)) rfl
        · exact h.val rfl rfl (ro_loadI w1 (h.ran 2 _ 19 rfl rfl (hd ⟨2, .data⟩ (by simp) rfl)) c2) (h.world.keep (Below.refl _ _) (by decide)) rfl
        · have r1 := h.ran 1 _ 18 rfl rfl (hd ⟨1, .data⟩ (by simp) rfl)
          have r3 := h.ran 3 _ 20 rfl rfl (hd ⟨3, .data⟩ (by simp) rfl)
          refine h.call rfl rfl (ro_call2 cf_at w1 r1 r3) ((at_any _ _ V _ w1 B hv1 (by omega) HR.out.vup).mono ?_)
          rintro r w2 ⟨rfl, hb⟩
          exact ⟨_, rfl, fun _ _ _ h => h, h.world.keep hb (by decide), rfl⟩
        · exact h.val rfl rfl (ro_loadNet w1 (h.still 1 (by kernel_rfl)) c0 c1) (h.world.keep (Below.refl _ _) (by decide)) rfl
        · exact h.val rfl rfl (ro_fieldE w1 (by decide) (h.still 5 (by kernel_rfl))) (h.world.keep (Below.refl _ _) (by decide)) rfl
        · exact h.val rfl rfl (ro_loadI w1 (h.ran 6 _ 23 rfl rfl (hd ⟨6, .data⟩ (by simp) rfl)) c3) (h.world.keep (Below.refl _ _) (by decide)) rfl
        · have r1 := h.ran 5 _ 22 rfl rfl (hd ⟨5, .data⟩ (by simp) rfl)
          have r3 := h.ran 7 _ 24 rfl rfl (hd ⟨7, .data⟩ (by simp) rfl)
          refine h.call rfl rfl (ro_call2 cf_at w1 r1 r3) ((at_any _ _ V _ w1 B hv1 (by omega) HR.out.vup).mono ?_)
          rintro r w2 ⟨rfl, hb⟩
          exact ⟨_, rfl, fun _ _ _ h => h, h.world.keep hb (by decide), rfl⟩
        · have r0 := h.ran 0 _ 17 rfl rfl (hd ⟨0, .data⟩ (by simp) rfl)
          have r4 := h.ran 4 _ 21 rfl rfl (hd ⟨4, .data⟩ (by simp) rfl)
          have r8 := h.ran 8 _ 25 rfl rfl (hd ⟨8, .data⟩ (by simp) rfl)
          have hs1 : SB w1 (w.heap.size + 1) (labs V (E.take k)) := by have := h.world.2; rw [h0] at this; exact this
          refine h.call rfl rfl (ro_call3 cf_join w1 r0 r4 r8) ((join_any _ _ m (pl V eu) (pl V ev) w1 hlok hs1 hll.symm hpu hpv (by omega)).mono ?_)
          rintro r w2 ⟨rfl, hg2, hs2, hz2⟩
          refine ⟨_, rfl, fun _ _ _ h => h, ⟨grownBy_trans h.world.1 hg2, ?_⟩, trivial⟩
          have : (L.setIfInBounds 9 true).getD 9 false = true := by simp [h.sized]
          rw [this]; exact hs2
      · intro L a w1 hL hdf hsz' hw hother hall
        have hs2 : SB w1 (w.heap.size + 1) (labs V (E.take (k + 1))) := by
          have := hw.2
          rw [hL 9 (by simp)] at this
          rw [HL.out]; exact this
        have hbel2 : Below (w.heap.size + 1) (w.alloc (.cells #[.slice Av m cv, .slice (some ⟨b, o, none⟩) n c] 25)) w1 :=
          HB.out.trans ((hWb.mono (by omega)).trans (below_grownBy hw.1 (by omega) (by intro g hg; injection hg with hg; omega)))
        refine hK _ _ ?_
        obtain ⟨tm, df⟩ := a
        obtain ⟨y0, y1, y2, y3, y4, y5, y6, y7, y8, y9, y10, y11, y12, y13, y14, y15, y16, y17, y18, y19, y20, y21, y22, y23, y24, y25, y26, y27, y28, rfl⟩ := arr29 tm hsz'
        obtain rfl : df = [] := hdf
        obtain rfl : y0 = _ := hother 0 (unwritten_spec (by kernel_rfl))
        obtain rfl : y1 = _ := hother 1 (unwritten_spec (by kernel_rfl))
        obtain rfl : y2 = _ := hother 2 (unwritten_spec (by kernel_rfl))
        obtain rfl : y3 = _ := hother 3 (unwritten_spec (by kernel_rfl))
        obtain rfl : y4 = _ := hother 4 (unwritten_spec (by kernel_rfl))
        obtain rfl : y5 = _ := hother 5 (unwritten_spec (by kernel_rfl))
        obtain rfl : y6 = _ := hother 6 (unwritten_spec (by kernel_rfl))
        obtain rfl : y7 = _ := hother 7 (unwritten_spec (by kernel_rfl))
        obtain rfl : y8 = _ := hother 8 (unwritten_spec (by kernel_rfl))
        obtain rfl : y9 = _ := hother 9 (unwritten_spec (by kernel_rfl))
        obtain rfl : y10 = _ := hother 10 (unwritten_spec (by kernel_rfl))
        obtain rfl : y11 = _ := hother 11 (unwritten_spec (by kernel_rfl))
        obtain rfl : y12 = _ := hother 12 (unwritten_spec (by kernel_rfl))
        obtain rfl : y13 = _ := hother 13 (unwritten_spec (by kernel_rfl))
        obtain rfl : y28 = _ := hother 28 (unwritten_spec (by kernel_rfl))
        have HB2 := Lib.hid hbel2
        have HS2 := Lib.hid hs2
        clear hs2 hbel2 hother hall hw hL
        go_wp2_with fail
        go_roundw
        case rel => exact ⟨k + 1, by omega, by go_num, HB2.out, HS2.out⟩
        case measure => simp [intOf]; omega
    · obtain rfl : k = n := by omega
      have HT2 := HT.out
      rw [HN.out, List.take_length] at HT2
      have HS2 := Lib.hid HT2
      clear HT2
      go_wp2
      go_ret
      exact ⟨_, rfl, by omega, HS2.out, ((Below.refl _ _).alloc (Nat.le_refl _) _).trans (hbel.mono (by omega))⟩
end Go.Proofs.YtghacfhpafbdmaaGreat
