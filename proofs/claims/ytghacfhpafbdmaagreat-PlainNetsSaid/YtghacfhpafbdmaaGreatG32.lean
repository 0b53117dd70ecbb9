/-
  The walk of plain's Span.
-/
import Derived.Test.YtghacfhpafbdmaaGreatG31
import Derived.Test.YtghacfhpafbdmaaGreatG24
namespace Go.Proofs.YtghacfhpafbdmaaGreat
open Go.RowKit Go.Sort
set_option linter.unusedVariables false

/-- The tree gone through from a place. -/
def goneP (V : List Int) (E : List Ed) (s : Nat) : Bs := bfs (waysF (plE V) V.length (forE V E)) V.length s
theorem goneP_went {V : List Int} {E : List Ed} {s : Nat} (hr : Right V E) (hs : s < V.length) : Went (plE V) (forE V E) V.length s (goneP V E s) :=
  (bfs_went (forE_lt hr) hs).1
/-- The end that is farthest from u's place; the distance of what is farthest from that end. -/
def endOf (V : List Int) (E : List Ed) (u : Int) : Nat := farthest (goneF V E u)
def spanV (V : List Int) (E : List Ed) (u : Int) : Int := frr (goneP V E (endOf V E u)).far (farthest (goneP V E (endOf V E u)))

theorem Went.far_all {f : Ed → Nat × Nat} {T : List Ed} {n s : Nat} {b : Bs} (h : Went f T n s b) (hw : ∀ e ∈ T, 0 ≤ e.w ∧ e.w ≤ 1099511627776) (hn : n ≤ 2048) {x : Nat} (hx : x ∈ b.order) : 0 ≤ frr b.far x ∧ frr b.far x ≤ 2251799813685248 := by
  obtain ⟨k, hk⟩ := List.getElem?_of_mem hx
  have := h.far_bd hw k x hk
  have h2 := (List.getElem?_eq_some_iff.1 hk).1
  have h3 := h.len
  omega

/-- What the steps of 'end, _ := walkFrom(n, at(n, u)).farthest()' leave in their slots. -/
def SSpn (sv se : Value) (V : List Int) (E : List Ed) (u : Int) (B0 : Nat) (i : Nat) (x : Value) (w : World) : Prop := match i with
  | 0 => x = netV sv se
  | 1 => x = netV sv se
  | 2 => x = .int .i64 u
  | 3 => x = .int .i64 (pl V u : Nat)
  | 4 => ∃ gw gl gf gk ov, x = .pointer (some ⟨gw, 0, none⟩) ∧ WkAt w B0 gw gl gf gk V.length ov (goneF V E u)
  | 5 => x = .tuple #[.int .i64 (endOf V E u : Int), .int .i64 (frr (goneF V E u).far (endOf V E u))]
  | 6 => x = .tuple #[.int .i64 (endOf V E u : Int), .int .i64 (frr (goneF V E u).far (endOf V E u))]
  | 7 => x = .int .i64 (endOf V E u : Int)
  | 8 => x = .int .i64 (frr (goneF V E u).far (endOf V E u))
  | 9 => x = .int .i64 (endOf V E u : Int)
  | _ => x = .int .i64 (frr (goneF V E u).far (endOf V E u))
theorem sspn_stable (sv se : Value) (V : List Int) (E : List Ed) (u : Int) (B0 : Nat) : ∀ (i : Nat) (x : Value) (w w' : World), SSpn sv se V E u B0 i x w → Below w.heap.size w w' → SSpn sv se V E u B0 i x w' := by
  intro i x w w' h hb
  match i, h with
  | 0, h => exact h
  | 1, h => exact h
  | 2, h => exact h
  | 3, h => exact h
  | 4, ⟨gw, gl, gf, gk, ov, h1, h2⟩ => exact ⟨gw, gl, gf, gk, ov, h1, h2.below hb⟩
  | 5, h => exact h
  | 6, h => exact h
  | 7, h => exact h
  | 8, h => exact h
  | 9, h => exact h
  | i + 10, h => exact h

set_option maxRecDepth 100000 in
set_option maxHeartbeats 4000000 in
theorem Span_ok (sv se : Value) (V : List Int) (E : List Ed) (u : Int) (w : World) (B : Nat) (hv : RI w B sv V) (he : RE w B se E) (hB : B ≤ w.heap.size) (hc : chkV V E [u] = 0) :
    Calls Tryz.prog 23 #[netV sv se, .int .i64 u] w fun e w' => e = .returned (toldT (spanV V E u)) ∧ Below w.heap.size w w' := by
  obtain ⟨hrn, hmem⟩ := chk_zero hc
  have HR : Hid (Right V E) := right_of hrn
  have HU : Hid (u ∈ V) := hmem u (by simp)
  have HC := Lib.hid hc
  have hvl := HR.out.vlen
  have HV := Lib.hid hv
  have HE := Lib.hid he
  have hee : ∀ e ∈ forE V E, 0 ≤ e.w ∧ e.w ≤ 1099511627776 := fun e he => HR.out.ew e (forE_sub V E e he)
  have hend : endOf V E u ∈ (goneF V E u).order := (goneF_went HR.out HU.out).farthest.1
  have hendn := (goneF_went HR.out HU.out).lt hend
  have hsp := (goneP_went HR.out hendn).far_all hee hvl (goneP_went HR.out hendn).farthest.1
  have HEE := Lib.hid hee
  clear hrn hmem hc hv he hee hend
  go_enter Tryz.func23, Tryz.ntmps23
  go_wp2_with fail
  refine (checkVerts_any _ _ _ V E [u] _ B (w.heap.size + 2) ((HV.out.alloc hB _).alloc (by simp; omega) _) ((HE.out.alloc hB _).alloc (by simp; omega) _) (by simp; omega) (RI.lit _ _ _ _ _ [u] 1 1 (by simp) rfl rfl (by simp) (by simp) (by simp) (by omega)) (by simp)).mono ?_
  rw [HC.out]
  rintro e w1 ⟨rfl, hb⟩
  have HB1 : Hid (Below (w.heap.size + 1) (w.alloc (.cells #[sv, se] 25)) w1) := ((Below.refl _ _).alloc (by simp) _).trans (hb.mono (by simp))
  clear hb
  have b0 : w1.cell? ⟨w.heap.size, 0, none⟩ = some sv := (HB1.out.cell (p := ⟨w.heap.size, 0, none⟩) (by show w.heap.size < _; omega)).trans (by simp)
  have b1 : w1.cell? ⟨w.heap.size, 1, none⟩ = some se := (HB1.out.cell (p := ⟨w.heap.size, 1, none⟩) (by show w.heap.size < _; omega)).trans (by simp)
  have HW1 : Hid (Below w.heap.size w w1) := ((Below.refl _ _).alloc (Nat.le_refl _) _).trans (HB1.out.mono (by omega))
  have hz1 := HB1.out.size
  simp only [World.alloc, Array.size_push] at hz1
  go_wp2_with fail
  rename_i K hK
  have hpu := pl_lt HR.out.vup HU.out
  refine wp_region_slots (SSpn sv se V E u w.heap.size) (IAts w1) (by kernel_rfl) (by kernel_rfl) (by kernel_rfl) ((Below.refl _ _).drew) ?_ ?_
  · intro L a w3 i o' h ho h0 hd
    have hwb : Below w1.heap.size w1 w3 := h.world
    have d0 : w3.cell? ⟨w.heap.size, 0, none⟩ = some sv := (hwb.cell (p := ⟨w.heap.size, 0, none⟩) (by show w.heap.size < _; omega)).trans b0
    have d1 : w3.cell? ⟨w.heap.size, 1, none⟩ = some se := (hwb.cell (p := ⟨w.heap.size, 1, none⟩) (by show w.heap.size < _; omega)).trans b1
    have hz3 := hwb.size
    have hbw : Below w.heap.size w w3 := HW1.out.trans (hwb.mono (by omega))
    have hv1 : RI w3 B sv V := HV.out.below (hbw.mono hB)
    have he1 : RE w3 B se E := HE.out.below (hbw.mono hB)
    have hst := fun (w2 : World) (hb : Below w3.heap.size w3 w2) (k : Nat) (x : Value) (_ : L.getD k false = true) (hk : SSpn sv se V E u w.heap.size k x w3) => sspn_stable sv se V E u w.heap.size k x w3 w2 hk hb
    revert L a w3
    revert i o'
    refine each_array ?_
    refine ⟨?_, ?_, ?_, ?_, ?_, ?_, ?_, ?_, ?_, ?_, ?_, trivial⟩ <;> intro L a w3 h h0 hd hwb d0 d1 hz3 hbw hv1 he1 hst
    · exact h.val rfl rfl (ro_loadNet w3 (h.still 2 (by kernel_rfl)) d0 d1) hwb rfl
    · exact h.val rfl rfl (ro_loadNet w3 (h.still 2 (by kernel_rfl)) d0 d1) hwb rfl
    · exact h.val rfl rfl (ro_move w3 (h.still 1 (by kernel_rfl))) hwb rfl
    · have r1 := h.ran 1 _ 20 rfl rfl (hd ⟨1, .data⟩ (by simp) rfl)
      have r3 := h.ran 2 _ 21 rfl rfl (hd ⟨2, .data⟩ (by simp) rfl)
      refine h.call rfl rfl (ro_call2 cf_at w3 r1 r3) ((at_any _ _ V _ w3 B hv1 (by omega) HR.out.vup).mono ?_)
      rintro r w4 ⟨rfl, hb⟩
      exact ⟨_, rfl, hst _ hb, hwb.trans (hb.mono hz3), rfl⟩
    · have r1 := h.ran 0 _ 19 rfl rfl (hd ⟨0, .data⟩ (by simp) rfl)
      have r3 := h.ran 3 _ 22 rfl rfl (hd ⟨3, .data⟩ (by simp) rfl)
      refine h.call rfl rfl (ro_call2 cf_walkFrom w3 r1 r3) ((walkFrom_any _ _ V E (pl V u) w3 B hv1 he1 (by omega) HR.out hpu).mono ?_)
      rintro r w4 ⟨gw, gl, gf, gk, ov, rfl, hwk, hb⟩
      exact ⟨_, rfl, hst _ hb, hwb.trans (hb.mono hz3), gw, gl, gf, gk, ov, rfl, hwk.base (by omega)⟩
    · obtain ⟨gw, gl, gf, gk, ov, r1, hwk⟩ := h.ran 4 _ 23 rfl rfl (hd ⟨4, .data⟩ (by simp) rfl)
      refine h.call rfl rfl (ro_call1 cf_farthest w3 r1) ((farthest_any w3 w.heap.size gw gl gf gk V.length ov (goneF V E u) (pl V u) (plE V) (forE V E) hwk (by omega) hvl (goneF_went HR.out HU.out)).mono ?_)
      rintro r w4 ⟨rfl, hb⟩
      exact ⟨_, rfl, hst _ hb, hwb.trans (hb.mono hz3), rfl⟩
    · exact h.val rfl rfl (ro_move w3 (h.ran 5 _ 24 rfl rfl (hd ⟨5, .data⟩ (by simp) rfl))) hwb rfl
    · exact h.val rfl rfl (ro_extract0 w3 (h.ran 6 _ 18 rfl rfl (hd ⟨6, .data⟩ (by simp) rfl))) hwb rfl
    · exact h.val rfl rfl (ro_extract1 w3 (h.ran 6 _ 18 rfl rfl (hd ⟨6, .data⟩ (by simp) rfl))) hwb rfl
    · exact h.val rfl rfl (ro_assign w3 (h.ran 7 _ 25 rfl rfl (hd ⟨7, .data⟩ (by simp) rfl))) hwb rfl
    · exact h.val rfl rfl (ro_assign w3 (h.ran 8 _ 26 rfl rfl (hd ⟨8, .data⟩ (by simp) rfl))) hwb rfl
  · intro L a w3 hL hdf hsz' hw hother hall
    have hwb : Below w1.heap.size w1 w3 := hw
    have h9 : a.tmps.getD 7 undef = .int .i64 (endOf V E u : Int) := hall 9 _ 7 rfl rfl
    have HBW : Hid (Below w.heap.size w w3) := HW1.out.trans (hwb.mono (by omega))
    have d0 : w3.cell? ⟨w.heap.size, 0, none⟩ = some sv := (hwb.cell (p := ⟨w.heap.size, 0, none⟩) (by show w.heap.size < _; omega)).trans b0
    have d1 : w3.cell? ⟨w.heap.size, 1, none⟩ = some se := (hwb.cell (p := ⟨w.heap.size, 1, none⟩) (by show w.heap.size < _; omega)).trans b1
    have hz3 := hwb.size
    refine hK _ _ ?_
    obtain ⟨tm, df⟩ := a
    obtain rfl : df = [] := hdf
    have htm := tmps_eq [19, 20, 21, 22, 23, 24, 18, 25, 26, 7, 8] (by kernel_rfl) hsz' hother
    dsimp only at htm h9
    simp only [List.foldl] at htm
    rw [h9] at htm
    generalize tm.getD 19 undef = y19 at htm
    generalize tm.getD 20 undef = y20 at htm
    generalize tm.getD 21 undef = y21 at htm
    generalize tm.getD 22 undef = y22 at htm
    generalize tm.getD 23 undef = y23 at htm
    generalize tm.getD 24 undef = y24 at htm
    generalize tm.getD 18 undef = y18 at htm
    generalize tm.getD 25 undef = y25 at htm
    generalize tm.getD 26 undef = y26 at htm
    generalize tm.getD 8 undef = y8 at htm
    clear hother hall hsz' h9 hw hwb hK b0 b1
    rw [htm]
    clear htm
    simp only [List.setIfInBounds_toArray, List.set_cons_succ, List.set_cons_zero]
    obtain ⟨en, hen⟩ : ∃ en, en = endOf V E u := ⟨_, rfl⟩
    rw [← hen] at hendn hsp ⊢
    have HEN := Lib.hid hen
    clear hen
    go_wp2_with fail
    refine (walkFrom_any _ _ V E en _ B (HV.out.below (HBW.out.mono hB)) (HE.out.below (HBW.out.mono hB)) (by omega) HR.out hendn).mono ?_
    rintro e w4 ⟨gw, gl, gf, gk, ov, rfl, hwk, hb4⟩
    have HK4 : Hid (WkAt w4 w3.heap.size gw gl gf gk V.length ov (goneP V E en)) := hwk
    have HB4 : Hid (Below w.heap.size w w4) := HBW.out.trans (hb4.mono (by omega))
    have hz4 := hb4.size
    clear hwk hb4 d0 d1
    go_wp2_with fail
    refine (farthest_any w4 w3.heap.size gw gl gf gk V.length ov (goneP V E en) en (plE V) (forE V E) HK4.out (by omega) hvl (goneP_went HR.out hendn)).mono ?_
    rintro e w5 ⟨rfl, hb5⟩
    have HB5 : Hid (Below w.heap.size w w5) := HB4.out.trans (hb5.mono (by omega))
    clear hb5
    obtain ⟨sp, hsp0⟩ : ∃ sp, sp = frr (goneP V E en).far (farthest (goneP V E en)) := ⟨_, rfl⟩
    have hspv : sp = spanV V E u := by rw [hsp0, HEN.out]; rfl
    rw [← hsp0] at hsp ⊢
    have HSp := Lib.hid hspv
    clear hspv hsp0
    by_cases hbig : 70368744177664 < sp
    · have HRes : Hid (toldT (spanV V E u) = .tuple #[.int .i64 0, .int .i64 62]) := by show _ = _; rw [← HSp.out, toldT_hi hbig]
      have HBig := Lib.hid hbig
      clear hbig
      go_wp2_with fail
      refine (told_hi _ HBig.out _).mono ?_
      rintro e w6 ⟨rfl, rfl⟩
      go_wp2_with fail
      go_ret2
      exact ⟨by rw [HRes.out]; rfl, HB5.out⟩
    · have HRes : Hid (toldT (spanV V E u) = .tuple #[.int .i64 sp, .int .i64 0]) := by show _ = _; rw [← HSp.out, toldT_lo hbig]
      have HBig := Lib.hid hbig
      clear hbig
      go_wp2_with fail
      refine (told_lo sp (by have := HBig.out; omega) _).mono ?_
      rintro e w6 ⟨rfl, rfl⟩
      go_wp2_with fail
      go_ret2
      exact ⟨by rw [HRes.out]; rfl, HB5.out⟩

set_option maxHeartbeats 1000000 in
theorem Span_no (sv se : Value) (V : List Int) (E : List Ed) (u c : Int) (w : World) (B : Nat) (hv : RI w B sv V) (he : RE w B se E) (hB : B ≤ w.heap.size) (hc : chkV V E [u] = c) (h0 : c ≠ 0) :
    Calls Tryz.prog 23 #[netV sv se, .int .i64 u] w fun e w' => e = .returned (.tuple #[.int .i64 0, .int .i64 c]) ∧ Below w.heap.size w w' := by
  have HC := Lib.hid hc
  have HV := Lib.hid hv
  have HE := Lib.hid he
  clear hc hv he
  go_enter Tryz.func23, Tryz.ntmps23
  go_wp2_with fail
  refine (checkVerts_any _ _ _ V E [u] _ B (w.heap.size + 2) ((HV.out.alloc hB _).alloc (by simp; omega) _) ((HE.out.alloc hB _).alloc (by simp; omega) _) (by simp; omega) (RI.lit _ _ _ _ _ [u] 1 1 (by simp) rfl rfl (by simp) (by simp) (by simp) (by omega)) (by simp)).mono ?_
  rw [HC.out]
  rintro e w1 ⟨rfl, hb⟩
  have HB1 : Hid (Below (w.heap.size + 1) (w.alloc (.cells #[sv, se] 25)) w1) := ((Below.refl _ _).alloc (by simp) _).trans (hb.mono (by simp))
  clear hb
  go_wp2_with fail
  go_ret2
  exact ⟨rfl, ((Below.refl _ _).alloc (Nat.le_refl _) _).trans (HB1.out.mono (by omega))⟩
end Go.Proofs.YtghacfhpafbdmaaGreat
