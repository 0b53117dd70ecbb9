/-
  The walks of plain's pathOf and Path.
-/
import Derived.Test.YtghacfhpafbdmaaGreatG30
import Derived.Test.YtghacfhpafbdmaaGreatG14
namespace Go.Proofs.YtghacfhpafbdmaaGreat
open Go.RowKit Go.Sort
set_option linter.unusedVariables false

/-- The tree gone through from a vertex. -/
def goneF (V : List Int) (E : List Ed) (v : Int) : Bs := bfs (waysF (plE V) V.length (forE V E)) V.length (pl V v)
def pathK (V : List Int) (E : List Ed) (u v : Int) : Bool := knw (goneF V E v).known (pl V u)
def pathL (V : List Int) (E : List Ed) (u v : Int) : List Ed := backL (goneF V E v).last (pl V v) V.length (pl V u)
def errK (K : Bool) : Int := match K with | true => 0 | false => 61
def pathErr (V : List Int) (E : List Ed) (u v : Int) : Int := if chkV V E [u, v] = 0 then errK (pathK V E u v) else chkV V E [u, v]

theorem forE_lt {V : List Int} {E : List Ed} (hr : Right V E) : ∀ e ∈ forE V E, (plE V e).1 < V.length ∧ (plE V e).2 < V.length := fun e he =>
  ⟨pl_lt hr.vup (hr.eu e (forE_sub V E e he)), pl_lt hr.vup (hr.ev e (forE_sub V E e he))⟩
theorem goneF_went {V : List Int} {E : List Ed} {v : Int} (hr : Right V E) (hv : v ∈ V) : Went (plE V) (forE V E) V.length (pl V v) (goneF V E v) :=
  (bfs_went (forE_lt hr) (pl_lt hr.vup hv)).1

/-- What back's first result is. -/
def QL (K : Bool) (B : Nat) (L : List Ed) (lv : Value) (w : World) : Prop := if K = true then OK encE 4 47 w B lv L else lv = .slice none 0 0
theorem QL.below {K : Bool} {B : Nat} {L : List Ed} {lv : Value} {w w' : World} (h : QL K B L lv w) (hb : Below w.heap.size w w') : QL K B L lv w' := by
  unfold QL at h ⊢
  split
  · rename_i hk; rw [if_pos hk] at h; exact h.below hb
  · rename_i hk; rw [if_neg hk] at h; exact h
theorem QL.base {K : Bool} {B B' : Nat} {L : List Ed} {lv : Value} {w : World} (h : QL K B L lv w) (hb : B' ≤ B) : QL K B' L lv w := by
  unfold QL at h ⊢
  split
  · rename_i hk; rw [if_pos hk] at h; exact h.base hb
  · rename_i hk; rw [if_neg hk] at h; exact h
theorem WkAt.base {w : World} {B B' gw gl gf gk n : Nat} {ov : Value} {b : Bs} (h : WkAt w B gw gl gf gk n ov b) (hb : B' ≤ B) : WkAt w B' gw gl gf gk n ov b :=
  ⟨h.head, h.order.base hb, h.last, h.far, h.known, h.llen, h.flen, h.klen, Nat.le_trans hb h.bw, Nat.le_trans hb h.bl, Nat.le_trans hb h.bf, Nat.le_trans hb h.bk⟩
theorem back_any (w : World) (B gw gl gf gk n : Nat) (ov : Value) (b : Bs) (i s : Nat) (f : Ed → Nat × Nat) (T : List Ed) (h : WkAt w B gw gl gf gk n ov b) (hB : B ≤ w.heap.size) (hn : n ≤ 2048) (hw : Went f T n s b) (hi : i < n) :
    Calls Tryz.prog 88 #[.pointer (some ⟨gw, 0, none⟩), .int .i64 (i : Int)] w fun e w' => ∃ v, e = .returned (.tuple #[v, .bool (knw b.known i)]) ∧ QL (knw b.known i) w.heap.size (backL b.last s n i) v w' ∧ Below w.heap.size w w' := by
  cases hk : knw b.known i with
  | true =>
    refine (back_ok w B gw gl gf gk n ov b i s f T h hB hn hw hi hk).mono ?_
    rintro e w' ⟨v, rfl, ho, hb⟩
    exact ⟨v, rfl, by unfold QL; rw [if_pos rfl]; exact ho, hb⟩
  | false =>
    refine (back_no w B gw gl gf gk n ov b i h hi hk).mono ?_
    rintro e w' ⟨rfl, rfl⟩
    exact ⟨_, rfl, by unfold QL; rw [if_neg (by decide)], Below.refl _ _⟩

theorem cf_walkFrom : ∀ (args : Array Value) (w : World), (callFunc 58 args).run Tryz.prog w = .ok (.enter 58 args) w := enters_of Tryz.func58 (by kernel_rfl) rfl
theorem cf_back : ∀ (args : Array Value) (w : World), (callFunc 88 args).run Tryz.prog w = .ok (.enter 88 args) w := enters_of Tryz.func88 (by kernel_rfl) rfl
theorem cf_farthest : ∀ (args : Array Value) (w : World), (callFunc 59 args).run Tryz.prog w = .ok (.enter 59 args) w := enters_of Tryz.func59 (by kernel_rfl) rfl

/-- What the steps of 'path, ok := walkFrom(n, at(n, v)).back(at(n, u))' leave in their slots. -/
def SPth (sv se : Value) (V : List Int) (E : List Ed) (u v : Int) (B0 : Nat) (i : Nat) (x : Value) (w : World) : Prop := match i with
  | 0 => x = netV sv se
  | 1 => x = netV sv se
  | 2 => x = .int .i64 v
  | 3 => x = .int .i64 (pl V v : Nat)
  | 4 => ∃ gw gl gf gk ov, x = .pointer (some ⟨gw, 0, none⟩) ∧ WkAt w B0 gw gl gf gk V.length ov (goneF V E v)
  | 5 => x = netV sv se
  | 6 => x = .int .i64 u
  | 7 => x = .int .i64 (pl V u : Nat)
  | 8 => ∃ lv, x = .tuple #[lv, .bool (pathK V E u v)] ∧ QL (pathK V E u v) B0 (pathL V E u v) lv w
  | 9 => ∃ lv, x = .tuple #[lv, .bool (pathK V E u v)] ∧ QL (pathK V E u v) B0 (pathL V E u v) lv w
  | 10 => QL (pathK V E u v) B0 (pathL V E u v) x w
  | 11 => x = .bool (pathK V E u v)
  | 12 => QL (pathK V E u v) B0 (pathL V E u v) x w
  | _ => x = .bool (pathK V E u v)
theorem spth_stable (sv se : Value) (V : List Int) (E : List Ed) (u v : Int) (B0 : Nat) : ∀ (i : Nat) (x : Value) (w w' : World), SPth sv se V E u v B0 i x w → Below w.heap.size w w' → SPth sv se V E u v B0 i x w' := by
  intro i x w w' h hb
  match i, h with
  | 0, h => exact h
  | 1, h => exact h
  | 2, h => exact h
  | 3, h => exact h
  | 4, ⟨gw, gl, gf, gk, ov, h1, h2⟩ => exact ⟨gw, gl, gf, gk, ov, h1, h2.below hb⟩
  | 5, h => exact h
  | 6, h => exact h
  | 7, h => exact h
  | 8, ⟨lv, h1, h2⟩ => exact ⟨lv, h1, h2.below hb⟩
  | 9, ⟨lv, h1, h2⟩ => exact ⟨lv, h1, h2.below hb⟩
  | 10, h => exact QL.below h hb
  | 11, h => exact h
  | 12, h => exact QL.below h hb
  | i + 13, h => exact h
section
variable {a : Act} {ty : TypeId} {pos : String} {d : Option Tmp} {af : Array Edge} {g : Option (Nat × Bool)}
theorem ro_extract0 {x : Tmp} {v0 v1 : Value} (w : World) (hx : a.tmps.getD x undef = .tuple #[v0, v1]) :
    (execOp a.eval { dst := d, op := .extract (.tmp x) 0, type := ty, pos := pos, after := af, guard := g }).run Tryz.prog w = .ok (.value v0) w := by
  simp only [execOp, Act.eval, hx]
  go_simp
theorem ro_extract1 {x : Tmp} {v0 v1 : Value} (w : World) (hx : a.tmps.getD x undef = .tuple #[v0, v1]) :
    (execOp a.eval { dst := d, op := .extract (.tmp x) 1, type := ty, pos := pos, after := af, guard := g }).run Tryz.prog w = .ok (.value v1) w := by
  simp only [execOp, Act.eval, hx]
  go_simp
end

set_option maxRecDepth 100000 in
set_option maxHeartbeats 4000000 in
theorem pathOf_chk (sv se : Value) (V : List Int) (E : List Ed) (u v : Int) (w : World) (B : Nat) (hv : RI w B sv V) (he : RE w B se E) (hB : B ≤ w.heap.size) (hc : chkV V E [u, v] = 0) :
    Calls Tryz.prog 53 #[netV sv se, .int .i64 u, .int .i64 v] w fun e w' => ∃ lv, e = .returned (.tuple #[lv, .int .i64 (errK (pathK V E u v))]) ∧ QL (pathK V E u v) w.heap.size (pathL V E u v) lv w' ∧ Below w.heap.size w w' := by
  obtain ⟨hrn, hmem⟩ := chk_zero hc
  have HR : Hid (Right V E) := right_of hrn
  have HU : Hid (u ∈ V ∧ v ∈ V) := ⟨hmem u (by simp), hmem v (by simp)⟩
  have HC := Lib.hid hc
  have hvl := HR.out.vlen
  have HV := Lib.hid hv
  have HE := Lib.hid he
  clear hrn hmem hc hv he
  go_enter Tryz.func53, Tryz.ntmps53
  go_wp2_with fail
  refine (checkVerts_any _ _ _ V E [u, v] _ B (w.heap.size + 2) ((HV.out.alloc hB _).alloc (by simp; omega) _) ((HE.out.alloc hB _).alloc (by simp; omega) _) (by simp; omega) (RI.lit _ _ _ _ _ [u, v] 2 2 (by simp) rfl rfl (by simp) (by simp) (by simp) (by omega)) (by simp)).mono ?_
  rw [HC.out]
  rintro e w1 ⟨rfl, hb⟩
  have HB1 : Hid (Below (w.heap.size + 1) (w.alloc (.cells #[sv, se] 25)) w1) := ((Below.refl _ _).alloc (by simp) _).trans (hb.mono (by simp))
  clear hb
  have b0 : w1.cell? ⟨w.heap.size, 0, none⟩ = some sv := (HB1.out.cell (p := ⟨w.heap.size, 0, none⟩) (by show w.heap.size < _; omega)).trans (by simp)
  have b1 : w1.cell? ⟨w.heap.size, 1, none⟩ = some se := (HB1.out.cell (p := ⟨w.heap.size, 1, none⟩) (by show w.heap.size < _; omega)).trans (by simp)
  have HW1 : Hid (Below w.heap.size w w1) := ((Below.refl _ _).alloc (Nat.le_refl _) _).trans (HB1.out.mono (by omega))
  have hz1 := HB1.out.size
  simp only [World.alloc, Array.size_push] at hz1
  go_wp2_with fail
  rename_i K hK
  have hpu := pl_lt HR.out.vup HU.out.1
  have hpv := pl_lt HR.out.vup HU.out.2
  refine wp_region_slots (SPth sv se V E u v w.heap.size) (IAts w1) (by kernel_rfl) (by kernel_rfl) (by kernel_rfl) ((Below.refl _ _).drew) ?_ ?_
  · intro L a w3 i o' h ho h0 hd
    have hwb : Below w1.heap.size w1 w3 := h.world
    have d0 : w3.cell? ⟨w.heap.size, 0, none⟩ = some sv := (hwb.cell (p := ⟨w.heap.size, 0, none⟩) (by show w.heap.size < _; omega)).trans b0
    have d1 : w3.cell? ⟨w.heap.size, 1, none⟩ = some se := (hwb.cell (p := ⟨w.heap.size, 1, none⟩) (by show w.heap.size < _; omega)).trans b1
    have hz3 := hwb.size
    have hbw : Below w.heap.size w w3 := HW1.out.trans (hwb.mono (by omega))
    have hv1 : RI w3 B sv V := HV.out.below (hbw.mono hB)
    have he1 : RE w3 B se E := HE.out.below (hbw.mono hB)
    have hst := fun (w2 : World) (hb : Below w3.heap.size w3 w2) (k : Nat) (x : Value) (_ : L.getD k false = true) (hk : SPth sv se V E u v w.heap.size k x w3) => spth_stable sv se V E u v w.heap.size k x w3 w2 hk hb
    revert L a w3
    revert i o'
    refine each_array ?_
    refine ⟨?_, ?_, ?_, ?_, ?_, ?_, ?_, ?_, ?_, ?_, ?_, ?_, ?_, ?_, trivial⟩ <;> intro L a w3 h h0 hd hwb d0 d1 hz3 hbw hv1 he1 hst
    · exact h.val rfl rfl (ro_loadNet w3 (h.still 3 (by kernel_rfl)) d0 d1) hwb rfl
    · exact h.val rfl rfl (ro_loadNet w3 (h.still 3 (by kernel_rfl)) d0 d1) hwb rfl
    · exact h.val rfl rfl (ro_move w3 (h.still 2 (by kernel_rfl))) hwb rfl
    · have r1 := h.ran 1 _ 21 rfl rfl (hd ⟨1, .data⟩ (by simp) rfl)
      have r3 := h.ran 2 _ 22 rfl rfl (hd ⟨2, .data⟩ (by simp) rfl)
      refine h.call rfl rfl (ro_call2 cf_at w3 r1 r3) ((at_any _ _ V _ w3 B hv1 (by omega) HR.out.vup).mono ?_)
      rintro r w4 ⟨rfl, hb⟩
      exact ⟨_, rfl, hst _ hb, hwb.trans (hb.mono hz3), rfl⟩
    · have r1 := h.ran 0 _ 20 rfl rfl (hd ⟨0, .data⟩ (by simp) rfl)
      have r3 := h.ran 3 _ 23 rfl rfl (hd ⟨3, .data⟩ (by simp) rfl)
      refine h.call rfl rfl (ro_call2 cf_walkFrom w3 r1 r3) ((walkFrom_any _ _ V E (pl V v) w3 B hv1 he1 (by omega) HR.out hpv).mono ?_)
      rintro r w4 ⟨gw, gl, gf, gk, ov, rfl, hwk, hb⟩
      exact ⟨_, rfl, hst _ hb, hwb.trans (hb.mono hz3), gw, gl, gf, gk, ov, rfl, hwk.base (by omega)⟩
    · exact h.val rfl rfl (ro_loadNet w3 (h.still 3 (by kernel_rfl)) d0 d1) hwb rfl
    · exact h.val rfl rfl (ro_move w3 (h.still 1 (by kernel_rfl))) hwb rfl
    · have r1 := h.ran 5 _ 25 rfl rfl (hd ⟨5, .data⟩ (by simp) rfl)
      have r3 := h.ran 6 _ 26 rfl rfl (hd ⟨6, .data⟩ (by simp) rfl)
      refine h.call rfl rfl (ro_call2 cf_at w3 r1 r3) ((at_any _ _ V _ w3 B hv1 (by omega) HR.out.vup).mono ?_)
      rintro r w4 ⟨rfl, hb⟩
      exact ⟨_, rfl, hst _ hb, hwb.trans (hb.mono hz3), rfl⟩
    · obtain ⟨gw, gl, gf, gk, ov, r1, hwk⟩ := h.ran 4 _ 24 rfl rfl (hd ⟨4, .data⟩ (by simp) rfl)
      have r3 := h.ran 7 _ 27 rfl rfl (hd ⟨7, .data⟩ (by simp) rfl)
      refine h.call rfl rfl (ro_call2 cf_back w3 r1 r3) ((back_any w3 w.heap.size gw gl gf gk V.length ov (goneF V E v) (pl V u) (pl V v) (plE V) (forE V E) hwk (by omega) hvl (goneF_went HR.out HU.out.2) hpu).mono ?_)
      rintro r w4 ⟨lv, rfl, hq, hb⟩
      refine ⟨_, rfl, hst _ hb, hwb.trans (hb.mono hz3), lv, rfl, ?_⟩
      exact hq.base (by omega)
    · obtain ⟨lv, r8, hq⟩ := h.ran 8 _ 28 rfl rfl (hd ⟨8, .data⟩ (by simp) rfl)
      exact h.val rfl rfl (ro_move w3 r8) hwb ⟨lv, rfl, hq⟩
    · obtain ⟨lv, r8, hq⟩ := h.ran 9 _ 19 rfl rfl (hd ⟨9, .data⟩ (by simp) rfl)
      exact h.val rfl rfl (ro_extract0 w3 r8) hwb hq
    · obtain ⟨lv, r8, hq⟩ := h.ran 9 _ 19 rfl rfl (hd ⟨9, .data⟩ (by simp) rfl)
      exact h.val rfl rfl (ro_extract1 w3 r8) hwb rfl
    · exact h.val rfl rfl (ro_assign w3 rfl) hwb (h.ran 10 _ 29 rfl rfl (hd ⟨10, .data⟩ (by simp) rfl))
    · exact h.val rfl rfl (ro_assign w3 (h.ran 11 _ 30 rfl rfl (hd ⟨11, .data⟩ (by simp) rfl))) hwb rfl
  · intro L a w3 hL hdf hsz' hw hother hall
    have hwb : Below w1.heap.size w1 w3 := hw
    have h12 : QL (pathK V E u v) w.heap.size (pathL V E u v) (a.tmps.getD 9 undef) w3 := hall 12 _ 9 rfl rfl
    have h13 : a.tmps.getD 10 undef = .bool (pathK V E u v) := hall 13 _ 10 rfl rfl
    have HBW : Hid (Below w.heap.size w w3) := HW1.out.trans (hwb.mono (by omega))
    refine hK _ _ ?_
    obtain ⟨tm, df⟩ := a
    obtain rfl : df = [] := hdf
    have htm := tmps_eq [20, 21, 22, 23, 24, 25, 26, 27, 28, 19, 29, 30, 9, 10] (by kernel_rfl) hsz' hother
    dsimp only at htm h12 h13
    simp only [List.foldl] at htm
    rw [h13] at htm
    generalize tm.getD 20 undef = y20 at htm
    generalize tm.getD 21 undef = y21 at htm
    generalize tm.getD 22 undef = y22 at htm
    generalize tm.getD 23 undef = y23 at htm
    generalize tm.getD 24 undef = y24 at htm
    generalize tm.getD 25 undef = y25 at htm
    generalize tm.getD 26 undef = y26 at htm
    generalize tm.getD 27 undef = y27 at htm
    generalize tm.getD 28 undef = y28 at htm
    generalize tm.getD 19 undef = y19 at htm
    generalize tm.getD 29 undef = y29 at htm
    generalize tm.getD 30 undef = y30 at htm
    generalize tm.getD 9 undef = y9 at htm h12
    have HQ := Lib.hid h12
    clear hother hall hsz' h12 h13 hw hwb hK
    rw [htm]
    clear htm
    simp only [List.setIfInBounds_toArray, List.set_cons_succ, List.set_cons_zero]
    cases hk : pathK V E u v with
    | true =>
      have HQ2 := HQ.out
      rw [hk] at HQ2
      unfold QL at HQ2
      rw [if_pos rfl] at HQ2
      obtain ⟨A5, m5, q5, rfl⟩ := HQ2.slice3
      have HQ2 := Lib.hid HQ2
      have HK := Lib.hid hk
      clear HQ hk
      go_wp2_with fail
      go_ret2
      rw [HK.out]
      exact ⟨.slice A5 m5 q5, rfl, by unfold QL; rw [if_pos rfl]; exact HQ2.out, HBW.out⟩
    | false =>
      have HK := Lib.hid hk
      clear hk
      go_wp2_with fail
      go_ret2
      rw [HK.out]
      exact ⟨.slice none 0 0, rfl, by unfold QL; rw [if_neg (by decide)], HBW.out⟩

set_option maxHeartbeats 1000000 in
theorem pathOf_err (sv se : Value) (V : List Int) (E : List Ed) (u v c : Int) (w : World) (B : Nat) (hv : RI w B sv V) (he : RE w B se E) (hB : B ≤ w.heap.size) (hc : chkV V E [u, v] = c) (h0 : c ≠ 0) :
    Calls Tryz.prog 53 #[netV sv se, .int .i64 u, .int .i64 v] w fun e w' => e = .returned (.tuple #[.slice none 0 0, .int .i64 c]) ∧ Below w.heap.size w w' := by
  have HC := Lib.hid hc
  have HV := Lib.hid hv
  have HE := Lib.hid he
  clear hc hv he
  go_enter Tryz.func53, Tryz.ntmps53
  go_wp2_with fail
  refine (checkVerts_any _ _ _ V E [u, v] _ B (w.heap.size + 2) ((HV.out.alloc hB _).alloc (by simp; omega) _) ((HE.out.alloc hB _).alloc (by simp; omega) _) (by simp; omega) (RI.lit _ _ _ _ _ [u, v] 2 2 (by simp) rfl rfl (by simp) (by simp) (by simp) (by omega)) (by simp)).mono ?_
  rw [HC.out]
  rintro e w1 ⟨rfl, hb⟩
  have HB1 : Hid (Below (w.heap.size + 1) (w.alloc (.cells #[sv, se] 25)) w1) := ((Below.refl _ _).alloc (by simp) _).trans (hb.mono (by simp))
  clear hb
  go_wp2_with fail
  go_ret2
  exact ⟨rfl, ((Below.refl _ _).alloc (Nat.le_refl _) _).trans (HB1.out.mono (by omega))⟩

/-- pathOf, whatever is asked: an error's number, or the path. -/
theorem pathOf_no (sv se : Value) (V : List Int) (E : List Ed) (u v c : Int) (w : World) (B : Nat) (hv : RI w B sv V) (he : RE w B se E) (hB : B ≤ w.heap.size) (hc : pathErr V E u v = c) (h0 : c ≠ 0) :
    Calls Tryz.prog 53 #[netV sv se, .int .i64 u, .int .i64 v] w fun e w' => e = .returned (.tuple #[.slice none 0 0, .int .i64 c]) ∧ Below w.heap.size w w' := by
  unfold pathErr at hc
  by_cases h : chkV V E [u, v] = 0
  · rw [if_pos h] at hc
    have hk : pathK V E u v = false := by
      cases hk : pathK V E u v with
      | true => rw [hk] at hc; exact absurd hc.symm h0
      | false => rfl
    refine (pathOf_chk sv se V E u v w B hv he hB h).mono ?_
    rintro e w' ⟨lv, rfl, hq, hb⟩
    rw [hk] at hq hc ⊢
    unfold QL at hq
    rw [if_neg (by decide)] at hq
    subst hq hc
    exact ⟨rfl, hb⟩
  · rw [if_neg h] at hc
    exact pathOf_err sv se V E u v c w B hv he hB hc h0
theorem pathErr_zero {V : List Int} {E : List Ed} {u v : Int} (h : pathErr V E u v = 0) : chkV V E [u, v] = 0 ∧ pathK V E u v = true := by
  unfold pathErr at h
  by_cases h1 : chkV V E [u, v] = 0
  · rw [if_pos h1] at h
    refine ⟨h1, ?_⟩
    cases hk : pathK V E u v with
    | true => rfl
    | false => rw [hk] at h; simp [errK] at h
  · rw [if_neg h1] at h; exact absurd h h1
theorem pathOf_ok (sv se : Value) (V : List Int) (E : List Ed) (u v : Int) (w : World) (B : Nat) (hv : RI w B sv V) (he : RE w B se E) (hB : B ≤ w.heap.size) (hc : pathErr V E u v = 0) :
    Calls Tryz.prog 53 #[netV sv se, .int .i64 u, .int .i64 v] w fun e w' => ∃ lv, e = .returned (.tuple #[lv, .int .i64 0]) ∧ OK encE 4 47 w' w.heap.size lv (pathL V E u v) ∧ Below w.heap.size w w' := by
  obtain ⟨h1, hk⟩ := pathErr_zero hc
  refine (pathOf_chk sv se V E u v w B hv he hB h1).mono ?_
  rintro e w' ⟨lv, rfl, hq, hb⟩
  rw [hk] at hq ⊢
  unfold QL at hq
  rw [if_pos rfl] at hq
  exact ⟨lv, rfl, hq, hb⟩

set_option maxHeartbeats 1000000 in
theorem Path_no (sv se : Value) (V : List Int) (E : List Ed) (u v c : Int) (w : World) (B : Nat) (hv : RI w B sv V) (he : RE w B se E) (hB : B ≤ w.heap.size) (hc : pathErr V E u v = c) (h0 : c ≠ 0) :
    Calls Tryz.prog 19 #[netV sv se, .int .i64 u, .int .i64 v] w fun e w' => e = .returned (.tuple #[.slice none 0 0, .int .i64 c]) ∧ Below w.heap.size w w' := by
  have HC := Lib.hid hc
  have HV := Lib.hid hv
  have HE := Lib.hid he
  clear hc hv he
  go_enter Tryz.func19, Tryz.ntmps19
  go_wp2_with fail
  refine (pathOf_no _ _ V E u v c _ B (HV.out.alloc hB _) (HE.out.alloc hB _) (by simp; omega) HC.out h0).mono ?_
  rintro e w1 ⟨rfl, hb⟩
  have HB1 : Hid (Below w.heap.size w w1) := ((Below.refl _ _).alloc (Nat.le_refl _) _).trans (hb.mono (by simp))
  clear hb
  go_wp2_with fail
  go_ret2
  exact ⟨rfl, HB1.out⟩

theorem Went.back_len {f : Ed → Nat × Nat} {T : List Ed} {n s : Nat} {b : Bs} : ∀ (fuel x : Nat), (backL b.last s fuel x).length ≤ fuel
  | 0, x => by simp [backL]
  | m + 1, x => by
    unfold backL
    split
    · simp
    · have := Went.back_len (f := f) (T := T) (n := n) (s := s) (b := b) m (lst b.last x).1
      simp; omega

set_option maxHeartbeats 1000000 in
theorem Path_ok (sv se : Value) (V : List Int) (E : List Ed) (u v : Int) (w : World) (B : Nat) (hv : RI w B sv V) (he : RE w B se E) (hB : B ≤ w.heap.size) (hc : pathErr V E u v = 0) :
    Calls Tryz.prog 19 #[netV sv se, .int .i64 u, .int .i64 v] w fun e w' => ∃ lv, e = .returned (.tuple #[lv, .int .i64 0]) ∧ OK encI 1 3 w' w.heap.size lv ((pathL V E u v).map (·.id)) ∧ Below w.heap.size w w' := by
  have hvl := (right_of (chk_zero (pathErr_zero hc).1).1).vlen
  have hpl : (pathL V E u v).length ≤ V.length := Went.back_len (f := plE V) (T := []) (n := 0) _ _
  have HC := Lib.hid hc
  have HV := Lib.hid hv
  have HE := Lib.hid he
  clear hc hv he
  go_enter Tryz.func19, Tryz.ntmps19
  go_wp2_with fail
  refine (pathOf_ok _ _ V E u v _ B (HV.out.alloc hB _) (HE.out.alloc hB _) (by simp; omega) HC.out).mono ?_
  rintro e w1 ⟨lv, rfl, ho, hb⟩
  have HB1 : Hid (Below w.heap.size w w1) := ((Below.refl _ _).alloc (Nat.le_refl _) _).trans (hb.mono (by simp))
  have HRE : Hid (RE w1 w1.heap.size lv (pathL V E u v)) := ho.rk encE_len (Nat.le_refl _)
  have hz1 := HB1.out.size
  clear hb ho
  go_wp2_with fail
  refine (idsOf_any lv (pathL V E u v) _ _ HRE.out (Nat.le_refl _) (by omega)).mono ?_
  rintro e w2 ⟨iv, rfl, ho2, hb2⟩
  have HO2 := Lib.hid ho2
  have HB2 : Hid (Below w.heap.size w w2) := HB1.out.trans (hb2.mono hz1)
  clear ho2 hb2
  go_wp2_with fail
  go_ret2
  exact ⟨iv, rfl, HO2.out.base (by omega), HB2.out⟩
end Go.Proofs.YtghacfhpafbdmaaGreat
