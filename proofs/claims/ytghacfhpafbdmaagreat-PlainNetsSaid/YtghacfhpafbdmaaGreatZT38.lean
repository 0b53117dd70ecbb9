/-
  The walks of skeinref05.TwinNet and of the law's twice.
-/
import Derived.Test.YtghacfhpafbdmaaGreatZT36
namespace Go.Proofs.YtghacfhpafbdmaaGreat
open Go.RowKit
set_option linter.unusedVariables false

/-- A net is made at p: its edges so far are L. -/
structure TwN (w wr : World) (p : Nat) (sv se v0 x : Value) (V : List Int) (L : List Ed) : Prop where
  b0 : Blk wr w.heap.size 25 #[sv, se]
  b1 : Blk wr (w.heap.size + 1) 25 #[.slice none 0 0, .slice none 0 0]
  nb : Blk wr p 25 #[v0, x]
  lo : w.heap.size + 1 < p
  low : Below w.heap.size w wr
  vrow : OK encI 1 3 wr w.heap.size v0 V
  row : OK encE 4 47 wr p x L

section
variable {w wr w4 w' : World} {p : Nat} {sv se v0 x v' : Value} {V : List Int} {L L' : List Ed}

theorem TwN.ne (h : TwN w wr p sv se v0 x V L) : ∀ k, k ≤ p → some k ≠ x.ownBlock := by
  intro k hk e
  have h1 := (h.row.lt k e.symm).1
  obtain rfl : k = p := by omega
  obtain ⟨cs2, h2⟩ := h.row.blk e.symm
  exact absurd rfl (h2.ne_ h.nb (by decide))

theorem TwN.step (h : TwN w wr p sv se v0 x V L) (hb : Below wr.heap.size wr w') : TwN w w' p sv se v0 x V L :=
  ⟨h.b0.below hb h.b0.lt, h.b1.below hb h.b1.lt, h.nb.below hb h.nb.lt, h.lo, h.low.trans (hb.mono h.low.size), h.vrow.below hb, h.row.below hb⟩

theorem TwN.push (h : TwN w wr p sv se v0 x V L) (hG : wr.grownBy w4 x.ownBlock) (ho : OK encE 4 47 w4 p v' L') : TwN w (w4.setCell ⟨p, 1, none⟩ v') p sv se v0 v' V L' := by
  have hlo := h.lo
  have nb := h.nb.grown hG (h.ne p (Nat.le_refl _))
  have hv := h.vrow.kept hG (own_ne h.vrow h.row (by decide))
  have b0 := h.b0.grown hG (h.ne _ (by omega))
  have b1 := h.b1.grown hG (h.ne _ (by omega))
  refine ⟨b0.far (p := ⟨p, 1, none⟩) (show w.heap.size ≠ p by omega) _, b1.far (p := ⟨p, 1, none⟩) (show w.heap.size + 1 ≠ p by omega) _, by simpa using nb.set_ 1 v', hlo, ?_, hv.farCell (ownNe hv nb (by decide)) _, ho.farCell (ownNe ho nb (by decide)) _⟩
  exact (h.low.grown hG h.low.size (fun k hk => by have := (h.row.lt k hk).1; omega)).setCell (p := ⟨p, 1, none⟩) (show w.heap.size ≤ p by omega) _
where
  ownNe {α : Type} {enc : α → List Value} {k E g t : Nat} {w : World} {B : Nat} {v : Value} {xs : List α} {cs : Array Value} (h : OK enc k E w B v xs) (hb : Blk w g t cs) (hne : E ≠ t) : v.ownBlock = none ∨ v.ownBlock ≠ some g :=
    .inr (h.ne_blk hb hne)
end

set_option maxRecDepth 100000 in
set_option maxHeartbeats 8000000 in
theorem TwinNet_any (sv se : Value) (V : List Int) (E : List Ed) (w : World) (B : Nat) (hv : RI w B sv V) (he : RE w B se E) (hB : B ≤ w.heap.size) (hlV : V.length ≤ 100000) (hlE : E.length ≤ 100000) :
    Calls Tryz.prog 11 #[netV sv se] w fun e w' => ∃ sv' se', e = .returned (netV sv' se') ∧ RI w' w'.heap.size sv' V ∧ RE w' w'.heap.size se' E ∧ Below w.heap.size w w' := by
  have HV := Lib.hid (hv.more hB)
  have HE := Lib.hid (he.more hB)
  obtain ⟨Av, cv, rfl, -, -, -, -⟩ := HV.out.open_
  obtain ⟨Ae, ce, rfl, -, -, -, HC⟩ := HE.out.open_
  clear hv he
  obtain ⟨nv, hnv⟩ : ∃ n, n = V.length := ⟨_, rfl⟩
  obtain ⟨n, hn⟩ : ∃ n, n = E.length := ⟨_, rfl⟩
  rw [← hnv] at HV ⊢
  rw [← hn] at HE hlE ⊢
  have HN := Lib.hid hn
  have HLV := Lib.hid hlV
  clear hnv hn hlV
  obtain ⟨W, hW⟩ : ∃ W, W = (w.alloc (.cells #[.slice Av nv cv, .slice Ae n ce] 25)).alloc (.cells #[.slice none 0 0, .slice none 0 0] 25) := ⟨_, rfl⟩
  have hb0 : Blk W w.heap.size 25 #[.slice Av nv cv, .slice Ae n ce] := by rw [hW]; exact (Blk.new _ _ _).alloc _
  have hb1 : Blk W (w.heap.size + 1) 25 #[.slice none 0 0, .slice none 0 0] := by
    have := Blk.new (w.alloc (.cells #[.slice Av nv cv, .slice Ae n ce] 25)) 25 #[.slice none 0 0, .slice none 0 0]
    rw [hW]; simpa using this
  have hbl : Below w.heap.size w W := by rw [hW]; exact ((Below.refl _ _).alloc (Nat.le_refl _) _).alloc (by simp) _
  have HW := Lib.hid hW
  have HB0 := Lib.hid hb0
  have HB1 := Lib.hid hb1
  have HBL := Lib.hid hbl
  clear hW hb0 hb1 hbl
  go_enter Tryz.func11, Tryz.ntmps11
  go_upto_region 1 with fail
  rw [← HW.out]
  have c0 := HB0.out.cell 0
  have c1 := HB0.out.cell 1
  have hzW := HB1.out.lt
  go_wp2_with fail
  refine (CopyInts_any _ V _ W.heap.size ((HV.out.below HBL.out).more (by omega)) (Nat.le_refl _) HLV.out).mono ?_
  rintro e w2 ⟨v0, rfl, ho, hb⟩
  obtain ⟨A0, n0, c0', rfl⟩ := ho.slice3
  have HO := Lib.hid ho
  have HB := Lib.hid hb
  clear ho hb c0 c1
  have hz2 := HB.out.size
  have HS0 : Hid (TwN w (w2.alloc (.cells #[.slice A0 n0 c0', .slice none 0 0] 25)) w2.heap.size (.slice Av nv cv) (.slice Ae n ce) (.slice A0 n0 c0') (.slice none 0 0) V []) := Lib.hid
    ⟨(HB0.out.below HB.out (by omega)).alloc _, (HB1.out.below HB.out hzW).alloc _, Blk.new _ _ _, by omega, (HBL.out.trans (HB.out.mono (by omega))).alloc (by omega) _, (HO.out.base (by omega)).alloc _, OK.nil _ _⟩
  obtain ⟨p, hp⟩ : ∃ p, p = w2.heap.size := ⟨_, rfl⟩
  go_wp2_with fail
  rw [← hp] at HS0 ⊢
  clear hp
  go_loopw [4] (fun i wr => ∃ (k : Nat) (A : Option Addr) (m c : Nat), k ≤ n ∧ i = .int .i64 k ∧ Hid (TwN w wr p (.slice Av nv cv) (.slice Ae n ce) (.slice A0 n0 c0') (.slice A m c) V (E.take k))) (fun i _ => n - (intOf i).toNat)
  case atStart => exact ⟨0, none, 0, 0, Nat.zero_le _, rfl, HS0⟩
  case round =>
    clear HS0
    obtain ⟨k, A, m, cc, hk, rfl, HS⟩ := hrel
    have d0 := HS.out.b0.cell 0
    have d1 := HS.out.b0.cell 1
    by_cases hkn : k < n
    · have hkv : k < E.length := by have := HN.out; omega
      obtain ⟨b1, o1, rfl, hb1, hx⟩ := HC.out k hkv
      obtain ⟨⟨xi, p1, p2, p3⟩, hy⟩ : ∃ y, y = E[k] := ⟨_, rfl⟩
      have HTK := Lib.hid (List.take_succ_eq_append_getElem hkv)
      rw [← hy] at hx HTK
      obtain ⟨z0, z1, z2, z3⟩ := cellE hx
      dsimp only at z0 z1 z2 z3
      have x0 := (HS.out.low.cell (p := ⟨b1, o1 + k * 4, none⟩) hb1).trans z0
      have x1 := (HS.out.low.cell (p := ⟨b1, o1 + k * 4 + 1, none⟩) hb1).trans z1
      have x2 := (HS.out.low.cell (p := ⟨b1, o1 + k * 4 + 2, none⟩) hb1).trans z2
      have x3 := (HS.out.low.cell (p := ⟨b1, o1 + k * 4 + 3, none⟩) hb1).trans z3
      have hkd : (k : Int) < (n : Int) := by omega
      clear hx hy z0 z1 z2 z3
      go_wp2_with fail
      have n1' := HS.out.nb.cell 1
      have n1a : (wr.alloc (.cells #[.int .i64 xi, .int .i64 p1, .int .i64 p2, .int .i64 p3] 47)).cell? ⟨p, 1, none⟩ = some (.slice A m cc) := (((Below.refl _ wr).alloc (Nat.le_refl _) _).cell (p := ⟨p, 1, none⟩) HS.out.nb.lt).trans n1'
      have HL18 : Hid ((E.take k).length + 1 ≤ 1000000) := Lib.hid (by rw [List.length_take]; omega)
      have ROW18 := Lib.hid HS.out.row
      have PZ18 : Hid (p < wr.heap.size) := Lib.hid HS.out.nb.lt
      have HG18 : Hid (∀ w4, (wr.drew.alloc (.cells #[.int .i64 xi, .int .i64 p1, .int .i64 p2, .int .i64 p3] 47)).grownBy w4 (Value.slice A m cc).ownBlock → wr.grownBy w4 (Value.slice A m cc).ownBlock) := Lib.hid fun w4 h2 => grownBy_trans (grownBy_below ((Below.refl _ wr).drew.alloc (Nat.le_refl _) _)) h2
      have HNB18 : Hid (∀ w4, wr.grownBy w4 (Value.slice A m cc).ownBlock → Blk w4 p 25 #[.slice A0 n0 c0', .slice A m cc]) := Lib.hid fun w4 h2 => HS.out.nb.grown h2 (HS.out.ne p (Nat.le_refl _))
      go_region_law (first
        | (refine step_app1 etEdges encE_len encE_one rfl (.tmp 17) (.tmp 23) rfl rfl (ROW18.out.drew.alloc _) wr.heap.size rfl (y := (⟨xi, p1, p2, p3⟩ : Ed)) (oneE wr ⟨xi, p1, p2, p3⟩ _) HL18.out (by have := PZ18.out; simp; omega) ?_; intro v' w4 h1 h2 h3; have G4 := Lib.hid (HG18.out w4 h2); have e3 := (HNB18.out w4 G4.out).cell 1; have e5 := (HNB18.out w4 G4.out).frozen 1; obtain ⟨A7, n7, c7, hv2⟩ := h1.slice3; have O4 := Lib.hid h1; subst hv2; clear h1 h2 h3))
      all_goals (
        go_wp2_with fail
        go_roundw
        case rel => exact ⟨k + 1, A7, n7, c7, by omega, by go_num, Lib.hid (by rw [HTK.out]; exact HS.out.push G4.out O4.out)⟩
        case measure => simp [intOf]; omega)
    · obtain rfl : k = n := by omega
      have hkd : decide ((k : Int) < (k : Int)) = false := by simp
      have n0c := HS.out.nb.cell 0
      have n1c := HS.out.nb.cell 1
      have r0 := HS.out.b1.cell 0
      have r1 := HS.out.b1.cell 1
      have f0 := HS.out.b1.frozen 0
      have f1 := HS.out.b1.frozen 1
      have hne : ¬ p = w.heap.size + 1 := by have := HS.out.lo; omega
      go_wp2_with fail
      have hfin := (HS.out.b1.set_ 0 (.slice A0 n0 c0')).set_ 1 (.slice A m cc)
      refine ret_cell1 (p := 2) (v := netV (.slice A0 n0 c0') (.slice A m cc)) rfl rfl ?_ rfl ?_
      · have k0 : ((wr.setCell ⟨w.heap.size + 1, 0, none⟩ (.slice A0 n0 c0')).setCell ⟨w.heap.size + 1, 1, none⟩ (.slice A m cc)).cell? ⟨w.heap.size + 1, 0, none⟩ = some (.slice A0 n0 c0') := hfin.cell 0
        have k1 : ((wr.setCell ⟨w.heap.size + 1, 0, none⟩ (.slice A0 n0 c0')).setCell ⟨w.heap.size + 1, 1, none⟩ (.slice A m cc)).cell? ⟨w.heap.size + 1, 1, none⟩ = some (.slice A m cc) := hfin.cell 1
        unfold netV
        go_simp
      · have hlo := HS.out.lo
        have hB2 : Below (w.heap.size + 1) wr ((wr.setCell ⟨w.heap.size + 1, 0, none⟩ (.slice A0 n0 c0')).setCell ⟨w.heap.size + 1, 1, none⟩ (.slice A m cc)) := ((Below.refl _ _).setCell (p := ⟨w.heap.size + 1, 0, none⟩) (Nat.le_refl _) _).setCell (p := ⟨w.heap.size + 1, 1, none⟩) (Nat.le_refl _) _
        have hzz := hB2.size
        have hvr := (HS.out.vrow.farCell (b := w.heap.size + 1) (i := 0) (.inr (HS.out.vrow.ne_blk HS.out.b1 (by decide))) (.slice A0 n0 c0')).farCell (b := w.heap.size + 1) (i := 1) (.inr (HS.out.vrow.ne_blk HS.out.b1 (by decide))) (.slice A m cc)
        have her := (HS.out.row.farCell (b := w.heap.size + 1) (i := 0) (.inr (HS.out.row.ne_blk HS.out.b1 (by decide))) (.slice A0 n0 c0')).farCell (b := w.heap.size + 1) (i := 1) (.inr (HS.out.row.ne_blk HS.out.b1 (by decide))) (.slice A m cc)
        rw [List.take_of_length_le (by have := HN.out; omega)] at her
        exact ⟨_, _, rfl, hvr.rk encI_len (Nat.le_refl _), her.rk encE_len (Nat.le_refl _), HS.out.low.trans (hB2.mono (by omega))⟩

set_option maxRecDepth 100000 in
set_option maxHeartbeats 8000000 in
theorem twice_any (va vb vw : Value) (V : List Int) (w : World) (Ba Bb Bw : Nat) (ha : OK encI 1 3 w Ba va V) (hb : OK encI 1 3 w Bb vb V) (hw : OK encI 1 3 w Bw vw V) (h1 : ∀ g, va.ownBlock = some g → g < Bb) (h2 : ∀ g, va.ownBlock = some g → g < Bw) :
    Calls Tryz.prog 18 #[va, vb, vw] w fun e w' => e = .returned (.bool true) ∧ w.grownBy w' va.ownBlock := by
  obtain ⟨A, c, rfl⟩ := ha.slice
  obtain ⟨A2, c2, rfl⟩ := hb.slice
  obtain ⟨A3, c3, rfl⟩ := hw.slice
  obtain ⟨n, hn⟩ : ∃ n, n = V.length := ⟨_, rfl⟩
  rw [← hn] at ha hb hw h1 h2 ⊢
  have hnl : n ≤ 140737488355328 := by have := ha.len; omega
  have HA := Lib.hid ha
  have HB := Lib.hid hb
  have HW := Lib.hid hw
  have HN := Lib.hid hn
  have H1 : Hid ((Value.slice A2 n c2).ownBlock = none ∨ ∀ g, (Value.slice A n c).ownBlock = some g → (Value.slice A2 n c2).ownBlock ≠ some g) := Lib.hid (.inr fun g hg e => by have := h1 g hg; have := (hb.lt g e).1; omega)
  have H2 : Hid ((Value.slice A3 n c3).ownBlock = none ∨ ∀ g, (Value.slice A n c).ownBlock = some g → (Value.slice A3 n c3).ownBlock ≠ some g) := Lib.hid (.inr fun g hg e => by have := h2 g hg; have := (hw.lt g e).1; omega)
  clear ha hb hw hn h1 h2
  go_enter Tryz.func18, Tryz.ntmps18
  go_wp2_with fail
  refine (SameInts_yes _ _ V _ _ _ (HA.out.rk encI_len (Nat.le_refl _)) (HW.out.rk encI_len (Nat.le_refl _))).mono ?_
  rintro e w1 ⟨rfl, q1, rfl⟩
  go_wp2_with fail
  refine (SameInts_yes _ _ V _ w.heap.size w.heap.size ((HB.out.rk encI_len (Nat.le_refl _)).drewN q1) ((HW.out.rk encI_len (Nat.le_refl _)).drewN q1)).mono ?_
  rintro e w2 ⟨rfl, q2, hw2⟩
  rw [World.drewN_drewN] at hw2
  obtain ⟨q, hq⟩ : ∃ q, w2 = w.drewN q := ⟨_, hw2⟩
  have HL : Hid (w.grownBy w2 (Value.slice A n c).ownBlock) := Lib.hid (by rw [hq]; exact grownBy_below (below_drewN (Below.refl _ _) q))
  have HA2 : Hid (OK encI 1 3 w2 Ba (.slice A n c) V) := Lib.hid (by rw [hq]; exact HA.out.drewN q)
  have HB2 : Hid (OK encI 1 3 w2 Bb (.slice A2 n c2) V) := Lib.hid (by rw [hq]; exact HB.out.drewN q)
  have HW2 : Hid (OK encI 1 3 w2 Bw (.slice A3 n c3) V) := Lib.hid (by rw [hq]; exact HW.out.drewN q)
  clear hq hw2 HA HB HW
  go_wp2_with fail
  go_loopw [20] (fun i wr => ∃ (k : Nat) (U : List Int), k ≤ n ∧ i = .int .i64 k ∧ Hid (U.length = n) ∧ Hid (w.grownBy wr (Value.slice A n c).ownBlock) ∧ Hid (OK encI 1 3 wr Ba (.slice A n c) U) ∧ Hid (OK encI 1 3 wr Bb (.slice A2 n c2) V) ∧ Hid (OK encI 1 3 wr Bw (.slice A3 n c3) V)) (fun i _ => n - (intOf i).toNat)
  case atStart => exact ⟨0, V, Nat.zero_le _, rfl, Lib.hid HN.out.symm, HL, HA2, HB2, HW2⟩
  case round =>
    clear HL HA2 HB2 HW2
    obtain ⟨k, U, hk, rfl, HU, HL, HA, HB, HW⟩ := hrel
    by_cases hkn : k < n
    · have hkv : k < U.length := by have := HU.out; omega
      obtain ⟨b5, c5, hsh, -, -⟩ := HA.out.shape (by omega)
      injection hsh with hs1 _ hs2
      subst hs1 hs2
      obtain ⟨x, hx⟩ : ∃ x, x = U[k] := ⟨_, rfl⟩
      have HX : Hid (U[k]? = some x) := Lib.hid (by rw [hx]; exact List.getElem?_eq_getElem hkv)
      have y3 : wr.cell? ⟨b5, k, none⟩ = some (.int .i64 x) := by
        have := HA.out.cellK encI_len (i := k) (j := 0) HX.out rfl
        simpa using this
      have y4 : wr.frozen? ⟨b5, k, none⟩ = false := HA.out.frozenK k
      have HO1 : Hid (OK encI 1 3 (wr.setCell ⟨b5, k, none⟩ (.int .i64 (-5))) Ba (.slice (some ⟨b5, 0, none⟩) n c) (U.set k (-5))) := Lib.hid (by
        have := HA.out.setK encI_len (i := k) (j := 0) (x := x) (x' := -5) (u := .int .i64 (-5)) HX.out (by omega) rfl
        simpa using this)
      have hkd : (k : Int) < (n : Int) := by omega
      clear hx
      go_wp2_with fail
      go_roundw
      case rel =>
        exact ⟨k + 1, U.set k (-5), by omega, by go_num, Lib.hid (by rw [List.length_set]; exact HU.out), Lib.hid (grownBy_trans HL.out (grownBy_set b5 k _)), HO1, Lib.hid (HB.out.farCell (H1.out.imp id fun h => h b5 rfl) _), Lib.hid (HW.out.farCell (H2.out.imp id fun h => h b5 rfl) _)⟩
      case measure => simp [intOf]; omega
    · obtain rfl : k = n := by omega
      have hkd : decide ((k : Int) < (k : Int)) = false := by simp
      go_wp2_with fail
      refine (SameInts_yes _ _ V _ _ _ (HB.out.rk encI_len (Nat.le_refl _)) (HW.out.rk encI_len (Nat.le_refl _))).mono ?_
      rintro e w5 ⟨rfl, q5, rfl⟩
      go_wp2_with fail
      go_ret
      exact ⟨rfl, grownBy_trans HL.out (grownBy_below (below_drewN (Below.refl _ _) q5))⟩

end Go.Proofs.YtghacfhpafbdmaaGreat

/-
  Each call that PlainNets makes, right or not: the program's and the document's answer alike; equality of Along's answers.
-/
namespace Go.Proofs.YtghacfhpafbdmaaGreat
open Go.RowKit
set_option linter.unusedVariables false

theorem run_eqA (W : World) (d : Nat) (i u v x : Int) (re im : Nat) (h1 : FloatKind.f64.format.order re re = some .eq) (h2 : FloatKind.f64.format.order im im = some .eq) :
    (Op.equalIn (d + 3) 50 (.agg #[.int .i64 i, .int .i64 u, .int .i64 v, .int .i64 x, .complex .f64 re im]) (.agg #[.int .i64 i, .int .i64 u, .int .i64 v, .int .i64 x, .complex .f64 re im])).run Tryz.prog W = .ok true W := by
  have hC : ∀ w, (Op.equalIn (d + 2) 48 (.complex .f64 re im) (.complex .f64 re im)).run Tryz.prog w = .ok true w := by
    intro w
    rw [Op.equalIn]
    simp only [run_underlying Tryz.underlying48, Sem.run_bind, Result.andThen_ok]
    have e1 : Op.floatEq .f64 re re = true := by unfold Op.floatEq; rw [h1]; simp
    have e2 : Op.floatEq .f64 im im = true := by unfold Op.floatEq; rw [h2]; simp
    simp [e1, e2]
  have hE := fun w => run_eqE w d i u v x
  rw [Op.equalIn]
  simp only [run_underlying Tryz.underlying50, Sem.run_bind, Result.andThen_ok]
  simp [go_sem, hC, hE]

theorem run_neA (W : World) (i u v x : Int) (re im : Nat) (h1 : FloatKind.f64.format.order re re = some .eq) (h2 : FloatKind.f64.format.order im im = some .eq) :
    (binOp .neq 50 (.agg #[.int .i64 i, .int .i64 u, .int .i64 v, .int .i64 x, .complex .f64 re im]) (.agg #[.int .i64 i, .int .i64 u, .int .i64 v, .int .i64 x, .complex .f64 re im])).run Tryz.prog W = .ok (.bool false) W := by
  simp [binOp, go_sem]
  unfold Op.equal
  rw [show Op.maxDepth = 9997 + 3 from rfl, run_eqA W 9997 i u v x re im h1 h2]; rfl

section
variable (sv se : Value) (V : List Int) (E : List Ed) (u v : Int) (w : World) (B : Nat)

theorem chkN_any (hv : RI w B sv V) (he : RE w B se E) (hB : B ≤ w.heap.size) :
    Calls Tryz.prog 9 #[netV sv se] w fun e w' => e = .returned (.int .i64 (refChk V E)) ∧ Below w.heap.size w w' := by
  cases hr : rightN V E with
  | true => rw [refChk_yes hr]; exact check_ok sv se V E w B hv he hB hr
  | false => rw [refChk_no hr]; exact check_no sv se V E w B hv he hB hr

/-- What Joined answers. -/
def joinV (V : List Int) (E : List Ed) (u v : Int) : Bool := if chkV V E [u, v] = 0 then joinedB V E u v else false

theorem joinN_any (hv : RI w B sv V) (he : RE w B se E) (hB : B ≤ w.heap.size) :
    Calls Tryz.prog 12 #[netV sv se, .int .i64 u, .int .i64 v] w fun e w' => e = .returned (.tuple #[.bool (joinV V E u v), .int .i64 (chkV V E [u, v])]) ∧ Below w.heap.size w w' := by
  unfold joinV
  by_cases h : chkV V E [u, v] = 0
  · rw [if_pos h, h]; exact Joined_ok sv se V E u v w B hv he hB h
  · rw [if_neg h]; exact Joined_no sv se V E u v _ w B hv he hB rfl h

theorem joinR_any (hv : RI w B sv V) (he : RE w B se E) (hB : B ≤ w.heap.size) :
    Calls Tryz.prog 13 #[netV sv se, .int .i64 u, .int .i64 v] w fun e w' => e = .returned (.tuple #[.bool (joinV V E u v), .int .i64 (chkV V E [u, v])]) ∧ Below w.heap.size w w' := by
  unfold joinV
  by_cases h : chkV V E [u, v] = 0
  · rw [if_pos h, h]; exact refJoined_ok sv se V E u v w B hv he hB h
  · rw [if_neg h]; exact refJoined_no sv se V E u v _ w B hv he hB rfl h

/-- What Forest answers. -/
def forV (V : List Int) (E : List Ed) : List Int := if rightN V E = true then forestL V E else []

theorem forN_any (hv : RI w B sv V) (he : RE w B se E) (hB : B ≤ w.heap.size) :
    Calls Tryz.prog 14 #[netV sv se] w fun e w' => ∃ lv, e = .returned (.tuple #[lv, .int .i64 (refChk V E)]) ∧ OK encI 1 3 w' w.heap.size lv (forV V E) ∧ Below w.heap.size w w' := by
  unfold forV
  cases hr : rightN V E with
  | true => rw [refChk_yes hr, if_pos rfl]; exact Forest_ok sv se V E w B hv he hB hr
  | false =>
    rw [refChk_no hr, if_neg (by decide)]
    exact (Forest_no sv se V E w B hv he hB hr).mono fun e w' h => ⟨_, h.1, OK.nil _ _, h.2⟩

theorem forR_any (hv : RI w B sv V) (he : RE w B se E) (hB : B ≤ w.heap.size) :
    Calls Tryz.prog 15 #[netV sv se] w fun e w' => ∃ lv, e = .returned (.tuple #[lv, .int .i64 (refChk V E)]) ∧ OK encI 1 3 w' w.heap.size lv (forV V E) ∧ Below w.heap.size w w' := by
  unfold forV
  cases hr : rightN V E with
  | true => rw [refChk_yes hr, if_pos rfl]; exact refForest_ok sv se V E w B hv he hB hr
  | false =>
    rw [refChk_no hr, if_neg (by decide)]
    exact (refForest_no sv se V E w B hv he hB hr).mono fun e w' h => ⟨_, h.1, OK.nil _ _, h.2⟩

/-- What Weight answers. -/
def weiV (V : List Int) (E : List Ed) : Value := if rightN V E = true then toldT (weightV V E) else .tuple #[.int .i64 0, .int .i64 60]

theorem weiN_any (hv : RI w B sv V) (he : RE w B se E) (hB : B ≤ w.heap.size) :
    Calls Tryz.prog 16 #[netV sv se] w fun e w' => e = .returned (weiV V E) ∧ Below w.heap.size w w' := by
  unfold weiV
  cases hr : rightN V E with
  | true => rw [if_pos rfl]; exact Weight_ok sv se V E w B hv he hB hr
  | false => rw [if_neg (by decide)]; exact Weight_no sv se V E w B hv he hB hr

theorem weiR_any (hv : RI w B sv V) (he : RE w B se E) (hB : B ≤ w.heap.size) :
    Calls Tryz.prog 17 #[netV sv se] w fun e w' => e = .returned (weiV V E) ∧ Below w.heap.size w w' := by
  unfold weiV
  cases hr : rightN V E with
  | true => rw [if_pos rfl]; exact refWeight_ok sv se V E w B hv he hB hr
  | false => rw [if_neg (by decide)]; exact refWeight_no sv se V E w B hv he hB hr

theorem toldT_two (s : Int) : ∃ a b : Int, toldT s = .tuple #[.int .i64 a, .int .i64 b] := ⟨_, _, rfl⟩

theorem weiV_two (V : List Int) (E : List Ed) : ∃ a b : Int, weiV V E = .tuple #[.int .i64 a, .int .i64 b] := by
  unfold weiV
  split
  · exact toldT_two _
  · exact ⟨_, _, rfl⟩

/-- What Span answers. -/
def spaV (V : List Int) (E : List Ed) (u : Int) : Value := if chkV V E [u] = 0 then toldT (spanV V E u) else .tuple #[.int .i64 0, .int .i64 (chkV V E [u])]

theorem spaN_any (hv : RI w B sv V) (he : RE w B se E) (hB : B ≤ w.heap.size) :
    Calls Tryz.prog 23 #[netV sv se, .int .i64 u] w fun e w' => e = .returned (spaV V E u) ∧ Below w.heap.size w w' := by
  unfold spaV
  by_cases h : chkV V E [u] = 0
  · rw [if_pos h]; exact Span_ok sv se V E u w B hv he hB h
  · rw [if_neg h]; exact Span_no sv se V E u _ w B hv he hB rfl h

theorem spaR_any (hv : RI w B sv V) (he : RE w B se E) (hB : B ≤ w.heap.size) :
    Calls Tryz.prog 24 #[netV sv se, .int .i64 u] w fun e w' => e = .returned (spaV V E u) ∧ Below w.heap.size w w' := by
  unfold spaV
  by_cases h : chkV V E [u] = 0
  · rw [if_pos h]; exact refSpan_ok sv se V E u w B hv he hB h
  · rw [if_neg h]; exact refSpan_no sv se V E u _ w B hv he hB rfl h

theorem spaV_two (V : List Int) (E : List Ed) (u : Int) : ∃ a b : Int, spaV V E u = .tuple #[.int .i64 a, .int .i64 b] := by
  unfold spaV
  split
  · exact toldT_two _
  · exact ⟨_, _, rfl⟩

theorem pathN_any (hv : RI w B sv V) (he : RE w B se E) (hB : B ≤ w.heap.size) :
    Calls Tryz.prog 19 #[netV sv se, .int .i64 u, .int .i64 v] w fun e w' => ∃ lv, e = .returned (.tuple #[lv, .int .i64 (pathErr V E u v)]) ∧ OK encI 1 3 w' w.heap.size lv ((pth V E u v).map (·.id)) ∧ Below w.heap.size w w' := by
  unfold pth
  by_cases h : pathErr V E u v = 0
  · rw [if_pos h, h]; exact Path_ok sv se V E u v w B hv he hB h
  · rw [if_neg h]
    exact (Path_no sv se V E u v _ w B hv he hB rfl h).mono fun e w' h => ⟨_, h.1, OK.nil _ _, h.2⟩

theorem pth_len (V : List Int) (E : List Ed) (u v : Int) : (pth V E u v).length ≤ 2048 := by
  unfold pth
  split
  · rename_i h
    have h2 := (path_known h).2.1.vlen
    have h3 : (pathL V E u v).length ≤ V.length := by unfold pathL; exact Went.back_len (f := plE V) (T := forE V E) (n := V.length) (s := pl V v) _ _
    omega
  · simp

theorem pathR_any (hv : RI w B sv V) (he : RE w B se E) (hB : B ≤ w.heap.size) :
    Calls Tryz.prog 20 #[netV sv se, .int .i64 u, .int .i64 v] w fun e w' => ∃ lv, e = .returned (.tuple #[lv, .int .i64 (pathErr V E u v)]) ∧ OK encI 1 3 w' w.heap.size lv ((pth V E u v).map (·.id)) ∧ Below w.heap.size w w' :=
  refPath_any sv se V E u v w B hv he hB (by have := pth_len V E u v; omega)

theorem alongN_any (hv : RI w B sv V) (he : RE w B se E) (hB : B ≤ w.heap.size) :
    Calls Tryz.prog 21 #[netV sv se, .int .i64 u, .int .i64 v] w fun e w' => e = .returned (alongV V E u v) ∧ Below w.heap.size w w' := by
  unfold alongV
  by_cases h : pathErr V E u v = 0
  · rw [if_pos h]; exact Along_ok sv se V E u v w B hv he hB h
  · rw [if_neg h]; exact Along_no sv se V E u v _ w B hv he hB rfl h

theorem ord_zero : FloatKind.f64.format.order 0 0 = some .eq := by kernel_rfl

theorem ord_fl {n : Nat} (h : n < 2 ^ 53) : FloatKind.f64.format.order (fl n) (fl n) = some .eq := (fl_order h h).trans (by simp)

/-- Along's answer: an edge, a sum that is equal to itself, and an error. -/
theorem alongV_open (V : List Int) (E : List Ed) (u v : Int) : ∃ (i u' v' x : Int) (re im : Nat) (g : Int), alongV V E u v = .tuple #[.agg #[.int .i64 i, .int .i64 u', .int .i64 v', .int .i64 x, .complex .f64 re im], .int .i64 g] ∧ FloatKind.f64.format.order re re = some .eq ∧ FloatKind.f64.format.order im im = some .eq := by
  unfold alongV
  split
  · rename_i h
    unfold alongT
    split
    · exact ⟨_, _, _, _, _, _, _, rfl, ord_zero, ord_zero⟩
    · rename_i hs
      refine ⟨_, _, _, _, _, _, _, rfl, ord_fl ?_, ord_fl ?_⟩
      · have : (2 : Nat) ^ 53 = 9007199254740992 := by decide
        omega
      · have h1 := pth_len V E u v
        unfold pth at h1
        rw [if_pos h] at h1
        have : (2 : Nat) ^ 53 = 9007199254740992 := by decide
        omega
  · exact ⟨_, _, _, _, _, _, _, rfl, ord_zero, ord_zero⟩

/-- What Trees answers. -/
def treV (V : List Int) (E : List Ed) : List (List Int) := if rightN V E = true then treesL V E else []

theorem RLs.nil (w : World) (B : Nat) : RLs w B (.slice none 0 0) [] := ⟨[], rfl, RK.nil _ _, fun i t l h => by simp at h⟩

theorem treN_any (hv : RI w B sv V) (he : RE w B se E) (hB : B ≤ w.heap.size) :
    Calls Tryz.prog 25 #[netV sv se] w fun e w' => ∃ lv, e = .returned (.tuple #[lv, .int .i64 (refChk V E)]) ∧ RLs w' w'.heap.size lv (treV V E) ∧ Below w.heap.size w w' := by
  unfold treV
  cases hr : rightN V E with
  | true => rw [refChk_yes hr, if_pos rfl]; exact trees_ok sv se V E w B hv he hB hr
  | false =>
    rw [refChk_no hr, if_neg (by decide)]
    exact (trees_no sv se V E w B hv he hB hr).mono fun e w' h => ⟨_, h.1, RLs.nil _ _, h.2⟩

theorem treR_any (hv : RI w B sv V) (he : RE w B se E) (hB : B ≤ w.heap.size) :
    Calls Tryz.prog 26 #[netV sv se] w fun e w' => ∃ lv, e = .returned (.tuple #[lv, .int .i64 (refChk V E)]) ∧ RLs w' w'.heap.size lv (treV V E) ∧ Below w.heap.size w w' := by
  unfold treV
  cases hr : rightN V E with
  | true => rw [refChk_yes hr, if_pos rfl]; exact refTrees_ok sv se V E w B hv he hB hr
  | false =>
    rw [refChk_no hr, if_neg (by decide)]
    exact (refTrees_no sv se V E w B hv he hB hr).mono fun e w' h => ⟨_, h.1, RLs.nil _ _, h.2⟩
end

end Go.Proofs.YtghacfhpafbdmaaGreat
