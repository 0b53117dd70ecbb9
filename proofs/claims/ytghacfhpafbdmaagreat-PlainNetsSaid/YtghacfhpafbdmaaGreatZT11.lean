/-
  The walk of skeinlaw06's PlainPaths.
-/
import Derived.Test.YtghacfhpafbdmaaGreatZT9
namespace Go.Proofs.YtghacfhpafbdmaaGreat
open Go.RowKit
set_option linter.unusedVariables false

theorem box_cells {w w1 : World} {sv se : Value} (hb : Below (w.heap.size + 1) (w.alloc (.cells #[sv, se] 25)) w1) : w1.cell? ⟨w.heap.size, 0, none⟩ = some sv ∧ w1.cell? ⟨w.heap.size, 1, none⟩ = some se :=
  ⟨(hb.cell (p := ⟨w.heap.size, 0, none⟩) (by show w.heap.size < _; omega)).trans (by simp), (hb.cell (p := ⟨w.heap.size, 1, none⟩) (by show w.heap.size < _; omega)).trans (by simp)⟩
theorem below_box {w w1 : World} {sv se : Value} (hb : Below (w.heap.size + 1) (w.alloc (.cells #[sv, se] 25)) w1) : Below w.heap.size w w1 := ((Below.refl _ _).alloc (Nat.le_refl _) _).trans (hb.mono (by omega))
theorem run_storeCp (P : Program) (w : World) (a : Addr) (m : Mode) (k : FloatKind) (x y : Nat) : (store a (.complex k x y) m).run P w = stored P w a (.complex k x y) m := run_store P w a _ m rfl
attribute [local go_sem] run_storeCp

set_option maxRecDepth 100000 in
set_option maxHeartbeats 4000000 in
theorem plainPaths_no (sv se : Value) (V : List Int) (E : List Ed) (u v c : Int) (w : World) (hv : RI w w.heap.size sv V) (he : RE w w.heap.size se E) (hc : pathErr V E u v = c) (h0 : ¬ c = 0) :
    Calls Tryz.prog 5 #[netV sv se, .int .i64 u, .int .i64 v] w fun e w' => e = .returned (.bool true) ∧ Below w.heap.size w w' := by
  have HC := Lib.hid hc
  have HC2 : Hid (pathErr V E v u = c) := (pathErr_symm V E u v).trans hc
  have tc1 : (c == 0) = false := by simpa using h0
  have tc2 : (c != 0) = true := by simpa using h0
  clear hc
  have HV := Lib.hid hv
  have HE := Lib.hid he
  clear hv he
  go_enter Tryz.func5, Tryz.ntmps5
  go_wp2_with fail
  refine (alive_any _).mono ?_
  rintro e w1 ⟨rfl, hb⟩
  have HB : Hid (Below (w.heap.size + 1) (w.alloc (.cells #[sv, se] 25)) w1) := hb.mono (by simp)
  have hz : w.heap.size + 1 ≤ w1.heap.size := by have := hb.size; simpa using this
  obtain ⟨b0, b1⟩ := box_cells HB.out
  clear hb
  go_wp2_with fail
  refine (Path_no _ _ V E u v c _ w.heap.size (HV.out.below (below_box HB.out)) (HE.out.below (below_box HB.out)) (by omega) HC.out h0).mono ?_
  rintro e w2 ⟨rfl, hb⟩
  have HB' : Hid (Below (w.heap.size + 1) (w.alloc (.cells #[sv, se] 25)) w2) := HB.out.trans (hb.mono (by omega))
  have hz' : w.heap.size + 1 ≤ w2.heap.size := Nat.le_trans hz hb.size
  clear HB hz b0 b1
  have HB := HB'
  have hz := hz'
  clear HB' hz'
  have hzl2 : w.heap.size < w2.heap.size := by omega
  obtain ⟨b0, b1⟩ := box_cells HB.out
  clear hb
  go_wp2_with fail
  refine (Path_no _ _ V E v u c _ w.heap.size (HV.out.below (below_box HB.out)) (HE.out.below (below_box HB.out)) (by omega) HC2.out h0).mono ?_
  rintro e w3 ⟨rfl, hb⟩
  have HB' : Hid (Below (w.heap.size + 1) (w.alloc (.cells #[sv, se] 25)) w3) := HB.out.trans (hb.mono (by omega))
  have hz' : w.heap.size + 1 ≤ w3.heap.size := Nat.le_trans hz hb.size
  clear HB hz b0 b1
  have HB := HB'
  have hz := hz'
  clear HB' hz'
  have hzl3 : w.heap.size < w3.heap.size := by omega
  obtain ⟨b0, b1⟩ := box_cells HB.out
  clear hb
  go_wp2_with fail
  refine (Along_no _ _ V E u v c _ w.heap.size (HV.out.below (below_box HB.out)) (HE.out.below (below_box HB.out)) (by omega) HC.out h0).mono ?_
  rw [aggZ_lit]
  rintro e w4 ⟨rfl, hb⟩
  have HB' : Hid (Below (w.heap.size + 1) (w.alloc (.cells #[sv, se] 25)) w4) := HB.out.trans (hb.mono (by omega))
  have hz' : w.heap.size + 1 ≤ w4.heap.size := Nat.le_trans hz hb.size
  clear HB hz b0 b1
  have HB := HB'
  have hz := hz'
  clear HB' hz'
  have hzl4 : w.heap.size < w4.heap.size := by omega
  obtain ⟨b0, b1⟩ := box_cells HB.out
  clear hb
  go_wp2_with fail
  by_cases hk : chkV V E [u, v] = 0
  · have HK := Lib.hid hk
    have HJ : Hid (joinedB V E u v = false) := path_none (by rw [HC.out]; exact h0) HK.out
    clear hk
    refine (Joined_ok _ _ V E u v _ w.heap.size (HV.out.below ((below_box HB.out).alloc (by omega) _)) (HE.out.below ((below_box HB.out).alloc (by omega) _)) (by simp; omega) HK.out).mono ?_
    rw [HJ.out]
    rintro e w5 ⟨rfl, hb⟩
    have hbk : Blk w5 w4.heap.size 50 aggZ := by have := (Blk.new w4 50 aggZ).below hb (by simp); exact this
    have g0 : w5.cell? ⟨w4.heap.size, 0, none⟩ = some (.int .i64 0) := hbk.cell 0
    have g1 : w5.cell? ⟨w4.heap.size, 1, none⟩ = some (.int .i64 0) := hbk.cell 1
    have g2 : w5.cell? ⟨w4.heap.size, 2, none⟩ = some (.int .i64 0) := hbk.cell 2
    have g3 : w5.cell? ⟨w4.heap.size, 3, none⟩ = some (.int .i64 0) := hbk.cell 3
    have g4 : w5.cell? ⟨w4.heap.size, 4, none⟩ = some (.complex .f64 0 0) := hbk.cell 4
    have hqz := run_eqZ w5
    have HB2 : Hid (Below w.heap.size w w5) := ((below_box HB.out).alloc (by omega) _).trans (hb.mono (by simp; omega))
    clear hb hbk
    go_wp2_with fail
    go_ret
    exact ⟨rfl, HB2.out⟩
  · have HK := Lib.hid hk
    obtain ⟨d, hd⟩ : ∃ d, d = chkV V E [u, v] := ⟨_, rfl⟩
    rw [← hd] at hk
    have td1 : (d == 0) = false := by simpa using hk
    have td2 : (d != 0) = true := by simpa using hk
    have HD := Lib.hid hd
    clear hd
    refine (Joined_no _ _ V E u v d _ w.heap.size (HV.out.below ((below_box HB.out).alloc (by omega) _)) (HE.out.below ((below_box HB.out).alloc (by omega) _)) (by simp; omega) HD.out.symm hk).mono ?_
    rintro e w5 ⟨rfl, hb⟩
    have hbk : Blk w5 w4.heap.size 50 aggZ := by have := (Blk.new w4 50 aggZ).below hb (by simp); exact this
    have g0 : w5.cell? ⟨w4.heap.size, 0, none⟩ = some (.int .i64 0) := hbk.cell 0
    have g1 : w5.cell? ⟨w4.heap.size, 1, none⟩ = some (.int .i64 0) := hbk.cell 1
    have g2 : w5.cell? ⟨w4.heap.size, 2, none⟩ = some (.int .i64 0) := hbk.cell 2
    have g3 : w5.cell? ⟨w4.heap.size, 3, none⟩ = some (.int .i64 0) := hbk.cell 3
    have g4 : w5.cell? ⟨w4.heap.size, 4, none⟩ = some (.complex .f64 0 0) := hbk.cell 4
    have hqz := run_eqZ w5
    have HB2 : Hid (Below w.heap.size w w5) := ((below_box HB.out).alloc (by omega) _).trans (hb.mono (by simp; omega))
    clear hb hbk
    go_wp2_with fail
    go_ret
    exact ⟨rfl, HB2.out⟩

/-- What holds at the head of the loop. -/
def PaRel (W : World) (V : List Int) (v : Int) (p : List Ed) (n : Nat) (a s i : Value) (wr : World) : Prop :=
  ∃ (k : Nat) (at_ : Int), k ≤ n ∧ i = .int .i64 k ∧ a = .int .i64 at_ ∧ s = .int .i64 (sumW (p.take k)) ∧ WayV V at_ (p.drop k) v ∧ Below W.heap.size W wr ∧ Blk wr W.heap.size 47 (encE (mostL (p.take k))).toArray

set_option maxRecDepth 100000 in
set_option maxHeartbeats 8000000 in
theorem plainPaths_yes (sv se : Value) (V : List Int) (E : List Ed) (u v : Int) (w : World) (hv : RI w w.heap.size sv V) (he : RE w w.heap.size se E) (hc : pathErr V E u v = 0) :
    Calls Tryz.prog 5 #[netV sv se, .int .i64 u, .int .i64 v] w fun e w' => e = .returned (.bool true) ∧ Below w.heap.size w w' := by
  have HC := Lib.hid hc
  have HC2 : Hid (pathErr V E v u = 0) := (pathErr_symm V E u v).trans hc
  obtain ⟨hk, hR, huV, hvV, hpk, hj⟩ := path_known hc
  have HK := Lib.hid hk
  have HR := Lib.hid hR
  have HJ := Lib.hid hj
  have HWay := Lib.hid (way_of hR huV hvV hpk)
  have HTr := Lib.hid (path_trail hR huV hvV hpk).1
  have hback : (pathL V E v u).map (·.id) = ((pathL V E u v).map (·.id)).reverse := by rw [path_back hR huV hvV hpk, List.map_reverse]
  have hpl : (pathL V E u v).length ≤ V.length := by unfold pathL; exact Went.back_len (f := plE V) (T := forE V E) (n := V.length) _ _
  have hvl := hR.vlen
  obtain ⟨m, re, im, g, hal, hag⟩ := along_open (pathL V E u v)
  obtain ⟨P, hP⟩ : ∃ P, P = pathL V E u v := ⟨_, rfl⟩
  rw [← hP] at HWay HTr hback hpl hal hag
  have HP := Lib.hid hP
  have HAl := Lib.hid hal
  have HAg := Lib.hid hag
  have HBk := Lib.hid hback
  have HVV := Lib.hid hvV
  clear hc hk hR hj hpk huV hvV hP hal hag hback
  obtain ⟨mi, mu, mv, mw⟩ := m
  dsimp only at HAl HAg
  obtain ⟨n, hn⟩ : ∃ n, n = P.length := ⟨_, rfl⟩
  rw [← hn] at hpl
  have HN := Lib.hid hn
  clear hn
  have HV := Lib.hid hv
  have HE := Lib.hid he
  clear hv he
  go_enter Tryz.func5, Tryz.ntmps5
  go_wp2_with fail
  refine (alive_any _).mono ?_
  rintro e w1 ⟨rfl, hb⟩
  have HB : Hid (Below (w.heap.size + 1) (w.alloc (.cells #[sv, se] 25)) w1) := hb.mono (by simp)
  have hz : w.heap.size + 1 ≤ w1.heap.size := by have := hb.size; simpa using this
  obtain ⟨b0, b1⟩ := box_cells HB.out
  clear hb
  go_wp2_with fail
  refine (Path_ok _ _ V E u v _ w.heap.size (HV.out.below (below_box HB.out)) (HE.out.below (below_box HB.out)) (by omega) HC.out).mono ?_
  rw [← HP.out]
  rintro e w2 ⟨pv, rfl, ho, hb⟩
  have HB' : Hid (Below (w.heap.size + 1) (w.alloc (.cells #[sv, se] 25)) w2) := HB.out.trans (hb.mono (by omega))
  have hz' : w.heap.size + 1 ≤ w2.heap.size := Nat.le_trans hz hb.size
  clear HB hz b0 b1
  have HB := HB'
  have hz := hz'
  clear HB' hz'
  have hzl2 : w.heap.size < w2.heap.size := by omega
  obtain ⟨b0, b1⟩ := box_cells HB.out
  have hri : RI w2 w2.heap.size pv (P.map (·.id)) := ho.rk encI_len (Nat.le_refl _)
  clear ho hb
  obtain ⟨Ap, cp, rfl, hp1, hp2, hp3, _⟩ := hri.open_
  rw [List.length_map, ← HN.out] at hp1 hp3 hri ⊢
  have HRp : Hid (∀ w', Below w2.heap.size w2 w' → RI w' w2.heap.size (.slice Ap n cp) (P.map (·.id))) := fun w' h => hri.below h
  have HBp : Hid (Below w2.heap.size w2 w2) := Below.refl _ _
  clear hri
  go_wp2_with fail
  refine (Path_ok _ _ V E v u _ w.heap.size (HV.out.below (below_box HB.out)) (HE.out.below (below_box HB.out)) (by omega) HC2.out).mono ?_
  rw [HBk.out]
  rintro e w3 ⟨qv, rfl, ho, hb⟩
  have HB' : Hid (Below (w.heap.size + 1) (w.alloc (.cells #[sv, se] 25)) w3) := HB.out.trans (hb.mono (by omega))
  have hz' : w.heap.size + 1 ≤ w3.heap.size := Nat.le_trans hz hb.size
  have HBp' : Hid (Below w2.heap.size w2 w3) := HBp.out.trans (hb.mono HBp.out.size)
  clear HBp
  have HBp := HBp'
  clear HBp'
  clear HB hz b0 b1
  have HB := HB'
  have hz := hz'
  clear HB' hz'
  have hzl3 : w.heap.size < w3.heap.size := by omega
  obtain ⟨b0, b1⟩ := box_cells HB.out
  have hri : RI w3 w3.heap.size qv (P.map (·.id)).reverse := ho.rk encI_len (Nat.le_refl _)
  clear ho hb
  obtain ⟨Aq, cq, rfl, hq1, hq2, hq3, _⟩ := hri.open_
  rw [List.length_reverse, List.length_map, ← HN.out] at hq1 hq3 hri ⊢
  have HRq : Hid (∀ w', Below w3.heap.size w3 w' → RI w' w3.heap.size (.slice Aq n cq) (P.map (·.id)).reverse) := fun w' h => hri.below h
  have HBq : Hid (Below w3.heap.size w3 w3) := Below.refl _ _
  clear hri
  go_wp2_with fail
  refine (Along_ok _ _ V E u v _ w.heap.size (HV.out.below (below_box HB.out)) (HE.out.below (below_box HB.out)) (by omega) HC.out).mono ?_
  rw [← HP.out, HAl.out]
  rintro e w4 ⟨rfl, hb⟩
  have HB' : Hid (Below (w.heap.size + 1) (w.alloc (.cells #[sv, se] 25)) w4) := HB.out.trans (hb.mono (by omega))
  have hz' : w.heap.size + 1 ≤ w4.heap.size := Nat.le_trans hz hb.size
  have HBp' : Hid (Below w2.heap.size w2 w4) := HBp.out.trans (hb.mono HBp.out.size)
  clear HBp
  have HBp := HBp'
  clear HBp'
  have HBq' : Hid (Below w3.heap.size w3 w4) := HBq.out.trans (hb.mono HBq.out.size)
  clear HBq
  have HBq := HBq'
  clear HBq'
  clear HB hz b0 b1
  have HB := HB'
  have hz := hz'
  clear HB' hz'
  have hzl4 : w.heap.size < w4.heap.size := by omega
  obtain ⟨b0, b1⟩ := box_cells HB.out
  clear hb
  go_wp2_with fail
  obtain ⟨W5, hW5⟩ : ∃ W, W = w4.alloc (.cells #[.int .i64 mi, .int .i64 mu, .int .i64 mv, .int .i64 mw, .complex .f64 re im] 50) := ⟨_, rfl⟩
  have hb : Below w4.heap.size w4 W5 := by rw [hW5]; exact (Below.refl _ _).alloc (Nat.le_refl _) _
  have hag : Blk W5 w4.heap.size 50 #[.int .i64 mi, .int .i64 mu, .int .i64 mv, .int .i64 mw, .complex .f64 re im] := by rw [hW5]; exact Blk.new _ _ _
  have hz5 : W5.heap.size = w4.heap.size + 1 := by rw [hW5]; simp
  rw [← hW5]
  clear hW5
  have HB' : Hid (Below (w.heap.size + 1) (w.alloc (.cells #[sv, se] 25)) W5) := HB.out.trans (hb.mono (by omega))
  have HBp' : Hid (Below w2.heap.size w2 W5) := HBp.out.trans (hb.mono HBp.out.size)
  clear HBp
  have HBp := HBp'
  clear HBp'
  have HBq' : Hid (Below w3.heap.size w3 W5) := HBq.out.trans (hb.mono HBq.out.size)
  clear HBq
  have HBq := HBq'
  clear HBq'
  clear HB b0 b1 hb
  have HB := HB'
  clear HB'
  refine (Joined_ok _ _ V E u v _ w.heap.size (HV.out.below (below_box HB.out)) (HE.out.below (below_box HB.out)) (by omega) HK.out).mono ?_
  rw [HJ.out]
  rintro e W ⟨rfl, hb⟩
  have HAB : Hid (Blk W w4.heap.size 50 #[.int .i64 mi, .int .i64 mu, .int .i64 mv, .int .i64 mw, .complex .f64 re im]) := hag.below hb hag.lt
  have HB' : Hid (Below (w.heap.size + 1) (w.alloc (.cells #[sv, se] 25)) W) := HB.out.trans (hb.mono (by omega))
  have hrp := HRp.out W (HBp.out.trans (hb.mono HBp.out.size))
  have hrq := HRq.out W (HBq.out.trans (hb.mono HBq.out.size))
  have hzW : w4.heap.size + 1 ≤ W.heap.size := by have := hb.size; omega
  have hz2 : w2.heap.size ≤ W.heap.size := (HBp.out.trans (hb.mono HBp.out.size)).size
  have hz3 : w3.heap.size ≤ W.heap.size := (HBq.out.trans (hb.mono HBq.out.size)).size
  obtain ⟨Ap', cp', e1, _, _, _, HCp⟩ := hrp.open_
  obtain ⟨Aq', cq', e2, _, _, _, HCq⟩ := hrq.open_
  obtain ⟨rfl, rfl⟩ : Ap = Ap' ∧ cp = cp' := by injection e1 with e1 e3 e4; exact ⟨e1, e4⟩
  obtain ⟨rfl, rfl⟩ : Aq = Aq' ∧ cq = cq' := by injection e2 with e1 e3 e4; exact ⟨e1, e4⟩
  have HRP := Lib.hid hrp
  have HEW : Hid (RE W w.heap.size se E) := HE.out.below (below_box HB'.out)
  have hgl : w4.heap.size < W.heap.size := by omega
  clear HB HBp HBq HRp HRq hag hb e1 e2 hrp hrq
  have HB := HB'
  clear HB'
  obtain ⟨b0, b1⟩ := box_cells HB.out
  obtain ⟨ga, hga⟩ : ∃ ga, ga = w4.heap.size := ⟨_, rfl⟩
  rw [← hga] at HAB hgl
  rw [← hga]
  clear hga
  go_wp2_with fail
  go_loopw [15, 16, 100] (fun a s i wr => PaRel W V v P n a s i wr) (fun _ _ i wr => n - (intOf i).toNat)
  case atStart =>
    refine ⟨0, u, Nat.zero_le _, rfl, rfl, rfl, HWay.out, (Below.refl _ _).alloc (Nat.le_refl _) _, ?_⟩
    exact Blk.new W 47 _
  case round =>
    obtain ⟨k, at_, hk, rfl, rfl, rfl, hway, hbel, hmo⟩ := hrel
    have HBel := Lib.hid hbel
    have hzr := hbel.size
    have hgm := hmo.lt
    have HMo := Lib.hid hmo
    by_cases hlt : k < n
    · obtain ⟨y, hy⟩ : ∃ y, y = P[k]'(by have := HN.out; omega) := ⟨_, rfl⟩
      have hkP : k < P.length := by have := HN.out; omega
      have hym : y ∈ P := by rw [hy]; exact List.getElem_mem _
      have hyE : y ∈ E := forE_sub V E y (HTr.out.sub y hym)
      have hyV := HR.out.eu y hyE
      have hyV2 := HR.out.ev y hyE
      have hyw := HR.out.ew y hyE
      have hdr : P.drop k = y :: P.drop (k + 1) := by rw [hy]; exact List.drop_eq_getElem_cons hkP
      rw [hdr] at hway
      obtain ⟨hends, hway2⟩ := hway.cons HR.out.vup hyV hyV2
      have hui := HR.out.vid _ hyV
      have hvi := HR.out.vid _ hyV2
      have hidk : (P.map (·.id))[k]'(by simpa using hkP) = y.id := by rw [List.getElem_map, hy]
      have hnb : ((P.map (·.id)).take k).contains y.id = false := by
        have := not_before (ids_nodup HR.out.eup (fun e he => forE_sub V E e (HTr.out.sub e he)) HTr.out.one) k (by simpa using hkP)
        rw [hidk] at this; exact this
      have hedi : edIn E y.id = y := edIn_of HR.out.eup hyE
      have hst : sumW (P.take (k + 1)) = sumW (P.take k) + y.w := by rw [List.take_succ_eq_append_getElem hkP, sumW_snoc, ← hy]
      have hsb := sumW_bd (P.take k) fun e he => HR.out.ew e (forE_sub V E e (HTr.out.sub e (List.mem_of_mem_take he)))
      have hsl : (P.take k).length ≤ 2048 := by rw [List.length_take]; omega
      have hmn : 0 < k → mostL (P.take (k + 1)) = if ltW (mostL (P.take k)) y = true then y else mostL (P.take k) := by rw [hy]; exact most_next P k hkP
      have hmf : k = 0 → mostL (P.take (k + 1)) = y := by rintro rfl; rw [hy]; exact most_first P hkP
      obtain ⟨bp, op, rfl, hbp, hxp⟩ := HCp.out k (by simpa using hkP)
      rw [hidk] at hxp
      have hxp := cellI hxp
      have hxp := (hbel.cell (p := ⟨bp, op + k, none⟩) (by show bp < _; omega)).trans hxp
      obtain ⟨r, hr⟩ : ∃ r, n = k + r + 1 := ⟨n - k - 1, by omega⟩
      have hqr : ((P.map (·.id)).reverse)[r]'(by rw [List.length_reverse, List.length_map, ← HN.out]; omega) = y.id := by
        rw [List.getElem_reverse, ← hidk]
        congr 1
        rw [List.length_map, ← HN.out]
        omega
      obtain ⟨bq, oq, rfl, hbq, hxq⟩ := HCq.out r (by rw [List.length_reverse, List.length_map, ← HN.out]; omega)
      rw [hqr] at hxq
      have hxq := cellI hxq
      have hxq := (hbel.cell (p := ⟨bq, oq + r, none⟩) (by show bq < _; omega)).trans hxq
      have hidx : (n : Int) - 1 - (k : Int) = (r : Int) := by omega
      have hrn : (r : Int) < (n : Int) := by omega
      obtain ⟨s, hs⟩ : ∃ s, s = sumW (P.take k) := ⟨_, rfl⟩
      rw [← hs] at hst hsb
      rw [← hs]
      have c0 := (hbel.cell (p := ⟨w.heap.size, 0, none⟩) (by show w.heap.size < _; omega)).trans b0
      have c1 := (hbel.cell (p := ⟨w.heap.size, 1, none⟩) (by show w.heap.size < _; omega)).trans b1
      have hs1 : 0 ≤ s := hsb.1
      have hs2 : s ≤ 2251799813685248 := by have := hsb.2; omega
      have HSt := Lib.hid hst
      have HEd := Lib.hid hedi
      have HNb := Lib.hid hnb
      have HW2 := Lib.hid hway2
      have HMn := Lib.hid hmn
      have HMf := Lib.hid hmf
      have hau := HR.out.vid _ hway.1
      have HRR := Lib.hid hr
      clear hy hkP hym hyE hyV hyV2 hdr hway hway2 hidk hnb hedi hst hsb hsl hmn hmf hqr hs hbel hmo hr
      obtain ⟨eid, eu, ev, ew⟩ := y
      dsimp only at *
      obtain ⟨⟨ni, nu, nv, nw⟩, hmk⟩ : ∃ e, e = mostL (P.take k) := ⟨_, rfl⟩
      rw [← hmk] at HMo HMn
      clear hmk
      have hew1 : 0 ≤ ew := hyw.1
      have hew2 : ew ≤ 1099511627776 := hyw.2
      have hu1 := hui.1
      have hu2 := hui.2
      have hv1 := hvi.1
      have hv2 := hvi.2
      have ha1 := hau.1
      have ha2 := hau.2
      clear hyw hui hvi hau
      by_cases hU : eu = at_
      · subst hU
        clear hends
        go_wp2_with fail
        refine (edgeOf_any _ _ E eid _ w.heap.size (HEW.out.below (HBel.out.mono (by omega))) (by omega)).mono ?_
        rw [HEd.out]
        rintro e w6 ⟨rfl, hb6⟩
        have hz6 := hb6.size
        have hxp6 := (hb6.cell (p := ⟨bp, op + k, none⟩) (by show bp < _; omega)).trans hxp
        have hxq6 := (hb6.cell (p := ⟨bq, oq + r, none⟩) (by show bq < _; omega)).trans hxq
        have hmo6 := HMo.out.below hb6 hgm
        have n0 : w6.cell? ⟨W.heap.size, 0, none⟩ = some (.int .i64 ni) := hmo6.cell 0
        have n1 : w6.cell? ⟨W.heap.size, 1, none⟩ = some (.int .i64 nu) := hmo6.cell 1
        have n2 : w6.cell? ⟨W.heap.size, 2, none⟩ = some (.int .i64 nv) := hmo6.cell 2
        have n3 : w6.cell? ⟨W.heap.size, 3, none⟩ = some (.int .i64 nw) := hmo6.cell 3
        have HMo6 := Lib.hid hmo6
        have HB6 : Hid (Below W.heap.size W w6) := HBel.out.trans (hb6.mono hzr)
        have hbp6 : bp < w6.heap.size := by omega
        have hbq6 : bq < w6.heap.size := by omega
        have hgm6 : W.heap.size < w6.heap.size := by omega
        clear hb6 hmo6 hxp hxq c0 c1
        by_cases hk0 : k = 0
        · have HK0 := Lib.hid hk0
          have tk0 : ((k : Int) == 0) = true := by simpa using hk0
          clear hk0
          go_wp2_with (first | (go_at_call 30; refine (Has_any _ ((P.map (·.id)).take k) eid false HNb.out _ w2.heap.size (((HRP.out.below (HB6.out.mono hz2)).alloc (by omega) _).take k hk)).mono ?_; rintro e w' ⟨rfl, rfl⟩) | (refine wpList_store_row rfl 47 (.tmp 17) (.tmp 155) rfl W.heap.size #[.int .i64 eid, .int .i64 eu, .int .i64 ev, .int .i64 ew] rfl rfl 47 (encE ⟨ni, nu, nv, nw⟩).toArray (HMo6.out.alloc _) (by kernel_rfl) rfl (by kernel_rfl) ?_))
          go_roundw
          case measure => simp [intOf]; omega
          case rel =>
            refine ⟨k + 1, _, by omega, by go_num, rfl, by rw [HSt.out], HW2.out, below_row (HB6.out.alloc (by omega) _) (Nat.le_refl _) _, ?_⟩
            rw [HMf.out HK0.out]
            exact (HMo6.out.alloc _).row _
        · have hkp : 0 < k := by omega
          have tk0 : ((k : Int) == 0) = false := by simpa using hk0
          clear hk0
          cases hq : ltW ⟨ni, nu, nv, nw⟩ ⟨eid, eu, ev, ew⟩ with
          | true =>
            have HQ := Lib.hid hq
            clear hq
            go_wp2_with (go_at_call 30; refine (Has_any _ ((P.map (·.id)).take k) eid false HNb.out _ w2.heap.size (((HRP.out.below (HB6.out.mono hz2)).alloc (by omega) _).take k hk)).mono ?_; rintro e w' ⟨rfl, rfl⟩)
            refine (Ahead_q ⟨ni, nu, nv, nw⟩ ⟨eid, eu, ev, ew⟩ true HQ.out _).mono ?_
            rintro e w7 ⟨rfl, hb7⟩
            have hmo7 : Blk w7 W.heap.size 47 (encE ⟨ni, nu, nv, nw⟩).toArray := (HMo6.out.alloc _).below hb7 (by simp; omega)
            have hy7 : Blk w7 w6.heap.size 47 (encE ⟨eid, eu, ev, ew⟩).toArray := (Blk.new w6 47 (encE ⟨eid, eu, ev, ew⟩).toArray).below hb7 (by simp)
            have y0 : w7.cell? ⟨w6.heap.size, 0, none⟩ = some (.int .i64 eid) := hy7.cell 0
            have y1 : w7.cell? ⟨w6.heap.size, 1, none⟩ = some (.int .i64 eu) := hy7.cell 1
            have y2 : w7.cell? ⟨w6.heap.size, 2, none⟩ = some (.int .i64 ev) := hy7.cell 2
            have y3 : w7.cell? ⟨w6.heap.size, 3, none⟩ = some (.int .i64 ew) := hy7.cell 3
            have HMo7 := Lib.hid hmo7
            have HB7 : Hid (Below W.heap.size W w7) := (HB6.out.alloc (by omega) _).trans (hb7.mono (by simp; omega))
            clear hb7 hmo7 hy7
            go_wp2_with (refine wpList_store_row rfl 47 (.tmp 17) (.tmp 155) rfl W.heap.size #[.int .i64 eid, .int .i64 eu, .int .i64 ev, .int .i64 ew] rfl rfl 47 (encE ⟨ni, nu, nv, nw⟩).toArray HMo7.out (by kernel_rfl) rfl (by kernel_rfl) ?_)
            go_roundw
            case measure => simp [intOf]; omega
            case rel =>
              refine ⟨k + 1, _, by omega, by go_num, rfl, by rw [HSt.out], HW2.out, below_row HB7.out (Nat.le_refl _) _, ?_⟩
              rw [HMn.out hkp, if_pos HQ.out]
              exact HMo7.out.row _
          | false =>
            have HQ := Lib.hid hq
            clear hq
            go_wp2_with (go_at_call 30; refine (Has_any _ ((P.map (·.id)).take k) eid false HNb.out _ w2.heap.size (((HRP.out.below (HB6.out.mono hz2)).alloc (by omega) _).take k hk)).mono ?_; rintro e w' ⟨rfl, rfl⟩)
            refine (Ahead_q ⟨ni, nu, nv, nw⟩ ⟨eid, eu, ev, ew⟩ false HQ.out _).mono ?_
            rintro e w7 ⟨rfl, hb7⟩
            have hmo7 : Blk w7 W.heap.size 47 (encE ⟨ni, nu, nv, nw⟩).toArray := (HMo6.out.alloc _).below hb7 (by simp; omega)
            have hy7 : Blk w7 w6.heap.size 47 (encE ⟨eid, eu, ev, ew⟩).toArray := (Blk.new w6 47 (encE ⟨eid, eu, ev, ew⟩).toArray).below hb7 (by simp)
            have y0 : w7.cell? ⟨w6.heap.size, 0, none⟩ = some (.int .i64 eid) := hy7.cell 0
            have y1 : w7.cell? ⟨w6.heap.size, 1, none⟩ = some (.int .i64 eu) := hy7.cell 1
            have y2 : w7.cell? ⟨w6.heap.size, 2, none⟩ = some (.int .i64 ev) := hy7.cell 2
            have y3 : w7.cell? ⟨w6.heap.size, 3, none⟩ = some (.int .i64 ew) := hy7.cell 3
            have HMo7 := Lib.hid hmo7
            have HB7 : Hid (Below W.heap.size W w7) := (HB6.out.alloc (by omega) _).trans (hb7.mono (by simp; omega))
            clear hb7 hmo7 hy7
            go_wp2_with fail
            go_roundw
            case measure => simp [intOf]; omega
            case rel =>
              refine ⟨k + 1, _, by omega, by go_num, rfl, by rw [HSt.out], HW2.out, HB7.out, ?_⟩
              rw [HMn.out hkp, if_neg (by rw [HQ.out]; decide)]
              exact HMo7.out
      · obtain rfl : ev = at_ := hends.resolve_left hU
        clear hends
        go_wp2_with fail
        refine (edgeOf_any _ _ E eid _ w.heap.size (HEW.out.below (HBel.out.mono (by omega))) (by omega)).mono ?_
        rw [HEd.out]
        rintro e w6 ⟨rfl, hb6⟩
        have hz6 := hb6.size
        have hxp6 := (hb6.cell (p := ⟨bp, op + k, none⟩) (by show bp < _; omega)).trans hxp
        have hxq6 := (hb6.cell (p := ⟨bq, oq + r, none⟩) (by show bq < _; omega)).trans hxq
        have hmo6 := HMo.out.below hb6 hgm
        have n0 : w6.cell? ⟨W.heap.size, 0, none⟩ = some (.int .i64 ni) := hmo6.cell 0
        have n1 : w6.cell? ⟨W.heap.size, 1, none⟩ = some (.int .i64 nu) := hmo6.cell 1
        have n2 : w6.cell? ⟨W.heap.size, 2, none⟩ = some (.int .i64 nv) := hmo6.cell 2
        have n3 : w6.cell? ⟨W.heap.size, 3, none⟩ = some (.int .i64 nw) := hmo6.cell 3
        have HMo6 := Lib.hid hmo6
        have HB6 : Hid (Below W.heap.size W w6) := HBel.out.trans (hb6.mono hzr)
        have hbp6 : bp < w6.heap.size := by omega
        have hbq6 : bq < w6.heap.size := by omega
        have hgm6 : W.heap.size < w6.heap.size := by omega
        clear hb6 hmo6 hxp hxq c0 c1
        by_cases hk0 : k = 0
        · have HK0 := Lib.hid hk0
          have tk0 : ((k : Int) == 0) = true := by simpa using hk0
          clear hk0
          go_wp2_with (first | (go_at_call 30; refine (Has_any _ ((P.map (·.id)).take k) eid false HNb.out _ w2.heap.size (((HRP.out.below (HB6.out.mono hz2)).alloc (by omega) _).take k hk)).mono ?_; rintro e w' ⟨rfl, rfl⟩) | (refine wpList_store_row rfl 47 (.tmp 17) (.tmp 155) rfl W.heap.size #[.int .i64 eid, .int .i64 eu, .int .i64 ev, .int .i64 ew] rfl rfl 47 (encE ⟨ni, nu, nv, nw⟩).toArray (HMo6.out.alloc _) (by kernel_rfl) rfl (by kernel_rfl) ?_))
          go_roundw
          case measure => simp [intOf]; omega
          case rel =>
            refine ⟨k + 1, _, by omega, by go_num, rfl, by rw [HSt.out], (by have := HW2.out; rw [Int.add_sub_cancel] at this; exact this), below_row (HB6.out.alloc (by omega) _) (Nat.le_refl _) _, ?_⟩
            rw [HMf.out HK0.out]
            exact (HMo6.out.alloc _).row _
        · have hkp : 0 < k := by omega
          have tk0 : ((k : Int) == 0) = false := by simpa using hk0
          clear hk0
          cases hq : ltW ⟨ni, nu, nv, nw⟩ ⟨eid, eu, ev, ew⟩ with
          | true =>
            have HQ := Lib.hid hq
            clear hq
            go_wp2_with (go_at_call 30; refine (Has_any _ ((P.map (·.id)).take k) eid false HNb.out _ w2.heap.size (((HRP.out.below (HB6.out.mono hz2)).alloc (by omega) _).take k hk)).mono ?_; rintro e w' ⟨rfl, rfl⟩)
            refine (Ahead_q ⟨ni, nu, nv, nw⟩ ⟨eid, eu, ev, ew⟩ true HQ.out _).mono ?_
            rintro e w7 ⟨rfl, hb7⟩
            have hmo7 : Blk w7 W.heap.size 47 (encE ⟨ni, nu, nv, nw⟩).toArray := (HMo6.out.alloc _).below hb7 (by simp; omega)
            have hy7 : Blk w7 w6.heap.size 47 (encE ⟨eid, eu, ev, ew⟩).toArray := (Blk.new w6 47 (encE ⟨eid, eu, ev, ew⟩).toArray).below hb7 (by simp)
            have y0 : w7.cell? ⟨w6.heap.size, 0, none⟩ = some (.int .i64 eid) := hy7.cell 0
            have y1 : w7.cell? ⟨w6.heap.size, 1, none⟩ = some (.int .i64 eu) := hy7.cell 1
            have y2 : w7.cell? ⟨w6.heap.size, 2, none⟩ = some (.int .i64 ev) := hy7.cell 2
            have y3 : w7.cell? ⟨w6.heap.size, 3, none⟩ = some (.int .i64 ew) := hy7.cell 3
            have HMo7 := Lib.hid hmo7
            have HB7 : Hid (Below W.heap.size W w7) := (HB6.out.alloc (by omega) _).trans (hb7.mono (by simp; omega))
            clear hb7 hmo7 hy7
            go_wp2_with (refine wpList_store_row rfl 47 (.tmp 17) (.tmp 155) rfl W.heap.size #[.int .i64 eid, .int .i64 eu, .int .i64 ev, .int .i64 ew] rfl rfl 47 (encE ⟨ni, nu, nv, nw⟩).toArray HMo7.out (by kernel_rfl) rfl (by kernel_rfl) ?_)
            go_roundw
            case measure => simp [intOf]; omega
            case rel =>
              refine ⟨k + 1, _, by omega, by go_num, rfl, by rw [HSt.out], (by have := HW2.out; rw [Int.add_sub_cancel] at this; exact this), below_row HB7.out (Nat.le_refl _) _, ?_⟩
              rw [HMn.out hkp, if_pos HQ.out]
              exact HMo7.out.row _
          | false =>
            have HQ := Lib.hid hq
            clear hq
            go_wp2_with (go_at_call 30; refine (Has_any _ ((P.map (·.id)).take k) eid false HNb.out _ w2.heap.size (((HRP.out.below (HB6.out.mono hz2)).alloc (by omega) _).take k hk)).mono ?_; rintro e w' ⟨rfl, rfl⟩)
            refine (Ahead_q ⟨ni, nu, nv, nw⟩ ⟨eid, eu, ev, ew⟩ false HQ.out _).mono ?_
            rintro e w7 ⟨rfl, hb7⟩
            have hmo7 : Blk w7 W.heap.size 47 (encE ⟨ni, nu, nv, nw⟩).toArray := (HMo6.out.alloc _).below hb7 (by simp; omega)
            have hy7 : Blk w7 w6.heap.size 47 (encE ⟨eid, eu, ev, ew⟩).toArray := (Blk.new w6 47 (encE ⟨eid, eu, ev, ew⟩).toArray).below hb7 (by simp)
            have y0 : w7.cell? ⟨w6.heap.size, 0, none⟩ = some (.int .i64 eid) := hy7.cell 0
            have y1 : w7.cell? ⟨w6.heap.size, 1, none⟩ = some (.int .i64 eu) := hy7.cell 1
            have y2 : w7.cell? ⟨w6.heap.size, 2, none⟩ = some (.int .i64 ev) := hy7.cell 2
            have y3 : w7.cell? ⟨w6.heap.size, 3, none⟩ = some (.int .i64 ew) := hy7.cell 3
            have HMo7 := Lib.hid hmo7
            have HB7 : Hid (Below W.heap.size W w7) := (HB6.out.alloc (by omega) _).trans (hb7.mono (by simp; omega))
            clear hb7 hmo7 hy7
            go_wp2_with fail
            go_roundw
            case measure => simp [intOf]; omega
            case rel =>
              refine ⟨k + 1, _, by omega, by go_num, rfl, by rw [HSt.out], (by have := HW2.out; rw [Int.add_sub_cancel] at this; exact this), HB7.out, ?_⟩
              rw [HMn.out hkp, if_neg (by rw [HQ.out]; decide)]
              exact HMo7.out
    · obtain rfl : k = n := by omega
      have hnil : P.drop k = [] := List.drop_eq_nil_of_le (by have := HN.out; omega)
      have htk : P.take k = P := by rw [HN.out, List.take_length]
      rw [hnil] at hway
      rw [htk] at hmo
      have hat : at_ = v := hway.nil HR.out.vup HVV.out
      have hsb := sumW_bd P fun e he => HR.out.ew e (forE_sub V E e (HTr.out.sub e he))
      have hsl := HN.out
      have hab := HAB.out.below hbel hgl
      rw [htk, hat]
      obtain ⟨s, hs⟩ : ∃ s, s = sumW P := ⟨_, rfl⟩
      have hsN : sumN P = s.toNat := by unfold sumN; rw [hs]
      rw [← hs] at hsb
      rw [← hs]
      have hs1 : 0 ≤ s := hsb.1
      have hs2 : s ≤ 2251799813685248 := by have := hsb.2; rw [← hsl] at this; omega
      have HBel2 : Hid (Below w.heap.size w wr) := (below_box HB.out).trans (hbel.mono (by omega))
      have hk53 : k < 2 ^ 53 := by have : (2 : Nat) ^ 53 = 9007199254740992 := by decide
                                   omega
      have hs53 : s.toNat < 2 ^ 53 := by have : (2 : Nat) ^ 53 = 9007199254740992 := by decide
                                         omega
      have HAB2 := Lib.hid hab
      have HMo2 := Lib.hid hmo
      have HS := Lib.hid hs
      have HSN := Lib.hid hsN
      clear hnil htk hway hat hsb hsl hab hmo hs hsN hbel HBel HMo
      have hag := HAg.out
      rw [HSN.out] at hag
      rcases hag with ⟨hbig, rfl⟩ | ⟨hbig, rfl, hm, rfl, rfl⟩
      · have hbig : 70368744177664 < s := by omega
        go_wp2_with fail
        go_ret
        exact ⟨rfl, HBel2.out⟩
      · have hbig : s ≤ 70368744177664 := by omega
        rw [← hm] at HMo2
        rw [← HN.out] at HAB2
        clear hm
        have a0 : wr.cell? ⟨ga, 0, none⟩ = some (.int .i64 mi) := HAB2.out.cell 0
        have a1 : wr.cell? ⟨ga, 1, none⟩ = some (.int .i64 mu) := HAB2.out.cell 1
        have a2 : wr.cell? ⟨ga, 2, none⟩ = some (.int .i64 mv) := HAB2.out.cell 2
        have a3 : wr.cell? ⟨ga, 3, none⟩ = some (.int .i64 mw) := HAB2.out.cell 3
        have a4 : wr.cell? ⟨ga, 4, none⟩ = some (.complex .f64 (fl s.toNat) (fl k)) := HAB2.out.cell 4
        have m0 : wr.cell? ⟨W.heap.size, 0, none⟩ = some (.int .i64 mi) := HMo2.out.cell 0
        have m1 : wr.cell? ⟨W.heap.size, 1, none⟩ = some (.int .i64 mu) := HMo2.out.cell 1
        have m2 : wr.cell? ⟨W.heap.size, 2, none⟩ = some (.int .i64 mv) := HMo2.out.cell 2
        have m3 : wr.cell? ⟨W.heap.size, 3, none⟩ = some (.int .i64 mw) := HMo2.out.cell 3
        have he1 : FloatKind.f64.format.order (fl s.toNat) (fl s.toNat) = some .eq := (fl_order hs53 hs53).trans (by simp)
        have he2 : FloatKind.f64.format.order (fl k) (fl k) = some .eq := (fl_order hk53 hk53).trans (by simp)
        have hcv := conv_fl s hs1
        have hck := conv_fl (k : Int) (by omega)
        rw [Int.toNat_natCast] at hck
        clear hk53 hs53
        go_wp2_with fail
        go_ret
        exact ⟨rfl, HBel2.out⟩

theorem plainPaths_walk (sv se : Value) (V : List Int) (E : List Ed) (u v : Int) (w : World) (hv : RI w w.heap.size sv V) (he : RE w w.heap.size se E) (hu : (Lit.int .i64 u).wf = true) (hv' : (Lit.int .i64 v).wf = true) :
    Calls Tryz.prog 5 #[netV sv se, .int .i64 u, .int .i64 v] w fun e w' => e = .returned (.bool true) ∧ Below w.heap.size w w' := by
  by_cases hc : pathErr V E u v = 0
  · exact plainPaths_yes sv se V E u v w hv he hc
  · exact plainPaths_no sv se V E u v _ w hv he rfl hc
end Go.Proofs.YtghacfhpafbdmaaGreat
