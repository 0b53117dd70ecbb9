/-
  The walk of skeinlaw06's PlainForest.
-/
import Derived.Test.YtghacfhpafbdmaaGreatZT13
import Derived.Test.YtghacfhpafbdmaaGreatZT11
namespace Go.Proofs.YtghacfhpafbdmaaGreat
open Go.RowKit
set_option linter.unusedVariables false

theorem field_w (x0 x1 x2 x3 : Int) (w : World) : (Instr.field 47 (.agg #[.int .i64 x0, .int .i64 x1, .int .i64 x2, .int .i64 x3]) 3).run Tryz.prog w = .ok (.int .i64 x3) w := by kernel_rfl
theorem cf_Has : ∀ (args : Array Value) (w : World), (callFunc 30 args).run Tryz.prog w = .ok (.enter 30 args) w := enters_of Tryz.func30 (by kernel_rfl) rfl
theorem cf_Ahead : ∀ (args : Array Value) (w : World), (callFunc 31 args).run Tryz.prog w = .ok (.enter 31 args) w := enters_of Tryz.func31 (by kernel_rfl) rfl
section
variable {a : Act} {ty : TypeId} {pos : String} {d : Option Tmp} {af : Array Edge} {g : Option (Nat × Bool)}
theorem ro_not {x : Tmp} {b : Bool} (w : World) (hx : a.tmps.getD x undef = .bool b) :
    (execOp a.eval { dst := d, op := .unOp .not 4 (.tmp x), type := ty, pos := pos, after := af, guard := g }).run Tryz.prog w = .ok (.value (.bool (!b))) w := by
  simp only [execOp, Act.eval, hx]
  go_simp
theorem ro_pickF {x y : Tmp} {b : Bool} {v : Value} (w : World) (hx : a.tmps.getD x undef = .bool b) (hv : b = true → a.tmps.getD y undef = .bool false) :
    (execOp a.eval { dst := d, op := .pick (.tmp x) (.tmp y) (.const (.bool false)), type := ty, pos := pos, after := af, guard := g }).run Tryz.prog w = .ok (.value (.bool false)) w := by
  cases b with
  | false => simp only [execOp, Act.eval, hx]; rfl
  | true => simp only [execOp, Act.eval, hx, hv rfl]; rfl
theorem ro_pickT {x y : Tmp} {v : Value} (w : World) (hx : a.tmps.getD x undef = .bool false) (hy : a.tmps.getD y undef = v) :
    (execOp a.eval { dst := d, op := .pick (.tmp x) (.const (.bool true)) (.tmp y), type := ty, pos := pos, after := af, guard := g }).run Tryz.prog w = .ok (.value v) w := by
  simp only [execOp, Act.eval, hx, hy]; rfl
end

/-- What the steps of the last question leave in their slots: x an edge of the net, c: it is in the forest; y an edge of the path. -/
def SLast (xb : Nat) (nv iv : Value) (x y : Ed) (c : Bool) (q : Nat) (v : Value) (w : World) : Prop := match q with
  | 0 => v = iv
  | 1 => v = .int .i64 y.id
  | 2 => v = .bool true
  | 3 => v = .bool false
  | 4 => v = .bool false
  | 5 => v = iv
  | 6 => v = .pointer (some ⟨xb, 0, none⟩)
  | 7 => v = .int .i64 x.id
  | 8 => v = .bool c
  | 9 => v = .bool (!c)
  | 10 => v = .bool (!c)
  | 11 => c = false → v = nv
  | 12 => c = false → v = .int .i64 y.id
  | 13 => c = false → v = .agg #[.int .i64 y.id, .int .i64 y.u, .int .i64 y.v, .int .i64 y.w]
  | 14 => c = false → v = .agg #[.int .i64 x.id, .int .i64 x.u, .int .i64 x.v, .int .i64 x.w]
  | 15 => c = false → v = .bool true
  | 16 => c = false → v = .bool false
  | _ => v = .bool false

theorem refChk_no {V : List Int} {E : List Ed} (h : rightN V E = false) : refChk V E = 60 := by unfold refChk; rw [h]; rfl
theorem refChk_yes {V : List Int} {E : List Ed} (h : rightN V E = true) : refChk V E = 0 := by unfold refChk; rw [h]; rfl

set_option maxRecDepth 100000 in
set_option maxHeartbeats 4000000 in
theorem plainForest_no (sv se : Value) (V : List Int) (E : List Ed) (w : World) (hv : RI w w.heap.size sv V) (he : RE w w.heap.size se E) (hr : rightN V E = false) :
    Calls Tryz.prog 4 #[netV sv se] w fun e w' => e = .returned (.bool true) ∧ Below w.heap.size w w' := by
  have HV := Lib.hid hv
  have HE := Lib.hid he
  clear hv he
  go_enter Tryz.func4, Tryz.ntmps4
  go_wp2_with fail
  refine (alive_any _).mono ?_
  rintro e w1 ⟨rfl, hb⟩
  have HB : Hid (Below (w.heap.size + 1) (w.alloc (.cells #[sv, se] 25)) w1) := hb.mono (by simp)
  have hz : w.heap.size + 1 ≤ w1.heap.size := by have := hb.size; simpa using this
  obtain ⟨b0, b1⟩ := box_cells HB.out
  clear hb
  go_wp2_with fail
  refine (Forest_no _ _ V E _ w.heap.size (HV.out.below (below_box HB.out)) (HE.out.below (below_box HB.out)) (by omega) hr).mono ?_
  rintro e w2 ⟨rfl, hb⟩
  have HB' : Hid (Below (w.heap.size + 1) (w.alloc (.cells #[sv, se] 25)) w2) := HB.out.trans (hb.mono (by omega))
  have hz' : w.heap.size + 1 ≤ w2.heap.size := Nat.le_trans hz hb.size
  clear HB hz b0 b1
  have HB := HB'
  have hz := hz'
  clear HB' hz'
  have hzl2 : w.heap.size < w2.heap.size := by omega
  obtain ⟨b0, b1⟩ := box_cells HB.out
  clear hb
  go_wp2_with fail
  refine (trees_no _ _ V E _ w.heap.size (HV.out.below (below_box HB.out)) (HE.out.below (below_box HB.out)) (by omega) hr).mono ?_
  rintro e w3 ⟨rfl, hb⟩
  have HB' : Hid (Below (w.heap.size + 1) (w.alloc (.cells #[sv, se] 25)) w3) := HB.out.trans (hb.mono (by omega))
  have hz' : w.heap.size + 1 ≤ w3.heap.size := Nat.le_trans hz hb.size
  clear HB hz b0 b1
  have HB := HB'
  have hz := hz'
  clear HB' hz'
  have hzl3 : w.heap.size < w3.heap.size := by omega
  obtain ⟨b0, b1⟩ := box_cells HB.out
  clear hb
  go_wp2_with fail
  refine (refCheck_any _ _ V E _ w.heap.size (HV.out.below (below_box HB.out)) (HE.out.below (below_box HB.out)) (by omega)).mono ?_
  rw [refChk_no hr]
  rintro e w4 ⟨rfl, hb⟩
  have HB' : Hid (Below (w.heap.size + 1) (w.alloc (.cells #[sv, se] 25)) w4) := HB.out.trans (hb.mono (by omega))
  have hz' : w.heap.size + 1 ≤ w4.heap.size := Nat.le_trans hz hb.size
  clear HB hz b0 b1
  have HB := HB'
  have hz := hz'
  clear HB' hz'
  have hzl4 : w.heap.size < w4.heap.size := by omega
  obtain ⟨b0, b1⟩ := box_cells HB.out
  clear hb
  go_wp2_with fail
  go_ret
  exact ⟨rfl, below_box HB.out⟩

/-- What holds at the head of the first loop. -/
def BfRel (W : World) (sv : Value) (Bs : List Ed) (n : Nat) (s i : Value) (wr : World) : Prop :=
  ∃ (k : Nat) (ov : Value), k ≤ n ∧ i = .int .i64 k ∧ s = .int .i64 (sumW (Bs.take k)) ∧ Below W.heap.size W wr ∧ Blk wr W.heap.size 25 #[sv, ov] ∧ OK encE 4 47 wr W.heap.size ov (Bs.take k)

set_option maxRecDepth 100000 in
set_option maxHeartbeats 16000000 in
theorem plainForest_yes (sv se : Value) (V : List Int) (E : List Ed) (w : World) (hv : RI w w.heap.size sv V) (he : RE w w.heap.size se E) (hr : rightN V E = true) :
    Calls Tryz.prog 4 #[netV sv se] w fun e w' => e = .returned (.bool true) ∧ Below w.heap.size w w' := by
  have HV := Lib.hid hv
  have HE := Lib.hid he
  have HRN := Lib.hid hr
  have HR : Hid (Right V E) := right_of hr
  have HRV : Hid (rightV V = true) := by
    show _ = _
    unfold rightN at hr
    simp only [Bool.and_eq_true] at hr
    exact hr.1
  obtain ⟨Av, cv, rfl, hv1, hv2, hv3, _⟩ := hv.open_
  obtain ⟨Ae, ce, rfl, he1, he2, he3, _⟩ := he.open_
  have hvl := HR.out.vlen
  have hel := HR.out.elen
  clear hv he hr
  obtain ⟨nV, hnV⟩ : ∃ n, n = V.length := ⟨_, rfl⟩
  obtain ⟨nE, hnE⟩ : ∃ n, n = E.length := ⟨_, rfl⟩
  rw [← hnV] at hv1 hv3 HV hvl ⊢
  rw [← hnE] at he1 he3 HE hel ⊢
  have HNV := Lib.hid hnV
  have HNE := Lib.hid hnE
  clear hnV hnE
  obtain ⟨sv, hsv⟩ : ∃ sv, sv = Value.slice Av nV cv := ⟨_, rfl⟩
  obtain ⟨se, hse⟩ : ∃ se, se = Value.slice Ae nE ce := ⟨_, rfl⟩
  rw [← hsv] at HV ⊢
  rw [← hse] at HE ⊢
  have HSv := Lib.hid hsv
  have HSe := Lib.hid hse
  clear hsv hse
  go_enter Tryz.func4, Tryz.ntmps4
  go_wp2_with fail
  refine (alive_any _).mono ?_
  rintro e w1 ⟨rfl, hb⟩
  have HB : Hid (Below (w.heap.size + 1) (w.alloc (.cells #[sv, se] 25)) w1) := hb.mono (by simp)
  have hz : w.heap.size + 1 ≤ w1.heap.size := by have := hb.size; simpa using this
  obtain ⟨b0, b1⟩ := box_cells HB.out
  clear hb
  go_wp2_with fail
  refine (Forest_ok _ _ V E _ w.heap.size (HV.out.below (below_box HB.out)) (HE.out.below (below_box HB.out)) (by omega) HRN.out).mono ?_
  rintro e w2 ⟨iv, rfl, ho, hb⟩
  have HB' : Hid (Below (w.heap.size + 1) (w.alloc (.cells #[sv, se] 25)) w2) := HB.out.trans (hb.mono (by omega))
  have hz' : w.heap.size + 1 ≤ w2.heap.size := Nat.le_trans hz hb.size
  clear HB hz b0 b1
  have HB := HB'
  have hz := hz'
  clear HB' hz'
  have hzl2 : w.heap.size < w2.heap.size := by omega
  obtain ⟨b0, b1⟩ := box_cells HB.out
  have hri : RI w2 w2.heap.size iv (forestL V E) := ho.rk encI_len (Nat.le_refl _)
  clear ho hb
  obtain ⟨n, hn⟩ : ∃ n, n = (forestL V E).length := ⟨_, rfl⟩
  obtain ⟨Ai, ci, rfl, hi1, hi2, hi3, _⟩ := hri.open_
  rw [← hn] at hi1 hi3 hri ⊢
  have HN := Lib.hid hn
  have HRi : Hid (∀ w', Below w2.heap.size w2 w' → RI w' w2.heap.size (.slice Ai n ci) (forestL V E)) := fun w' h => hri.below h
  clear hri hn
  go_wp2_with fail
  refine (trees_ok _ _ V E _ w.heap.size (HV.out.below (below_box HB.out)) (HE.out.below (below_box HB.out)) (by omega) HRN.out).mono ?_
  rintro e w3 ⟨tv, rfl, ht, hb⟩
  have HB' : Hid (Below (w.heap.size + 1) (w.alloc (.cells #[sv, se] 25)) w3) := HB.out.trans (hb.mono (by omega))
  have hz' : w.heap.size + 1 ≤ w3.heap.size := Nat.le_trans hz hb.size
  have HBi : Hid (Below w2.heap.size w2 w3) := hb
  clear HB hz b0 b1
  have HB := HB'
  have hz := hz'
  clear HB' hz'
  have hzl3 : w.heap.size < w3.heap.size := by omega
  obtain ⟨b0, b1⟩ := box_cells HB.out
  obtain ⟨m, hm⟩ : ∃ m, m = (treesL V E).length := ⟨_, rfl⟩
  obtain ⟨At, ct, rfl, ht1, ht2, ht3, _⟩ := ht.open_
  rw [← hm] at ht1 ht3 ht ⊢
  have HM := Lib.hid hm
  have HRt : Hid (∀ w', Below w3.heap.size w3 w' → RLs w' w3.heap.size (.slice At m ct) (treesL V E)) := fun w' h => ht.below h
  clear ht hm hb
  go_wp2_with fail
  refine (refCheck_any _ _ V E _ w.heap.size (HV.out.below (below_box HB.out)) (HE.out.below (below_box HB.out)) (by omega)).mono ?_
  rw [refChk_yes HRN.out]
  rintro e w4 ⟨rfl, hb⟩
  have HB' : Hid (Below (w.heap.size + 1) (w.alloc (.cells #[sv, se] 25)) w4) := HB.out.trans (hb.mono (by omega))
  have hz' : w.heap.size + 1 ≤ w4.heap.size := Nat.le_trans hz hb.size
  have HBi' : Hid (Below w2.heap.size w2 w4) := HBi.out.trans (hb.mono HBi.out.size)
  clear HBi
  have HBi := HBi'
  clear HBi'
  have HBt : Hid (Below w3.heap.size w3 w4) := hb
  clear HB hz b0 b1
  have HB := HB'
  have hz := hz'
  clear HB' hz'
  have hzl4 : w.heap.size < w4.heap.size := by omega
  obtain ⟨b0, b1⟩ := box_cells HB.out
  have hzi : w2.heap.size ≤ w4.heap.size := HBi.out.size
  have hzt : w3.heap.size ≤ w4.heap.size := HBt.out.size
  have hri := HRi.out w4 HBi.out
  have HRI := Lib.hid hri
  obtain ⟨Ai', ci', e1, _, _, _, HCi⟩ := hri.open_
  obtain ⟨rfl, rfl⟩ : Ai = Ai' ∧ ci = ci' := by injection e1 with e1 e3 e4; exact ⟨e1, e4⟩
  have HVW : Hid (RI w4 w.heap.size sv V) := HV.out.below (below_box HB.out)
  have HEW : Hid (RE w4 w.heap.size se E) := HE.out.below (below_box HB.out)
  have HNB : Hid (Blk w4 w.heap.size 25 #[sv, se]) := (Blk.new w 25 #[sv, se]).below HB.out (by omega)
  obtain ⟨Bs, hBs⟩ : ∃ Bs, Bs = bareE V E := ⟨_, rfl⟩
  have HBs := Lib.hid hBs
  have HnB : Hid (n = Bs.length) := by show _ = _; rw [hBs, bare_len, HN.out, forestL_len]
  have hnl : n ≤ 2048 := by
    have h1 := forE_len V E
    have h2 := HN.out
    rw [forestL_len, ] at h2
    have h3 := HNE.out
    omega
  clear hb hri HRi HBi e1 hBs
  have e1 := HSv.out
  have e2 := HSe.out
  clear HSv HSe
  subst e1 e2
  go_wp2_with fail
  go_loopw [8, 58] (fun s i wr => BfRel w4 (.slice Av nV cv) Bs n s i wr) (fun _ i wr => n - (intOf i).toNat)
  case atStart =>
    refine ⟨0, .slice none 0 0, Nat.zero_le _, rfl, rfl, (Below.refl _ _).alloc (Nat.le_refl _) _, ?_, OK.nil _ _⟩
    exact Blk.new w4 25 _
  case round =>
    obtain ⟨k, ov, hk, rfl, rfl, hbel, hgb, hov⟩ := hrel
    have HGb := Lib.hid hgb
    have HOv := Lib.hid hov
    have HBel := Lib.hid hbel
    have hzr := hbel.size
    have hgl := hgb.lt
    by_cases hlt : k < n
    · obtain ⟨y, hy⟩ : ∃ y, y = Bs[k]'(by have := HnB.out; omega) := ⟨_, rfl⟩
      have hkB : k < Bs.length := by have := HnB.out; omega
      have hids : Bs.map (·.id) = forestL V E := by rw [HBs.out]; exact bare_ids HR.out
      have hidk : (forestL V E)[k]'(by have := HN.out; omega) = y.id := by
        have : (Bs.map (·.id))[k]'(by simpa using hkB) = y.id := by rw [List.getElem_map, hy]
        rw [← this]
        congr 1
        exact hids.symm
      have hyF : y ∈ forE V E := (mem_bare HR.out).1 (by rw [← HBs.out, hy]; exact List.getElem_mem _)
      have hyE := forE_sub V E y hyF
      have hyw := HR.out.ew y hyE
      have hedi : edIn E y.id = y := edIn_of HR.out.eup hyE
      have hst : sumW (Bs.take (k + 1)) = sumW (Bs.take k) + y.w := by rw [List.take_succ_eq_append_getElem hkB, sumW_snoc, ← hy]
      have htk : Bs.take (k + 1) = Bs.take k ++ [y] := by rw [List.take_succ_eq_append_getElem hkB, ← hy]
      have hsb := sumW_bd (Bs.take k) fun e he => HR.out.ew e (forE_sub V E e ((mem_bare HR.out).1 (by rw [← HBs.out]; exact List.mem_of_mem_take he)))
      have hsl : (Bs.take k).length ≤ 2048 := by rw [List.length_take]; omega
      obtain ⟨bi, oi, rfl, hbi, hxi⟩ := HCi.out k (by have := HN.out; omega)
      rw [hidk] at hxi
      have hxi := cellI hxi
      have hxi := (hbel.cell (p := ⟨bi, oi + k, none⟩) (by show bi < _; omega)).trans hxi
      have hnb := HNB.out.below hbel (by omega)
      obtain ⟨s, hs⟩ : ∃ s, s = sumW (Bs.take k) := ⟨_, rfl⟩
      rw [← hs] at hst hsb
      rw [← hs]
      have hs1 : 0 ≤ s := hsb.1
      have hs2 : s ≤ 2251799813685248 := by have := hsb.2; omega
      have hew1 : 0 ≤ y.w := hyw.1
      have hew2 : y.w ≤ 1099511627776 := hyw.2
      have hbl : (Bs.take k).length + 1 ≤ 1000000 := by omega
      obtain ⟨xs, hxs⟩ : ∃ xs, xs = Bs.take k := ⟨_, rfl⟩
      rw [← hxs] at HOv htk hbl
      have HSt := Lib.hid hst
      have HTk := Lib.hid htk
      have HEd := Lib.hid hedi
      have HNb := Lib.hid hnb
      have hree : RE wr w.heap.size (.slice Ae nE ce) E := HEW.out.below (hbel.mono (by omega))
      have HREE := Lib.hid hree
      clear hy hkB hids hidk hyF hyE hyw hedi hst htk hsb hsl hs hxs hbel hgb hov hnb hree
      obtain ⟨eid, eu, ev, ew⟩ := y
      dsimp only at *
      go_wp2_with fail
      rename_i K hK
      refine wp_region_slots (SBare w4.heap.size w4.heap.size (.slice Av nV cv) (.slice Ae nE ce) ov xs ⟨eid, eu, ev, ew⟩) (IBare w4.heap.size w4.heap.size w.heap.size w4.heap.size (.slice Av nV cv) (.slice Ae nE ce) ov xs ⟨eid, eu, ev, ew⟩ w4) (by kernel_rfl) (by kernel_rfl) (by kernel_rfl) ?_ ?_ ?_
      · refine ⟨HBel.out.drew, HNb.out.drew, fun _ => HGb.out.drew, fun _ => HOv.out.drew, fun h => by simp at h, fun h => by simp at h, fun h => by simp at h, fun h => by simp at h, fun h => by simp at h⟩
      · intro L a w5 q o' h ho h0 hd
        have hlow := h.world.low
        have hz5 := hlow.size
        have hree : RE w5 w.heap.size (.slice Ae nE ce) E := HEW.out.below (hlow.mono (by omega))
        revert L a w5
        revert q o'
        refine each_array ?_
        refine ⟨?_, ?_, ?_, ?_, ?_, ?_, ?_, ?_, ?_, trivial⟩ <;> intro L a w5 h h0 hd hlow hz5 hree
        · exact h.val rfl rfl (rb_field w5 (h.still 7 (by kernel_rfl))) (h.world.step (Below.refl _ _) hz5 (by decide) (by decide)) rfl
        · have h8 : L.getD 8 false = false := by
            cases h8 : L.getD 8 false with
            | false => rfl
            | true => have := h.world.u81 h8; rw [h0] at this; cases this
          exact h.val rfl rfl (rb_load w5 (h.ran 0 _ 62 rfl rfl (hd ⟨0, .data⟩ (by simp) rfl)) ((h.world.old h8).cell 1)) (h.world.step (Below.refl _ _) hz5 (by decide) (by decide)) rfl
        · exact h.val rfl rfl (ro_loadNet w5 (h.still 1 (by kernel_rfl)) (h.world.net.cell 0) (h.world.net.cell 1)) (h.world.step (Below.refl _ _) hz5 (by decide) (by decide)) rfl
        · exact h.val rfl rfl (ro_move w5 (h.still 10 (by kernel_rfl))) (h.world.step (Below.refl _ _) hz5 (by decide) (by decide)) rfl
        · have r2 := h.ran 2 _ 64 rfl rfl (hd ⟨2, .data⟩ (by simp) rfl)
          have r3 := h.ran 3 _ 65 rfl rfl (hd ⟨3, .data⟩ (by simp) rfl)
          have hc := edgeOf_any (.slice Av nV cv) (.slice Ae nE ce) E eid w5 w.heap.size hree (by omega)
          rw [HEd.out] at hc
          refine h.call rfl rfl (ro_call2 cf_edgeOf w5 r2 r3) (hc.mono ?_)
          rintro r w6 ⟨rfl, hb6⟩
          exact ⟨_, rfl, fun k u _ hs => sbare_below k u w5 w6 hs hb6, h.world.step hb6 hz5 (by decide) (by decide), rfl⟩
        · have r4 := h.ran 4 _ 66 rfl rfl (hd ⟨4, .data⟩ (by simp) rfl)
          have hb6 : Below w5.heap.size w5 (w5.alloc (.cells #[.int .i64 eid, .int .i64 eu, .int .i64 ev, .int .i64 ew] 47)) := (Below.refl _ _).alloc (Nat.le_refl _) _
          have h6 : L.getD 6 false = false := by
            cases h6 : L.getD 6 false with
            | false => rfl
            | true => have := h.world.u65 h6; rw [h0] at this; cases this
          refine h.mem rfl rfl (rb_slice w5 r4) (fun k u _ hs => sbare_below k u w5 _ hs hb6) (h.world.step hb6 hz5 (by decide) (by decide)) ⟨w5.heap.size, rfl, Blk.new _ _ _, ?_⟩
          intro e
          have := ((h.world.own h6).lt _ e).2
          omega
        · have r1 := h.ran 1 _ 63 rfl rfl (hd ⟨1, .data⟩ (by simp) rfl)
          obtain ⟨hh, r5, hbk, hne⟩ := h.ran 5 _ 67 rfl rfl (hd ⟨5, .data⟩ (by simp) rfl)
          obtain ⟨v', w6, hrun, hok, hg, _⟩ := ro_app1 (a := a) etEdges encE_len encE_one r1 (h.world.own h0) hh r5 (y := ⟨eid, eu, ev, ew⟩) (fun j u hu => by rw [hbk.cell, ← hu, ← Array.getElem?_toList]) hbl hz5
          refine h.mem rfl rfl hrun ?_ (h.world.append h0 (hd ⟨1, .data⟩ (by simp) rfl) (hd ⟨5, .data⟩ (by simp) rfl) (by have := h.sized; rw [this]; decide) hz5 (Nat.le_refl _) hg) hok
          intro k u hk' hs
          match k, hk', hs with
          | 0, _, hs => exact hs
          | 1, _, hs => exact hs
          | 2, _, hs => exact hs
          | 3, _, hs => exact hs
          | 4, _, hs => exact hs
          | 5, _, ⟨h', e1, e2, e3⟩ => exact ⟨h', e1, e2.grown hg (Ne.symm e3), e3⟩
          | 6, hk', _ => rw [h0] at hk'; cases hk'
          | 7, _, hs => exact hs
          | _ + 8, _, hs => exact hs
        · exact h.val rfl rfl (rb_field w5 (h.still 7 (by kernel_rfl))) (h.world.step (Below.refl _ _) hz5 (by decide) (by decide)) rfl
        · have r7 := h.ran 7 _ 69 rfl rfl (hd ⟨7, .data⟩ (by simp) rfl)
          have r6 : OK encE 4 47 w5 w4.heap.size (a.tmps.getD 68 undef) (xs ++ [⟨eid, eu, ev, ew⟩]) := h.ran 6 _ 68 rfl rfl (hd ⟨6, .data⟩ (by simp) rfl)
          obtain ⟨A', c', e6⟩ := r6.slice
          rw [e6] at r6
          have hol := h.world.old h0
          refine h.skip rfl rfl (rb_store w5 r7 e6 (hol.cell 1) (hol.frozen 1)) ?_ (h.world.store h0 (hd ⟨6, .data⟩ (by simp) rfl) (by have := h.sized; rw [this]; decide) (Nat.le_refl _) (by omega) r6) trivial
          intro k u hk' hs
          match k, hk', hs with
          | 0, _, hs => exact hs
          | 1, _, hs => exact hs
          | 2, _, hs => exact hs
          | 3, _, hs => exact hs
          | 4, _, hs => exact hs
          | 5, _, ⟨h', e1, e2, e3⟩ => exact ⟨h', e1, e2.far (p := ⟨w4.heap.size, 1, none⟩) (e2.ne_ hol (by decide)) _, e3⟩
          | 6, _, hs => exact OK.kept hs (grownBy_set w4.heap.size 1 _) (.inr (OK.ne_blk hs hol (by decide)))
          | 7, _, hs => exact hs
          | _ + 8, _, hs => exact hs
      · intro L a w5 hL hdf hsz' hw hother hall
        obtain ⟨v', hv', hgb'⟩ := hw.fin (hL 8 (by decide))
        have hlow := hw.low
        have hnet := hw.net
        refine hK _ _ ?_
        obtain ⟨tm, df⟩ := a
        obtain rfl : df = [] := hdf
        have htm := tmps_eq [62, 63, 64, 65, 66, 67, 68, 69] (by kernel_rfl) hsz' hother
        dsimp only at htm
        simp only [List.foldl] at htm
        generalize tm.getD 62 undef = y62 at htm
        generalize tm.getD 63 undef = y63 at htm
        generalize tm.getD 64 undef = y64 at htm
        generalize tm.getD 65 undef = y65 at htm
        generalize tm.getD 66 undef = y66 at htm
        generalize tm.getD 67 undef = y67 at htm
        generalize tm.getD 68 undef = y68 at htm
        generalize tm.getD 69 undef = y69 at htm
        clear hother hall hsz' hw
        rw [htm]
        clear htm
        have HLow := Lib.hid hlow
        have HG' := Lib.hid hgb'
        have HV' := Lib.hid hv'
        have hz5 := hlow.size
        have c0 : w5.cell? ⟨w.heap.size, 0, none⟩ = some (.slice Av nV cv) := hnet.cell 0
        have c1 : w5.cell? ⟨w.heap.size, 1, none⟩ = some (.slice Ae nE ce) := hnet.cell 1
        clear hlow hgb' hv' hnet hL
        simp only [List.setIfInBounds_toArray, List.set_cons_succ, List.set_cons_zero]
        go_wp2_with fail
        refine (edgeOf_any _ _ E eid _ w.heap.size (HEW.out.below (HLow.out.mono (by omega))) (by omega)).mono ?_
        rw [HEd.out]
        rintro e w6 ⟨rfl, hb6⟩
        have HG6 := Lib.hid (HG'.out.below hb6 HG'.out.lt)
        have HV6 := Lib.hid (HV'.out.below hb6)
        have HL6 := Lib.hid (HLow.out.trans (hb6.mono hz5))
        clear hb6 c0 c1
        have hfl := field_w eid eu ev ew w6
        go_wp2_with fail
        go_roundw
        case measure => simp [intOf]; omega
        case rel => exact ⟨k + 1, v', by omega, by go_num, by rw [HSt.out], HL6.out, HG6.out, by rw [HTk.out]; exact HV6.out⟩
    · obtain rfl : k = n := by omega
      have htk : Bs.take k = Bs := by rw [HnB.out, List.take_length]
      have hs0 : sumW Bs = weightV V E := by rw [HBs.out]; exact bare_sum HR.out
      have hsb := sumW_bd Bs fun e he => HR.out.ew e (forE_sub V E e ((mem_bare HR.out).1 (by rw [← HBs.out]; exact he)))
      have hsl := HnB.out
      have hcnt : (nV : Int) - (m : Int) = (k : Int) := by
        have h1 := forest_count HR.out
        have h2 := HN.out
        have h3 := HM.out
        have h4 := HNV.out
        omega
      have hml : m ≤ nV := by omega
      have hlr : RE wr wr.heap.size ov (bareE V E) := by
        have := HOv.out.rk encE_len (Nat.le_refl _)
        rw [htk, HBs.out] at this; exact this
      have hvr : RI wr wr.heap.size (.slice Av nV cv) V := (HVW.out.below (HBel.out.mono (by omega))).more (by omega)
      have hnb := HNB.out.below HBel.out (by omega)
      have hwl : w.heap.size < wr.heap.size := by omega
      have g0 : wr.cell? ⟨w4.heap.size, 0, none⟩ = some (.slice Av nV cv) := hgb.cell 0
      have g1 : wr.cell? ⟨w4.heap.size, 1, none⟩ = some ov := hgb.cell 1
      rw [htk]
      obtain ⟨s, hs⟩ : ∃ s, s = sumW Bs := ⟨_, rfl⟩
      rw [← hs] at hs0 hsb
      rw [← hs]
      have hs1 : 0 ≤ s := hsb.1
      have hs2 : s ≤ 2251799813685248 := by have := hsb.2; omega
      have HS0 := Lib.hid hs0
      have HCnt := Lib.hid hcnt
      have HNb := Lib.hid hnb
      have HLR := Lib.hid hlr
      have HVR := Lib.hid hvr
      clear hs hsb hsl hs0 hcnt hnb hlr hvr htk hbel hgb hov
      go_wp2_with fail
      refine (trees_ok _ _ V (bareE V E) _ wr.heap.size HVR.out HLR.out (Nat.le_refl _) (bare_right HR.out HRV.out)).mono ?_
      rw [trees_bare HR.out HRV.out]
      rintro e w6 ⟨uv, rfl, hu, hb⟩
      obtain ⟨Au, cu, rfl, hu1, hu2, hu3, _⟩ := hu.open_
      rw [← HM.out] at hu hu1 hu3 ⊢
      have hz6 := hb.size
      have HNb6 : Hid (Blk w6 w.heap.size 25 #[.slice Av nV cv, .slice Ae nE ce]) := HNb.out.below hb hwl
      have HB6 : Hid (Below w4.heap.size w4 w6) := HBel.out.trans (hb.mono hzr)
      have HRu : Hid (∀ w', Below w6.heap.size w6 w' → RLs w' w6.heap.size (.slice Au m cu) (treesL V E)) := fun w' h => hu.below h
      have c0 : w6.cell? ⟨w.heap.size, 0, none⟩ = some (.slice Av nV cv) := HNb6.out.cell 0
      have c1 : w6.cell? ⟨w.heap.size, 1, none⟩ = some (.slice Ae nE ce) := HNb6.out.cell 1
      clear hb hu g0 g1 HNb HBel HLR HVR
      go_wp2_with fail
      refine (Weight_ok _ _ V E _ w.heap.size (HVW.out.below (HB6.out.mono (by omega))) (HEW.out.below (HB6.out.mono (by omega))) (by omega) HRN.out).mono ?_
      rintro e w7 ⟨rfl, hb⟩
      have hz7 := hb.size
      have HNb7 : Hid (Blk w7 w.heap.size 25 #[.slice Av nV cv, .slice Ae nE ce]) := HNb6.out.below hb (by omega)
      have HB7 : Hid (Below w4.heap.size w4 w7) := HB6.out.trans (hb.mono (by omega))
      have hru := HRu.out w7 hb
      have hrt := HRt.out w7 (HBt.out.trans (HB7.out.mono hzt))
      obtain ⟨Au', cu', e1, _, _, _, HCu⟩ := hru.open_
      obtain ⟨At', ct', e2, _, _, _, HCt⟩ := hrt.open_
      obtain ⟨rfl, rfl⟩ : Au = Au' ∧ cu = cu' := by injection e1 with e1 e3 e4; exact ⟨e1, e4⟩
      obtain ⟨rfl, rfl⟩ : At = At' ∧ ct = ct' := by injection e2 with e1 e3 e4; exact ⟨e1, e4⟩
      have c0 : w7.cell? ⟨w.heap.size, 0, none⟩ = some (.slice Av nV cv) := HNb7.out.cell 0
      have c1 : w7.cell? ⟨w.heap.size, 1, none⟩ = some (.slice Ae nE ce) := HNb7.out.cell 1
      have hcnt := HCnt.out
      clear hb hru hrt e1 e2 HRu HRt HBt HNb6 HB6
      rw [← HS0.out]
      by_cases hbig : 70368744177664 < s
      · rw [toldT_hi hbig]
        have hbig' : ¬ s ≤ 70368744177664 := by omega
        go_wp2_with fail
        clear hcnt
        go_loopw [125] (fun i wr => ∃ j : Nat, j ≤ m ∧ i = .int .i64 j ∧ Below w7.heap.size w7 wr) (fun i wr => m - (intOf i).toNat)
        case atStart => exact ⟨0, Nat.zero_le _, rfl, Below.refl _ _⟩
        case round =>
          obtain ⟨j, hj, rfl, hbel⟩ := hrel
          have hzr7 := hbel.size
          by_cases hjl : j < m
          · obtain ⟨bt, ot, st, rfl, hbt, hct, hrt⟩ := HCt.out j (by have := HM.out; omega)
            obtain ⟨bu, ou, su, rfl, hbu, hcu, hru⟩ := HCu.out j (by have := HM.out; omega)
            have hct := (hbel.cell (p := ⟨bt, ot + j, none⟩) (by show bt < _; omega)).trans hct
            have hcu := (hbel.cell (p := ⟨bu, ou + j, none⟩) (by show bu < _; omega)).trans hcu
            have HR1 := Lib.hid (hrt.below (hbel.mono (by omega)))
            have HR2 := Lib.hid (hru.below (hbel.mono (by omega)))
            obtain ⟨ls, hls⟩ : ∃ l, l = (treesL V E)[j]'(by have := HM.out; omega) := ⟨_, rfl⟩
            rw [← hls] at HR1 HR2
            obtain ⟨A1, c1', rfl, _, _, _, _⟩ := HR1.out.open_
            obtain ⟨A2, c2', rfl, _, _, _, _⟩ := HR2.out.open_
            obtain ⟨ll, hll⟩ : ∃ n, n = ls.length := ⟨_, rfl⟩
            rw [← hll] at HR1 HR2 hct hcu
            have HBel := Lib.hid hbel
            clear hrt hru hls hll hbel
            go_wp2_with fail
            go_quiet ((go_at_call 27; exact Calls.quiet_of (SameInts_yes _ _ ls _ _ _ (HR1.out.drewN _) (HR2.out.drewN _))))
            go_wp2_with fail
            go_roundw
            case rel => exact ⟨j + 1, by omega, by go_num, below_drewN HBel.out _⟩
            case measure => simp [intOf]; omega
          · obtain rfl : j = m := by omega
            have hX : ∃ X, X = wr := ⟨_, rfl⟩
            obtain ⟨X, hX⟩ := hX
            rw [← hX] at hbel hzr7 ⊢
            clear hX
            have HNX := Lib.hid (HNb7.out.below hbel (by omega))
            have HBX : Hid (Below w4.heap.size w4 X) := HB7.out.trans (hbel.mono (by omega))
            have c0 : X.cell? ⟨w.heap.size, 0, none⟩ = some (.slice Av nV cv) := HNX.out.cell 0
            have c1 : X.cell? ⟨w.heap.size, 1, none⟩ = some (.slice Ae nE ce) := HNX.out.cell 1
            have hzX : w.heap.size < X.heap.size := by omega
            have hzX4 : w4.heap.size ≤ X.heap.size := by omega
            have HEX : Hid (RE X w.heap.size (.slice Ae nE ce) E) := HEW.out.below (HBX.out.mono (by omega))
            have HVX : Hid (RI X w.heap.size (.slice Av nV cv) V) := HVW.out.below (HBX.out.mono (by omega))
            have HIX : Hid (RI X w2.heap.size (.slice Ai k ci) (forestL V E)) := HRI.out.below (HBX.out.mono (by omega))
            obtain ⟨Ae', ce', e1, _, _, _, HCe⟩ := HEX.out.open_
            obtain ⟨rfl, rfl⟩ : Ae = Ae' ∧ ce = ce' := by injection e1 with e1 e3 e4; exact ⟨e1, e4⟩
            clear e1 hbel HB7 HNb7 HCt HCu
            go_wp2_with fail
            go_loopw [142] (fun i wr => ∃ j : Nat, j ≤ nE ∧ i = .int .i64 j ∧ Below X.heap.size X wr) (fun i wr => nE - (intOf i).toNat)
            case atStart => exact ⟨0, Nat.zero_le _, rfl, Below.refl _ _⟩
            case round =>
              obtain ⟨j3, hj3, rfl, hbel⟩ := hrel
              have hzr3 := hbel.size
              have HBel := Lib.hid hbel
              by_cases hj3l : j3 < nE
              · obtain ⟨be, oe, rfl, hbe, hx⟩ := HCe.out j3 (by have := HNE.out; omega)
                obtain ⟨x, hxe⟩ : ∃ x, x = E[j3]'(by have := HNE.out; omega) := ⟨_, rfl⟩
                have HXE : Hid (x ∈ E) := by show _ ∈ _; rw [hxe]; exact List.getElem_mem _
                rw [← hxe] at hx
                obtain ⟨x0, x1, x2, x3⟩ := cellE hx
                have x0 := (hbel.cell (p := ⟨be, oe + j3 * 4, none⟩) (by show be < _; omega)).trans x0
                have x1 := (hbel.cell (p := ⟨be, oe + j3 * 4 + 1, none⟩) (by show be < _; omega)).trans x1
                have x2 := (hbel.cell (p := ⟨be, oe + j3 * 4 + 2, none⟩) (by show be < _; omega)).trans x2
                have x3 := (hbel.cell (p := ⟨be, oe + j3 * 4 + 3, none⟩) (by show be < _; omega)).trans x3
                have hnb := HNX.out.below hbel hzX
                have c0 : wr.cell? ⟨w.heap.size, 0, none⟩ = some (.slice Av nV cv) := hnb.cell 0
                have c1 : wr.cell? ⟨w.heap.size, 1, none⟩ = some (.slice (some ⟨be, oe, none⟩) nE ce) := hnb.cell 1
                have hwl3 : w.heap.size < wr.heap.size := by omega
                have HP : Hid (pathErr V E x.u x.v = 0) := edge_path HR.out HRN.out HXE.out
                have HVr := Lib.hid (HVX.out.below (hbel.mono (by omega)))
                have HEr := Lib.hid (HEX.out.below (hbel.mono (by omega)))
                clear hx hxe hnb hbel
                obtain ⟨xid, xu, xv, xw⟩ := x
                dsimp only at *
                go_wp2_with fail
                refine (Path_ok _ _ V E xu xv _ w.heap.size (HVr.out.alloc (by omega) _) (HEr.out.alloc (by omega) _) (by simp; omega) HP.out).mono ?_
                rintro e w9 ⟨pv, rfl, ho, hb⟩
                have hri : RI w9 w9.heap.size pv ((pathL V E xu xv).map (·.id)) := ho.rk encI_len (Nat.le_refl _)
                obtain ⟨Ap, cp, rfl, hp1, hp2, hp3, HCp⟩ := hri.open_
                obtain ⟨l, hl⟩ : ∃ n, n = ((pathL V E xu xv).map (·.id)).length := ⟨_, rfl⟩
                rw [← hl] at hp1 hp3 ⊢
                have HLl := Lib.hid hl
                have HXB : Hid (Blk w9 wr.heap.size 47 #[.int .i64 xid, .int .i64 xu, .int .i64 xv, .int .i64 xw]) := (Blk.new wr 47 _).below hb (by simp)
                have hz9 : wr.heap.size < w9.heap.size := by have := hb.size; simp at this; omega
                have HB9 : Hid (Below X.heap.size X w9) := (HBel.out.alloc (by omega) _).trans (hb.mono (by simp; omega))
                have hz9X : X.heap.size ≤ w9.heap.size := HB9.out.size
                clear ho hb hri hl
                go_wp2_with fail
                obtain ⟨xb, hxb⟩ : ∃ xb, xb = wr.heap.size := ⟨_, rfl⟩
                rw [← hxb] at HXB hz9 ⊢
                clear hxb
                go_loopw [159] (fun i wr => ∃ t : Nat, t ≤ l ∧ i = .int .i64 t ∧ Below w9.heap.size w9 wr) (fun i wr => l - (intOf i).toNat)
                case atStart => exact ⟨0, Nat.zero_le _, rfl, Below.refl _ _⟩
                case round =>
                  obtain ⟨t, ht, rfl, hb5⟩ := hrel
                  have hz5 := hb5.size
                  have HB5 : Hid (Below X.heap.size X _) := HB9.out.trans (hb5.mono (by omega))
                  have hzXr := HB5.out.size
                  by_cases htl : t < l
                  · obtain ⟨y, hy⟩ : ∃ y, y = (pathL V E xu xv)[t]'(by have := HLl.out; rw [List.length_map] at this; omega) := ⟨_, rfl⟩
                    have hym : y ∈ pathL V E xu xv := by rw [hy]; exact List.getElem_mem _
                    obtain ⟨hyE, hyc⟩ := path_ids HP.out y hym
                    have hidt : ((pathL V E xu xv).map (·.id))[t]'(by have := HLl.out; omega) = y.id := by rw [List.getElem_map, hy]
                    obtain ⟨bp, op, rfl, hbp, hxp⟩ := HCp.out t (by have := HLl.out; omega)
                    rw [hidt] at hxp
                    have hxp := cellI hxp
                    have hxp := (hb5.cell (p := ⟨bp, op + t, none⟩) (by show bp < _; omega)).trans hxp
                    have HYc := Lib.hid hyc
                    have HEd : Hid (edIn E y.id = y) := edIn_of HR.out.eup hyE
                    have HLo : Hid ((forestL V E).contains xid = false → ltW y ⟨xid, xu, xv, xw⟩ = true) := fun hc => left_out HR.out HXE.out hc HP.out y hym
                    have HXB5 := Lib.hid (HXB.out.below hb5 hz9)
                    have HB5' := Lib.hid hb5
                    clear hy hym hyE hyc hidt hb5
                    obtain ⟨yid, yu, yv, yw⟩ := y
                    dsimp only at *
                    cases hc : (forestL V E).contains xid with
                    | true =>
                      have HC := Lib.hid hc
                      clear hc
                      go_wp2_with fail
                      rename_i K hK
                      refine wp_region_slots (SLast xb (netV (.slice Av nV cv) (.slice (some ⟨be, oe, none⟩) nE ce)) (.slice Ai k ci) ⟨xid, xu, xv, xw⟩ ⟨yid, yu, yv, yw⟩ true) (fun _ w7 => Below wr.heap.size wr w7) (by kernel_rfl) (by kernel_rfl) (by kernel_rfl) ((Below.refl _ _).drew) ?_ ?_
                      · intro L a w7 q o' h ho h0 hd
                        have hlow : Below wr.heap.size wr w7 := h.world
                        have hz7' := hlow.size
                        have hbx : Below X.heap.size X w7 := HB5.out.trans (hlow.mono (by omega))
                        have hids : RI w7 w2.heap.size (.slice Ai k ci) (forestL V E) := HIX.out.below (hbx.mono (by omega))
                        have hx7 := HXB5.out.below hlow (by omega)
                        have hn7 := HNX.out.below hbx hzX
                        have he7 : RE w7 w.heap.size (.slice (some ⟨be, oe, none⟩) nE ce) E := HEX.out.below (hbx.mono (by omega))
                        revert L a w7
                        revert q o'
                        refine each_array ?_
                        refine ⟨?_, ?_, ?_, ?_, ?_, ?_, ?_, ?_, ?_, ?_, ?_, ?_, ?_, ?_, ?_, ?_, ?_, ?_, ?_, trivial⟩ <;> intro L a w7 h h0 hd hlow hz7' hbx hids hx7 hn7 he7
                        · exact h.val rfl rfl (ro_move w7 (h.still 3 (by kernel_rfl))) hlow rfl
                        · exact h.val rfl rfl (ro_move w7 (h.still 21 (by kernel_rfl))) hlow rfl
                        · refine h.call rfl rfl (ro_call2 cf_Has w7 (h.ran 0 _ 163 rfl rfl (hd ⟨0, .data⟩ (by simp) rfl)) (h.ran 1 _ 164 rfl rfl (hd ⟨1, .data⟩ (by simp) rfl))) ((Has_any _ (forestL V E) yid true HYc.out w7 _ hids).mono ?_)
                          rintro r w8 ⟨rfl, rfl⟩
                          exact ⟨_, rfl, fun _ _ _ h => h, hlow, rfl⟩
                        · exact h.val rfl rfl (ro_not w7 (h.ran 2 _ 165 rfl rfl (hd ⟨2, .data⟩ (by simp) rfl))) hlow rfl
                        · exact h.val rfl rfl (ro_move w7 (h.ran 3 _ 166 rfl rfl (hd ⟨3, .data⟩ (by simp) rfl))) hlow rfl
                        · exact h.valG rfl (wanted_of rfl rfl rfl (h.ran 4 _ 167 rfl rfl (hd ⟨4, .guard⟩ (by simp) rfl))) (ro_move w7 (h.still 3 (by kernel_rfl))) hlow rfl
                        · exact h.valG rfl (wanted_of rfl rfl rfl (h.ran 4 _ 167 rfl rfl (hd ⟨4, .guard⟩ (by simp) rfl))) (ro_fieldE w7 (by decide) (h.still 17 (by kernel_rfl))) hlow rfl
                        · exact h.valG rfl (wanted_of rfl rfl rfl (h.ran 4 _ 167 rfl rfl (hd ⟨4, .guard⟩ (by simp) rfl))) (ro_loadI w7 (h.ran 6 _ 169 rfl rfl (hd ⟨6, .data⟩ (by simp) rfl)) (hx7.cell 0)) hlow rfl
                        · refine h.callG rfl (wanted_of rfl rfl rfl (h.ran 4 _ 167 rfl rfl (hd ⟨4, .guard⟩ (by simp) rfl))) (ro_call2 cf_Has w7 (h.ran 5 _ 168 rfl rfl (hd ⟨5, .data⟩ (by simp) rfl)) (h.ran 7 _ 170 rfl rfl (hd ⟨7, .data⟩ (by simp) rfl))) ((Has_any _ (forestL V E) xid true HC.out w7 _ hids).mono ?_)
                          rintro r w8 ⟨rfl, rfl⟩
                          exact ⟨_, rfl, fun _ _ _ h => h, hlow, rfl⟩
                        · exact h.valG rfl (wanted_of rfl rfl rfl (h.ran 4 _ 167 rfl rfl (hd ⟨4, .guard⟩ (by simp) rfl))) (ro_not w7 (h.ran 8 _ 171 rfl rfl (hd ⟨8, .data⟩ (by simp) rfl))) hlow rfl
                        · exact h.valG rfl (wanted_of rfl rfl rfl (h.ran 4 _ 167 rfl rfl (hd ⟨4, .guard⟩ (by simp) rfl))) (ro_move w7 (h.ran 9 _ 172 rfl rfl (hd ⟨9, .data⟩ (by simp) rfl))) hlow rfl
                        · exact h.passG rfl (unwanted_of rfl rfl rfl (h.ran 10 _ 173 rfl rfl (hd ⟨10, .guard⟩ (by simp) rfl)) (by decide)) hlow (fun e => by cases e)
                        · exact h.passG rfl (unwanted_of rfl rfl rfl (h.ran 10 _ 173 rfl rfl (hd ⟨10, .guard⟩ (by simp) rfl)) (by decide)) hlow (fun e => by cases e)
                        · exact h.passG rfl (unwanted_of rfl rfl rfl (h.ran 10 _ 173 rfl rfl (hd ⟨10, .guard⟩ (by simp) rfl)) (by decide)) hlow (fun e => by cases e)
                        · exact h.passG rfl (unwanted_of rfl rfl rfl (h.ran 10 _ 173 rfl rfl (hd ⟨10, .guard⟩ (by simp) rfl)) (by decide)) hlow (fun e => by cases e)
                        · exact h.passG rfl (unwanted_of rfl rfl rfl (h.ran 10 _ 173 rfl rfl (hd ⟨10, .guard⟩ (by simp) rfl)) (by decide)) hlow (fun e => by cases e)
                        · exact h.passG rfl (unwanted_of rfl rfl rfl (h.ran 10 _ 173 rfl rfl (hd ⟨10, .guard⟩ (by simp) rfl)) (by decide)) hlow (fun e => by cases e)
                        · exact h.valG rfl (wanted_of rfl rfl rfl (h.ran 4 _ 167 rfl rfl (hd ⟨4, .guard⟩ (by simp) rfl))) (ro_pickF (v := .bool false) w7 (h.ran 10 _ 173 rfl rfl (hd ⟨10, .data⟩ (by simp) rfl)) (fun e => by cases e)) hlow rfl
                        · exact h.val rfl rfl (ro_pickT w7 (h.ran 4 _ 167 rfl rfl (hd ⟨4, .data⟩ (by simp) rfl)) (h.ran 17 _ 180 rfl rfl (hd ⟨17, .data⟩ (by simp) rfl))) hlow rfl
                      · intro L a w7 hL hdf hsz' hw hother hall
                        have h18 : a.tmps.getD 181 undef = .bool false := hall 18 _ 181 rfl rfl
                        have HW7 : Hid (Below wr.heap.size wr w7) := hw
                        refine hK _ _ ?_
                        obtain ⟨tm, df⟩ := a
                        obtain rfl : df = [] := hdf
                        have htm := tmps_eq [163, 164, 165, 166, 167, 168, 169, 170, 171, 172, 173, 174, 175, 176, 177, 178, 179, 180, 181] (by kernel_rfl) hsz' hother
                        dsimp only at htm h18
                        simp only [List.foldl] at htm
                        rw [h18] at htm
                        generalize tm.getD 163 undef = y163 at htm
                        generalize tm.getD 164 undef = y164 at htm
                        generalize tm.getD 165 undef = y165 at htm
                        generalize tm.getD 166 undef = y166 at htm
                        generalize tm.getD 167 undef = y167 at htm
                        generalize tm.getD 168 undef = y168 at htm
                        generalize tm.getD 169 undef = y169 at htm
                        generalize tm.getD 170 undef = y170 at htm
                        generalize tm.getD 171 undef = y171 at htm
                        generalize tm.getD 172 undef = y172 at htm
                        generalize tm.getD 173 undef = y173 at htm
                        generalize tm.getD 174 undef = y174 at htm
                        generalize tm.getD 175 undef = y175 at htm
                        generalize tm.getD 176 undef = y176 at htm
                        generalize tm.getD 177 undef = y177 at htm
                        generalize tm.getD 178 undef = y178 at htm
                        generalize tm.getD 179 undef = y179 at htm
                        generalize tm.getD 180 undef = y180 at htm
                        clear hother hall hsz' hw h18 hL
                        rw [htm]
                        clear htm
                        simp only [List.setIfInBounds_toArray, List.set_cons_succ, List.set_cons_zero]
                        go_wp2_with fail
                        go_roundw
                        case rel => exact ⟨t + 1, by omega, by go_num, HB5'.out.trans (HW7.out.mono hz5)⟩
                        case measure => simp [intOf]; omega
                    | false =>
                      have HC := Lib.hid hc
                      clear hc
                      go_wp2_with fail
                      rename_i K hK
                      refine wp_region_slots (SLast xb (netV (.slice Av nV cv) (.slice (some ⟨be, oe, none⟩) nE ce)) (.slice Ai k ci) ⟨xid, xu, xv, xw⟩ ⟨yid, yu, yv, yw⟩ false) (fun _ w7 => Below wr.heap.size wr w7) (by kernel_rfl) (by kernel_rfl) (by kernel_rfl) ((Below.refl _ _).drew) ?_ ?_
                      · intro L a w7 q o' h ho h0 hd
                        have hlow : Below wr.heap.size wr w7 := h.world
                        have hz7' := hlow.size
                        have hbx : Below X.heap.size X w7 := HB5.out.trans (hlow.mono (by omega))
                        have hids : RI w7 w2.heap.size (.slice Ai k ci) (forestL V E) := HIX.out.below (hbx.mono (by omega))
                        have hx7 := HXB5.out.below hlow (by omega)
                        have hn7 := HNX.out.below hbx hzX
                        have he7 : RE w7 w.heap.size (.slice (some ⟨be, oe, none⟩) nE ce) E := HEX.out.below (hbx.mono (by omega))
                        revert L a w7
                        revert q o'
                        refine each_array ?_
                        refine ⟨?_, ?_, ?_, ?_, ?_, ?_, ?_, ?_, ?_, ?_, ?_, ?_, ?_, ?_, ?_, ?_, ?_, ?_, ?_, trivial⟩ <;> intro L a w7 h h0 hd hlow hz7' hbx hids hx7 hn7 he7
                        · exact h.val rfl rfl (ro_move w7 (h.still 3 (by kernel_rfl))) hlow rfl
                        · exact h.val rfl rfl (ro_move w7 (h.still 21 (by kernel_rfl))) hlow rfl
                        · refine h.call rfl rfl (ro_call2 cf_Has w7 (h.ran 0 _ 163 rfl rfl (hd ⟨0, .data⟩ (by simp) rfl)) (h.ran 1 _ 164 rfl rfl (hd ⟨1, .data⟩ (by simp) rfl))) ((Has_any _ (forestL V E) yid true HYc.out w7 _ hids).mono ?_)
                          rintro r w8 ⟨rfl, rfl⟩
                          exact ⟨_, rfl, fun _ _ _ h => h, hlow, rfl⟩
                        · exact h.val rfl rfl (ro_not w7 (h.ran 2 _ 165 rfl rfl (hd ⟨2, .data⟩ (by simp) rfl))) hlow rfl
                        · exact h.val rfl rfl (ro_move w7 (h.ran 3 _ 166 rfl rfl (hd ⟨3, .data⟩ (by simp) rfl))) hlow rfl
                        · exact h.valG rfl (wanted_of rfl rfl rfl (h.ran 4 _ 167 rfl rfl (hd ⟨4, .guard⟩ (by simp) rfl))) (ro_move w7 (h.still 3 (by kernel_rfl))) hlow rfl
                        · exact h.valG rfl (wanted_of rfl rfl rfl (h.ran 4 _ 167 rfl rfl (hd ⟨4, .guard⟩ (by simp) rfl))) (ro_fieldE w7 (by decide) (h.still 17 (by kernel_rfl))) hlow rfl
                        · exact h.valG rfl (wanted_of rfl rfl rfl (h.ran 4 _ 167 rfl rfl (hd ⟨4, .guard⟩ (by simp) rfl))) (ro_loadI w7 (h.ran 6 _ 169 rfl rfl (hd ⟨6, .data⟩ (by simp) rfl)) (hx7.cell 0)) hlow rfl
                        · refine h.callG rfl (wanted_of rfl rfl rfl (h.ran 4 _ 167 rfl rfl (hd ⟨4, .guard⟩ (by simp) rfl))) (ro_call2 cf_Has w7 (h.ran 5 _ 168 rfl rfl (hd ⟨5, .data⟩ (by simp) rfl)) (h.ran 7 _ 170 rfl rfl (hd ⟨7, .data⟩ (by simp) rfl))) ((Has_any _ (forestL V E) xid false HC.out w7 _ hids).mono ?_)
                          rintro r w8 ⟨rfl, rfl⟩
                          exact ⟨_, rfl, fun _ _ _ h => h, hlow, rfl⟩
                        · exact h.valG rfl (wanted_of rfl rfl rfl (h.ran 4 _ 167 rfl rfl (hd ⟨4, .guard⟩ (by simp) rfl))) (ro_not w7 (h.ran 8 _ 171 rfl rfl (hd ⟨8, .data⟩ (by simp) rfl))) hlow rfl
                        · exact h.valG rfl (wanted_of rfl rfl rfl (h.ran 4 _ 167 rfl rfl (hd ⟨4, .guard⟩ (by simp) rfl))) (ro_move w7 (h.ran 9 _ 172 rfl rfl (hd ⟨9, .data⟩ (by simp) rfl))) hlow rfl
                        · exact h.valG rfl (wanted_of rfl rfl rfl (h.ran 10 _ 173 rfl rfl (hd ⟨10, .guard⟩ (by simp) rfl))) (ro_loadNet w7 (h.still 1 (by kernel_rfl)) (hn7.cell 0) (hn7.cell 1)) hlow (fun _ => rfl)
                        · exact h.valG rfl (wanted_of rfl rfl rfl (h.ran 10 _ 173 rfl rfl (hd ⟨10, .guard⟩ (by simp) rfl))) (ro_move w7 (h.still 21 (by kernel_rfl))) hlow (fun _ => rfl)
                        · have hcl := edgeOf_any (.slice Av nV cv) (.slice (some ⟨be, oe, none⟩) nE ce) E yid w7 w.heap.size he7 (by omega)
                          rw [HEd.out] at hcl
                          refine h.callG rfl (wanted_of rfl rfl rfl (h.ran 10 _ 173 rfl rfl (hd ⟨10, .guard⟩ (by simp) rfl))) (ro_call2 cf_edgeOf w7 ((h.ran 11 _ 174 rfl rfl (hd ⟨11, .data⟩ (by simp) rfl)) rfl) ((h.ran 12 _ 175 rfl rfl (hd ⟨12, .data⟩ (by simp) rfl)) rfl)) (hcl.mono ?_)
                          rintro r w8 ⟨rfl, hb8⟩
                          exact ⟨_, rfl, fun _ _ _ h => h, hlow.trans (hb8.mono hz7'), fun _ => rfl⟩
                        · exact h.valG rfl (wanted_of rfl rfl rfl (h.ran 10 _ 173 rfl rfl (hd ⟨10, .guard⟩ (by simp) rfl))) (ro_loadE w7 (h.still 17 (by kernel_rfl)) (hx7.cell 0) (hx7.cell 1) (hx7.cell 2) (hx7.cell 3)) hlow (fun _ => rfl)
                        · refine h.callG rfl (wanted_of rfl rfl rfl (h.ran 10 _ 173 rfl rfl (hd ⟨10, .guard⟩ (by simp) rfl))) (ro_call2 cf_Ahead w7 ((h.ran 13 _ 176 rfl rfl (hd ⟨13, .data⟩ (by simp) rfl)) rfl) ((h.ran 14 _ 177 rfl rfl (hd ⟨14, .data⟩ (by simp) rfl)) rfl)) ((Ahead_q ⟨yid, yu, yv, yw⟩ ⟨xid, xu, xv, xw⟩ true (HLo.out HC.out) w7).mono ?_)
                          rintro r w8 ⟨rfl, hb8⟩
                          exact ⟨_, rfl, fun _ _ _ h => h, hlow.trans (hb8.mono hz7'), fun _ => rfl⟩
                        · exact h.valG rfl (wanted_of rfl rfl rfl (h.ran 10 _ 173 rfl rfl (hd ⟨10, .guard⟩ (by simp) rfl))) (ro_not w7 ((h.ran 15 _ 178 rfl rfl (hd ⟨15, .data⟩ (by simp) rfl)) rfl)) hlow (fun _ => rfl)
                        · exact h.valG rfl (wanted_of rfl rfl rfl (h.ran 4 _ 167 rfl rfl (hd ⟨4, .guard⟩ (by simp) rfl))) (ro_pickF (v := .bool false) w7 (h.ran 10 _ 173 rfl rfl (hd ⟨10, .data⟩ (by simp) rfl)) (fun e => (h.ran 16 _ 179 rfl rfl (hd ⟨16, .data⟩ (by simp) rfl)) rfl)) hlow rfl
                        · exact h.val rfl rfl (ro_pickT w7 (h.ran 4 _ 167 rfl rfl (hd ⟨4, .data⟩ (by simp) rfl)) (h.ran 17 _ 180 rfl rfl (hd ⟨17, .data⟩ (by simp) rfl))) hlow rfl
                      · intro L a w7 hL hdf hsz' hw hother hall
                        have h18 : a.tmps.getD 181 undef = .bool false := hall 18 _ 181 rfl rfl
                        have HW7 : Hid (Below wr.heap.size wr w7) := hw
                        refine hK _ _ ?_
                        obtain ⟨tm, df⟩ := a
                        obtain rfl : df = [] := hdf
                        have htm := tmps_eq [163, 164, 165, 166, 167, 168, 169, 170, 171, 172, 173, 174, 175, 176, 177, 178, 179, 180, 181] (by kernel_rfl) hsz' hother
                        dsimp only at htm h18
                        simp only [List.foldl] at htm
                        rw [h18] at htm
                        generalize tm.getD 163 undef = y163 at htm
                        generalize tm.getD 164 undef = y164 at htm
                        generalize tm.getD 165 undef = y165 at htm
                        generalize tm.getD 166 undef = y166 at htm
                        generalize tm.getD 167 undef = y167 at htm
                        generalize tm.getD 168 undef = y168 at htm
                        generalize tm.getD 169 undef = y169 at htm
                        generalize tm.getD 170 undef = y170 at htm
                        generalize tm.getD 171 undef = y171 at htm
                        generalize tm.getD 172 undef = y172 at htm
                        generalize tm.getD 173 undef = y173 at htm
                        generalize tm.getD 174 undef = y174 at htm
                        generalize tm.getD 175 undef = y175 at htm
                        generalize tm.getD 176 undef = y176 at htm
                        generalize tm.getD 177 undef = y177 at htm
                        generalize tm.getD 178 undef = y178 at htm
                        generalize tm.getD 179 undef = y179 at htm
                        generalize tm.getD 180 undef = y180 at htm
                        clear hother hall hsz' hw h18 hL
                        rw [htm]
                        clear htm
                        simp only [List.setIfInBounds_toArray, List.set_cons_succ, List.set_cons_zero]
                        go_wp2_with fail
                        go_roundw
                        case rel => exact ⟨t + 1, by omega, by go_num, HB5'.out.trans (HW7.out.mono hz5)⟩
                        case measure => simp [intOf]; omega
                  · obtain rfl : t = l := by omega
                    go_wp2_with fail
                    go_roundw
                    case rel => exact ⟨j3 + 1, by omega, by go_num, HB5.out⟩
                    case measure => simp [intOf]; omega
              · obtain rfl : j3 = nE := by omega
                go_wp2_with fail
                go_ret
                exact ⟨rfl, (below_box HB.out).trans (HBX.out.trans (HBel.out.mono hzX4) |>.mono (by omega))⟩
      · rw [toldT_lo hbig]
        have hbig' : s ≤ 70368744177664 := by omega
        go_wp2_with fail
        clear hcnt
        go_loopw [125] (fun i wr => ∃ j : Nat, j ≤ m ∧ i = .int .i64 j ∧ Below w7.heap.size w7 wr) (fun i wr => m - (intOf i).toNat)
        case atStart => exact ⟨0, Nat.zero_le _, rfl, Below.refl _ _⟩
        case round =>
          obtain ⟨j, hj, rfl, hbel⟩ := hrel
          have hzr7 := hbel.size
          by_cases hjl : j < m
          · obtain ⟨bt, ot, st, rfl, hbt, hct, hrt⟩ := HCt.out j (by have := HM.out; omega)
            obtain ⟨bu, ou, su, rfl, hbu, hcu, hru⟩ := HCu.out j (by have := HM.out; omega)
            have hct := (hbel.cell (p := ⟨bt, ot + j, none⟩) (by show bt < _; omega)).trans hct
            have hcu := (hbel.cell (p := ⟨bu, ou + j, none⟩) (by show bu < _; omega)).trans hcu
            have HR1 := Lib.hid (hrt.below (hbel.mono (by omega)))
            have HR2 := Lib.hid (hru.below (hbel.mono (by omega)))
            obtain ⟨ls, hls⟩ : ∃ l, l = (treesL V E)[j]'(by have := HM.out; omega) := ⟨_, rfl⟩
            rw [← hls] at HR1 HR2
            obtain ⟨A1, c1', rfl, _, _, _, _⟩ := HR1.out.open_
            obtain ⟨A2, c2', rfl, _, _, _, _⟩ := HR2.out.open_
            obtain ⟨ll, hll⟩ : ∃ n, n = ls.length := ⟨_, rfl⟩
            rw [← hll] at HR1 HR2 hct hcu
            have HBel := Lib.hid hbel
            clear hrt hru hls hll hbel
            go_wp2_with fail
            go_quiet ((go_at_call 27; exact Calls.quiet_of (SameInts_yes _ _ ls _ _ _ (HR1.out.drewN _) (HR2.out.drewN _))))
            go_wp2_with fail
            go_roundw
            case rel => exact ⟨j + 1, by omega, by go_num, below_drewN HBel.out _⟩
            case measure => simp [intOf]; omega
          · obtain rfl : j = m := by omega
            have hX : ∃ X, X = wr := ⟨_, rfl⟩
            obtain ⟨X, hX⟩ := hX
            rw [← hX] at hbel hzr7 ⊢
            clear hX
            have HNX := Lib.hid (HNb7.out.below hbel (by omega))
            have HBX : Hid (Below w4.heap.size w4 X) := HB7.out.trans (hbel.mono (by omega))
            have c0 : X.cell? ⟨w.heap.size, 0, none⟩ = some (.slice Av nV cv) := HNX.out.cell 0
            have c1 : X.cell? ⟨w.heap.size, 1, none⟩ = some (.slice Ae nE ce) := HNX.out.cell 1
            have hzX : w.heap.size < X.heap.size := by omega
            have hzX4 : w4.heap.size ≤ X.heap.size := by omega
            have HEX : Hid (RE X w.heap.size (.slice Ae nE ce) E) := HEW.out.below (HBX.out.mono (by omega))
            have HVX : Hid (RI X w.heap.size (.slice Av nV cv) V) := HVW.out.below (HBX.out.mono (by omega))
            have HIX : Hid (RI X w2.heap.size (.slice Ai k ci) (forestL V E)) := HRI.out.below (HBX.out.mono (by omega))
            obtain ⟨Ae', ce', e1, _, _, _, HCe⟩ := HEX.out.open_
            obtain ⟨rfl, rfl⟩ : Ae = Ae' ∧ ce = ce' := by injection e1 with e1 e3 e4; exact ⟨e1, e4⟩
            clear e1 hbel HB7 HNb7 HCt HCu
            go_wp2_with fail
            go_loopw [142] (fun i wr => ∃ j : Nat, j ≤ nE ∧ i = .int .i64 j ∧ Below X.heap.size X wr) (fun i wr => nE - (intOf i).toNat)
            case atStart => exact ⟨0, Nat.zero_le _, rfl, Below.refl _ _⟩
            case round =>
              obtain ⟨j3, hj3, rfl, hbel⟩ := hrel
              have hzr3 := hbel.size
              have HBel := Lib.hid hbel
              by_cases hj3l : j3 < nE
              · obtain ⟨be, oe, rfl, hbe, hx⟩ := HCe.out j3 (by have := HNE.out; omega)
                obtain ⟨x, hxe⟩ : ∃ x, x = E[j3]'(by have := HNE.out; omega) := ⟨_, rfl⟩
                have HXE : Hid (x ∈ E) := by show _ ∈ _; rw [hxe]; exact List.getElem_mem _
                rw [← hxe] at hx
                obtain ⟨x0, x1, x2, x3⟩ := cellE hx
                have x0 := (hbel.cell (p := ⟨be, oe + j3 * 4, none⟩) (by show be < _; omega)).trans x0
                have x1 := (hbel.cell (p := ⟨be, oe + j3 * 4 + 1, none⟩) (by show be < _; omega)).trans x1
                have x2 := (hbel.cell (p := ⟨be, oe + j3 * 4 + 2, none⟩) (by show be < _; omega)).trans x2
                have x3 := (hbel.cell (p := ⟨be, oe + j3 * 4 + 3, none⟩) (by show be < _; omega)).trans x3
                have hnb := HNX.out.below hbel hzX
                have c0 : wr.cell? ⟨w.heap.size, 0, none⟩ = some (.slice Av nV cv) := hnb.cell 0
                have c1 : wr.cell? ⟨w.heap.size, 1, none⟩ = some (.slice (some ⟨be, oe, none⟩) nE ce) := hnb.cell 1
                have hwl3 : w.heap.size < wr.heap.size := by omega
                have HP : Hid (pathErr V E x.u x.v = 0) := edge_path HR.out HRN.out HXE.out
                have HVr := Lib.hid (HVX.out.below (hbel.mono (by omega)))
                have HEr := Lib.hid (HEX.out.below (hbel.mono (by omega)))
                clear hx hxe hnb hbel
                obtain ⟨xid, xu, xv, xw⟩ := x
                dsimp only at *
                go_wp2_with fail
                refine (Path_ok _ _ V E xu xv _ w.heap.size (HVr.out.alloc (by omega) _) (HEr.out.alloc (by omega) _) (by simp; omega) HP.out).mono ?_
                rintro e w9 ⟨pv, rfl, ho, hb⟩
                have hri : RI w9 w9.heap.size pv ((pathL V E xu xv).map (·.id)) := ho.rk encI_len (Nat.le_refl _)
                obtain ⟨Ap, cp, rfl, hp1, hp2, hp3, HCp⟩ := hri.open_
                obtain ⟨l, hl⟩ : ∃ n, n = ((pathL V E xu xv).map (·.id)).length := ⟨_, rfl⟩
                rw [← hl] at hp1 hp3 ⊢
                have HLl := Lib.hid hl
                have HXB : Hid (Blk w9 wr.heap.size 47 #[.int .i64 xid, .int .i64 xu, .int .i64 xv, .int .i64 xw]) := (Blk.new wr 47 _).below hb (by simp)
                have hz9 : wr.heap.size < w9.heap.size := by have := hb.size; simp at this; omega
                have HB9 : Hid (Below X.heap.size X w9) := (HBel.out.alloc (by omega) _).trans (hb.mono (by simp; omega))
                have hz9X : X.heap.size ≤ w9.heap.size := HB9.out.size
                clear ho hb hri hl
                go_wp2_with fail
                obtain ⟨xb, hxb⟩ : ∃ xb, xb = wr.heap.size := ⟨_, rfl⟩
                rw [← hxb] at HXB hz9 ⊢
                clear hxb
                go_loopw [159] (fun i wr => ∃ t : Nat, t ≤ l ∧ i = .int .i64 t ∧ Below w9.heap.size w9 wr) (fun i wr => l - (intOf i).toNat)
                case atStart => exact ⟨0, Nat.zero_le _, rfl, Below.refl _ _⟩
                case round =>
                  obtain ⟨t, ht, rfl, hb5⟩ := hrel
                  have hz5 := hb5.size
                  have HB5 : Hid (Below X.heap.size X _) := HB9.out.trans (hb5.mono (by omega))
                  have hzXr := HB5.out.size
                  by_cases htl : t < l
                  · obtain ⟨y, hy⟩ : ∃ y, y = (pathL V E xu xv)[t]'(by have := HLl.out; rw [List.length_map] at this; omega) := ⟨_, rfl⟩
                    have hym : y ∈ pathL V E xu xv := by rw [hy]; exact List.getElem_mem _
                    obtain ⟨hyE, hyc⟩ := path_ids HP.out y hym
                    have hidt : ((pathL V E xu xv).map (·.id))[t]'(by have := HLl.out; omega) = y.id := by rw [List.getElem_map, hy]
                    obtain ⟨bp, op, rfl, hbp, hxp⟩ := HCp.out t (by have := HLl.out; omega)
                    rw [hidt] at hxp
                    have hxp := cellI hxp
                    have hxp := (hb5.cell (p := ⟨bp, op + t, none⟩) (by show bp < _; omega)).trans hxp
                    have HYc := Lib.hid hyc
                    have HEd : Hid (edIn E y.id = y) := edIn_of HR.out.eup hyE
                    have HLo : Hid ((forestL V E).contains xid = false → ltW y ⟨xid, xu, xv, xw⟩ = true) := fun hc => left_out HR.out HXE.out hc HP.out y hym
                    have HXB5 := Lib.hid (HXB.out.below hb5 hz9)
                    have HB5' := Lib.hid hb5
                    clear hy hym hyE hyc hidt hb5
                    obtain ⟨yid, yu, yv, yw⟩ := y
                    dsimp only at *
                    cases hc : (forestL V E).contains xid with
                    | true =>
                      have HC := Lib.hid hc
                      clear hc
                      go_wp2_with fail
                      rename_i K hK
                      refine wp_region_slots (SLast xb (netV (.slice Av nV cv) (.slice (some ⟨be, oe, none⟩) nE ce)) (.slice Ai k ci) ⟨xid, xu, xv, xw⟩ ⟨yid, yu, yv, yw⟩ true) (fun _ w7 => Below wr.heap.size wr w7) (by kernel_rfl) (by kernel_rfl) (by kernel_rfl) ((Below.refl _ _).drew) ?_ ?_
                      · intro L a w7 q o' h ho h0 hd
                        have hlow : Below wr.heap.size wr w7 := h.world
                        have hz7' := hlow.size
                        have hbx : Below X.heap.size X w7 := HB5.out.trans (hlow.mono (by omega))
                        have hids : RI w7 w2.heap.size (.slice Ai k ci) (forestL V E) := HIX.out.below (hbx.mono (by omega))
                        have hx7 := HXB5.out.below hlow (by omega)
                        have hn7 := HNX.out.below hbx hzX
                        have he7 : RE w7 w.heap.size (.slice (some ⟨be, oe, none⟩) nE ce) E := HEX.out.below (hbx.mono (by omega))
                        revert L a w7
                        revert q o'
                        refine each_array ?_
                        refine ⟨?_, ?_, ?_, ?_, ?_, ?_, ?_, ?_, ?_, ?_, ?_, ?_, ?_, ?_, ?_, ?_, ?_, ?_, ?_, trivial⟩ <;> intro L a w7 h h0 hd hlow hz7' hbx hids hx7 hn7 he7
                        · exact h.val rfl rfl (ro_move w7 (h.still 3 (by kernel_rfl))) hlow rfl
                        · exact h.val rfl rfl (ro_move w7 (h.still 21 (by kernel_rfl))) hlow rfl
                        · refine h.call rfl rfl (ro_call2 cf_Has w7 (h.ran 0 _ 163 rfl rfl (hd ⟨0, .data⟩ (by simp) rfl)) (h.ran 1 _ 164 rfl rfl (hd ⟨1, .data⟩ (by simp) rfl))) ((Has_any _ (forestL V E) yid true HYc.out w7 _ hids).mono ?_)
                          rintro r w8 ⟨rfl, rfl⟩
                          exact ⟨_, rfl, fun _ _ _ h => h, hlow, rfl⟩
                        · exact h.val rfl rfl (ro_not w7 (h.ran 2 _ 165 rfl rfl (hd ⟨2, .data⟩ (by simp) rfl))) hlow rfl
                        · exact h.val rfl rfl (ro_move w7 (h.ran 3 _ 166 rfl rfl (hd ⟨3, .data⟩ (by simp) rfl))) hlow rfl
                        · exact h.valG rfl (wanted_of rfl rfl rfl (h.ran 4 _ 167 rfl rfl (hd ⟨4, .guard⟩ (by simp) rfl))) (ro_move w7 (h.still 3 (by kernel_rfl))) hlow rfl
                        · exact h.valG rfl (wanted_of rfl rfl rfl (h.ran 4 _ 167 rfl rfl (hd ⟨4, .guard⟩ (by simp) rfl))) (ro_fieldE w7 (by decide) (h.still 17 (by kernel_rfl))) hlow rfl
                        · exact h.valG rfl (wanted_of rfl rfl rfl (h.ran 4 _ 167 rfl rfl (hd ⟨4, .guard⟩ (by simp) rfl))) (ro_loadI w7 (h.ran 6 _ 169 rfl rfl (hd ⟨6, .data⟩ (by simp) rfl)) (hx7.cell 0)) hlow rfl
                        · refine h.callG rfl (wanted_of rfl rfl rfl (h.ran 4 _ 167 rfl rfl (hd ⟨4, .guard⟩ (by simp) rfl))) (ro_call2 cf_Has w7 (h.ran 5 _ 168 rfl rfl (hd ⟨5, .data⟩ (by simp) rfl)) (h.ran 7 _ 170 rfl rfl (hd ⟨7, .data⟩ (by simp) rfl))) ((Has_any _ (forestL V E) xid true HC.out w7 _ hids).mono ?_)
                          rintro r w8 ⟨rfl, rfl⟩
                          exact ⟨_, rfl, fun _ _ _ h => h, hlow, rfl⟩
                        · exact h.valG rfl (wanted_of rfl rfl rfl (h.ran 4 _ 167 rfl rfl (hd ⟨4, .guard⟩ (by simp) rfl))) (ro_not w7 (h.ran 8 _ 171 rfl rfl (hd ⟨8, .data⟩ (by simp) rfl))) hlow rfl
                        · exact h.valG rfl (wanted_of rfl rfl rfl (h.ran 4 _ 167 rfl rfl (hd ⟨4, .guard⟩ (by simp) rfl))) (ro_move w7 (h.ran 9 _ 172 rfl rfl (hd ⟨9, .data⟩ (by simp) rfl))) hlow rfl
                        · exact h.passG rfl (unwanted_of rfl rfl rfl (h.ran 10 _ 173 rfl rfl (hd ⟨10, .guard⟩ (by simp) rfl)) (by decide)) hlow (fun e => by cases e)
                        · exact h.passG rfl (unwanted_of rfl rfl rfl (h.ran 10 _ 173 rfl rfl (hd ⟨10, .guard⟩ (by simp) rfl)) (by decide)) hlow (fun e => by cases e)
                        · exact h.passG rfl (unwanted_of rfl rfl rfl (h.ran 10 _ 173 rfl rfl (hd ⟨10, .guard⟩ (by simp) rfl)) (by decide)) hlow (fun e => by cases e)
                        · exact h.passG rfl (unwanted_of rfl rfl rfl (h.ran 10 _ 173 rfl rfl (hd ⟨10, .guard⟩ (by simp) rfl)) (by decide)) hlow (fun e => by cases e)
                        · exact h.passG rfl (unwanted_of rfl rfl rfl (h.ran 10 _ 173 rfl rfl (hd ⟨10, .guard⟩ (by simp) rfl)) (by decide)) hlow (fun e => by cases e)
                        · exact h.passG rfl (unwanted_of rfl rfl rfl (h.ran 10 _ 173 rfl rfl (hd ⟨10, .guard⟩ (by simp) rfl)) (by decide)) hlow (fun e => by cases e)
                        · exact h.valG rfl (wanted_of rfl rfl rfl (h.ran 4 _ 167 rfl rfl (hd ⟨4, .guard⟩ (by simp) rfl))) (ro_pickF (v := .bool false) w7 (h.ran 10 _ 173 rfl rfl (hd ⟨10, .data⟩ (by simp) rfl)) (fun e => by cases e)) hlow rfl
                        · exact h.val rfl rfl (ro_pickT w7 (h.ran 4 _ 167 rfl rfl (hd ⟨4, .data⟩ (by simp) rfl)) (h.ran 17 _ 180 rfl rfl (hd ⟨17, .data⟩ (by simp) rfl))) hlow rfl
                      · intro L a w7 hL hdf hsz' hw hother hall
                        have h18 : a.tmps.getD 181 undef = .bool false := hall 18 _ 181 rfl rfl
                        have HW7 : Hid (Below wr.heap.size wr w7) := hw
                        refine hK _ _ ?_
                        obtain ⟨tm, df⟩ := a
                        obtain rfl : df = [] := hdf
                        have htm := tmps_eq [163, 164, 165, 166, 167, 168, 169, 170, 171, 172, 173, 174, 175, 176, 177, 178, 179, 180, 181] (by kernel_rfl) hsz' hother
                        dsimp only at htm h18
                        simp only [List.foldl] at htm
                        rw [h18] at htm
                        generalize tm.getD 163 undef = y163 at htm
                        generalize tm.getD 164 undef = y164 at htm
                        generalize tm.getD 165 undef = y165 at htm
                        generalize tm.getD 166 undef = y166 at htm
                        generalize tm.getD 167 undef = y167 at htm
                        generalize tm.getD 168 undef = y168 at htm
                        generalize tm.getD 169 undef = y169 at htm
                        generalize tm.getD 170 undef = y170 at htm
                        generalize tm.getD 171 undef = y171 at htm
                        generalize tm.getD 172 undef = y172 at htm
                        generalize tm.getD 173 undef = y173 at htm
                        generalize tm.getD 174 undef = y174 at htm
                        generalize tm.getD 175 undef = y175 at htm
                        generalize tm.getD 176 undef = y176 at htm
                        generalize tm.getD 177 undef = y177 at htm
                        generalize tm.getD 178 undef = y178 at htm
                        generalize tm.getD 179 undef = y179 at htm
                        generalize tm.getD 180 undef = y180 at htm
                        clear hother hall hsz' hw h18 hL
                        rw [htm]
                        clear htm
                        simp only [List.setIfInBounds_toArray, List.set_cons_succ, List.set_cons_zero]
                        go_wp2_with fail
                        go_roundw
                        case rel => exact ⟨t + 1, by omega, by go_num, HB5'.out.trans (HW7.out.mono hz5)⟩
                        case measure => simp [intOf]; omega
                    | false =>
                      have HC := Lib.hid hc
                      clear hc
                      go_wp2_with fail
                      rename_i K hK
                      refine wp_region_slots (SLast xb (netV (.slice Av nV cv) (.slice (some ⟨be, oe, none⟩) nE ce)) (.slice Ai k ci) ⟨xid, xu, xv, xw⟩ ⟨yid, yu, yv, yw⟩ false) (fun _ w7 => Below wr.heap.size wr w7) (by kernel_rfl) (by kernel_rfl) (by kernel_rfl) ((Below.refl _ _).drew) ?_ ?_
                      · intro L a w7 q o' h ho h0 hd
                        have hlow : Below wr.heap.size wr w7 := h.world
                        have hz7' := hlow.size
                        have hbx : Below X.heap.size X w7 := HB5.out.trans (hlow.mono (by omega))
                        have hids : RI w7 w2.heap.size (.slice Ai k ci) (forestL V E) := HIX.out.below (hbx.mono (by omega))
                        have hx7 := HXB5.out.below hlow (by omega)
                        have hn7 := HNX.out.below hbx hzX
                        have he7 : RE w7 w.heap.size (.slice (some ⟨be, oe, none⟩) nE ce) E := HEX.out.below (hbx.mono (by omega))
                        revert L a w7
                        revert q o'
                        refine each_array ?_
                        refine ⟨?_, ?_, ?_, ?_, ?_, ?_, ?_, ?_, ?_, ?_, ?_, ?_, ?_, ?_, ?_, ?_, ?_, ?_, ?_, trivial⟩ <;> intro L a w7 h h0 hd hlow hz7' hbx hids hx7 hn7 he7
                        · exact h.val rfl rfl (ro_move w7 (h.still 3 (by kernel_rfl))) hlow rfl
                        · exact h.val rfl rfl (ro_move w7 (h.still 21 (by kernel_rfl))) hlow rfl
                        · refine h.call rfl rfl (ro_call2 cf_Has w7 (h.ran 0 _ 163 rfl rfl (hd ⟨0, .data⟩ (by simp) rfl)) (h.ran 1 _ 164 rfl rfl (hd ⟨1, .data⟩ (by simp) rfl))) ((Has_any _ (forestL V E) yid true HYc.out w7 _ hids).mono ?_)
                          rintro r w8 ⟨rfl, rfl⟩
                          exact ⟨_, rfl, fun _ _ _ h => h, hlow, rfl⟩
                        · exact h.val rfl rfl (ro_not w7 (h.ran 2 _ 165 rfl rfl (hd ⟨2, .data⟩ (by simp) rfl))) hlow rfl
                        · exact h.val rfl rfl (ro_move w7 (h.ran 3 _ 166 rfl rfl (hd ⟨3, .data⟩ (by simp) rfl))) hlow rfl
                        · exact h.valG rfl (wanted_of rfl rfl rfl (h.ran 4 _ 167 rfl rfl (hd ⟨4, .guard⟩ (by simp) rfl))) (ro_move w7 (h.still 3 (by kernel_rfl))) hlow rfl
                        · exact h.valG rfl (wanted_of rfl rfl rfl (h.ran 4 _ 167 rfl rfl (hd ⟨4, .guard⟩ (by simp) rfl))) (ro_fieldE w7 (by decide) (h.still 17 (by kernel_rfl))) hlow rfl
                        · exact h.valG rfl (wanted_of rfl rfl rfl (h.ran 4 _ 167 rfl rfl (hd ⟨4, .guard⟩ (by simp) rfl))) (ro_loadI w7 (h.ran 6 _ 169 rfl rfl (hd ⟨6, .data⟩ (by simp) rfl)) (hx7.cell 0)) hlow rfl
                        · refine h.callG rfl (wanted_of rfl rfl rfl (h.ran 4 _ 167 rfl rfl (hd ⟨4, .guard⟩ (by simp) rfl))) (ro_call2 cf_Has w7 (h.ran 5 _ 168 rfl rfl (hd ⟨5, .data⟩ (by simp) rfl)) (h.ran 7 _ 170 rfl rfl (hd ⟨7, .data⟩ (by simp) rfl))) ((Has_any _ (forestL V E) xid false HC.out w7 _ hids).mono ?_)
                          rintro r w8 ⟨rfl, rfl⟩
                          exact ⟨_, rfl, fun _ _ _ h => h, hlow, rfl⟩
                        · exact h.valG rfl (wanted_of rfl rfl rfl (h.ran 4 _ 167 rfl rfl (hd ⟨4, .guard⟩ (by simp) rfl))) (ro_not w7 (h.ran 8 _ 171 rfl rfl (hd ⟨8, .data⟩ (by simp) rfl))) hlow rfl
                        · exact h.valG rfl (wanted_of rfl rfl rfl (h.ran 4 _ 167 rfl rfl (hd ⟨4, .guard⟩ (by simp) rfl))) (ro_move w7 (h.ran 9 _ 172 rfl rfl (hd ⟨9, .data⟩ (by simp) rfl))) hlow rfl
                        · exact h.valG rfl (wanted_of rfl rfl rfl (h.ran 10 _ 173 rfl rfl (hd ⟨10, .guard⟩ (by simp) rfl))) (ro_loadNet w7 (h.still 1 (by kernel_rfl)) (hn7.cell 0) (hn7.cell 1)) hlow (fun _ => rfl)
                        · exact h.valG rfl (wanted_of rfl rfl rfl (h.ran 10 _ 173 rfl rfl (hd ⟨10, .guard⟩ (by simp) rfl))) (ro_move w7 (h.still 21 (by kernel_rfl))) hlow (fun _ => rfl)
                        · have hcl := edgeOf_any (.slice Av nV cv) (.slice (some ⟨be, oe, none⟩) nE ce) E yid w7 w.heap.size he7 (by omega)
                          rw [HEd.out] at hcl
                          refine h.callG rfl (wanted_of rfl rfl rfl (h.ran 10 _ 173 rfl rfl (hd ⟨10, .guard⟩ (by simp) rfl))) (ro_call2 cf_edgeOf w7 ((h.ran 11 _ 174 rfl rfl (hd ⟨11, .data⟩ (by simp) rfl)) rfl) ((h.ran 12 _ 175 rfl rfl (hd ⟨12, .data⟩ (by simp) rfl)) rfl)) (hcl.mono ?_)
                          rintro r w8 ⟨rfl, hb8⟩
                          exact ⟨_, rfl, fun _ _ _ h => h, hlow.trans (hb8.mono hz7'), fun _ => rfl⟩
                        · exact h.valG rfl (wanted_of rfl rfl rfl (h.ran 10 _ 173 rfl rfl (hd ⟨10, .guard⟩ (by simp) rfl))) (ro_loadE w7 (h.still 17 (by kernel_rfl)) (hx7.cell 0) (hx7.cell 1) (hx7.cell 2) (hx7.cell 3)) hlow (fun _ => rfl)
                        · refine h.callG rfl (wanted_of rfl rfl rfl (h.ran 10 _ 173 rfl rfl (hd ⟨10, .guard⟩ (by simp) rfl))) (ro_call2 cf_Ahead w7 ((h.ran 13 _ 176 rfl rfl (hd ⟨13, .data⟩ (by simp) rfl)) rfl) ((h.ran 14 _ 177 rfl rfl (hd ⟨14, .data⟩ (by simp) rfl)) rfl)) ((Ahead_q ⟨yid, yu, yv, yw⟩ ⟨xid, xu, xv, xw⟩ true (HLo.out HC.out) w7).mono ?_)
                          rintro r w8 ⟨rfl, hb8⟩
                          exact ⟨_, rfl, fun _ _ _ h => h, hlow.trans (hb8.mono hz7'), fun _ => rfl⟩
                        · exact h.valG rfl (wanted_of rfl rfl rfl (h.ran 10 _ 173 rfl rfl (hd ⟨10, .guard⟩ (by simp) rfl))) (ro_not w7 ((h.ran 15 _ 178 rfl rfl (hd ⟨15, .data⟩ (by simp) rfl)) rfl)) hlow (fun _ => rfl)
                        · exact h.valG rfl (wanted_of rfl rfl rfl (h.ran 4 _ 167 rfl rfl (hd ⟨4, .guard⟩ (by simp) rfl))) (ro_pickF (v := .bool false) w7 (h.ran 10 _ 173 rfl rfl (hd ⟨10, .data⟩ (by simp) rfl)) (fun e => (h.ran 16 _ 179 rfl rfl (hd ⟨16, .data⟩ (by simp) rfl)) rfl)) hlow rfl
                        · exact h.val rfl rfl (ro_pickT w7 (h.ran 4 _ 167 rfl rfl (hd ⟨4, .data⟩ (by simp) rfl)) (h.ran 17 _ 180 rfl rfl (hd ⟨17, .data⟩ (by simp) rfl))) hlow rfl
                      · intro L a w7 hL hdf hsz' hw hother hall
                        have h18 : a.tmps.getD 181 undef = .bool false := hall 18 _ 181 rfl rfl
                        have HW7 : Hid (Below wr.heap.size wr w7) := hw
                        refine hK _ _ ?_
                        obtain ⟨tm, df⟩ := a
                        obtain rfl : df = [] := hdf
                        have htm := tmps_eq [163, 164, 165, 166, 167, 168, 169, 170, 171, 172, 173, 174, 175, 176, 177, 178, 179, 180, 181] (by kernel_rfl) hsz' hother
                        dsimp only at htm h18
                        simp only [List.foldl] at htm
                        rw [h18] at htm
                        generalize tm.getD 163 undef = y163 at htm
                        generalize tm.getD 164 undef = y164 at htm
                        generalize tm.getD 165 undef = y165 at htm
                        generalize tm.getD 166 undef = y166 at htm
                        generalize tm.getD 167 undef = y167 at htm
                        generalize tm.getD 168 undef = y168 at htm
                        generalize tm.getD 169 undef = y169 at htm
                        generalize tm.getD 170 undef = y170 at htm
                        generalize tm.getD 171 undef = y171 at htm
                        generalize tm.getD 172 undef = y172 at htm
                        generalize tm.getD 173 undef = y173 at htm
                        generalize tm.getD 174 undef = y174 at htm
                        generalize tm.getD 175 undef = y175 at htm
                        generalize tm.getD 176 undef = y176 at htm
                        generalize tm.getD 177 undef = y177 at htm
                        generalize tm.getD 178 undef = y178 at htm
                        generalize tm.getD 179 undef = y179 at htm
                        generalize tm.getD 180 undef = y180 at htm
                        clear hother hall hsz' hw h18 hL
                        rw [htm]
                        clear htm
                        simp only [List.setIfInBounds_toArray, List.set_cons_succ, List.set_cons_zero]
                        go_wp2_with fail
                        go_roundw
                        case rel => exact ⟨t + 1, by omega, by go_num, HB5'.out.trans (HW7.out.mono hz5)⟩
                        case measure => simp [intOf]; omega
                  · obtain rfl : t = l := by omega
                    go_wp2_with fail
                    go_roundw
                    case rel => exact ⟨j3 + 1, by omega, by go_num, HB5.out⟩
                    case measure => simp [intOf]; omega
              · obtain rfl : j3 = nE := by omega
                go_wp2_with fail
                go_ret
                exact ⟨rfl, (below_box HB.out).trans (HBX.out.trans (HBel.out.mono hzX4) |>.mono (by omega))⟩

theorem plainForest_walk (sv se : Value) (V : List Int) (E : List Ed) (w : World) (hv : RI w w.heap.size sv V) (he : RE w w.heap.size se E) :
    Calls Tryz.prog 4 #[netV sv se] w fun e w' => e = .returned (.bool true) ∧ Below w.heap.size w w' := by
  cases hr : rightN V E with
  | false => exact plainForest_no sv se V E w hv he hr
  | true => exact plainForest_yes sv se V E w hv he hr
end Go.Proofs.YtghacfhpafbdmaaGreat
