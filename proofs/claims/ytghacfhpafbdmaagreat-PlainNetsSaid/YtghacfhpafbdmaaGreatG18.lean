/-
  The walk of plain's Trees at a right net.
-/
import Derived.Test.YtghacfhpafbdmaaGreatG17
namespace Go.Proofs.YtghacfhpafbdmaaGreat
open Go.RowKit Go.Sort
set_option linter.unusedVariables false

theorem Blk.setAt {w : World} {g t : Nat} {cs : Array Value} (h : Blk w g t cs) : ∀ i, i < cs.size → ∃ u, w.cell? ⟨g, i, none⟩ = some u := fun i hi => ⟨cs[i], by rw [h.cell i]; simp [hi]⟩

theorem OK.slice3 {α : Type} {enc : α → List Value} {k E : Nat} {w : World} {B : Nat} {v : Value} {xs : List α} (h : OK enc k E w B v xs) : ∃ A m c, v = .slice A m c := by
  obtain ⟨A, c, e⟩ := h.slice
  exact ⟨A, _, c, e⟩

set_option maxRecDepth 100000 in
set_option maxHeartbeats 8000000 in
theorem trees_ok (sv se : Value) (V : List Int) (E : List Ed) (w : World) (B : Nat) (hv : RI w B sv V) (he : RE w B se E) (hB : B ≤ w.heap.size) (hr : rightN V E = true) :
    Calls Tryz.prog 25 #[netV sv se] w fun e w' => ∃ lv, e = .returned (.tuple #[lv, .int .i64 0]) ∧ RLs w' w'.heap.size lv (treesL V E) ∧ Below w.heap.size w w' := by
  have HR : Hid (Right V E) := right_of hr
  have hvl := HR.out.vlen
  have HE := Lib.hid he
  have HV := Lib.hid hv
  obtain ⟨Av, cv, rfl, hv1, hv2, hv3, HC⟩ := hv.open_
  clear he hv
  obtain ⟨n, hn⟩ : ∃ n, n = V.length := ⟨_, rfl⟩
  rw [← hn] at hv1 hv3 hvl HV
  have HN := Lib.hid hn
  have hmk := fun w => run_make57 n (by omega) w
  have HM := Lib.hid hmk
  clear hmk
  rw [← hn]
  clear hn
  go_enter Tryz.func25, Tryz.ntmps25
  go_wp2_with fail
  refine (check_ok _ _ V E _ B (HV.out.alloc hB _) (HE.out.alloc hB _) (by simp; omega) hr).mono ?_
  rintro e w1 ⟨rfl, hb⟩
  have HB1 : Hid (Below (w.heap.size + 1) (w.alloc (.cells #[.slice Av n cv, se] 25)) w1) := hb.mono (by simp)
  have HW1 : Hid (Below w.heap.size w w1) := ((Below.refl _ _).alloc (Nat.le_refl _) _).trans (hb.mono (by simp))
  have hz1 := hb.size
  simp only [World.alloc, Array.size_push] at hz1
  clear hb hr
  have b0 : w1.cell? ⟨w.heap.size, 0, none⟩ = some (.slice Av n cv) := (HB1.out.cell (p := ⟨w.heap.size, 0, none⟩) (by show w.heap.size < _; omega)).trans (by simp)
  have b1 : w1.cell? ⟨w.heap.size, 1, none⟩ = some se := (HB1.out.cell (p := ⟨w.heap.size, 1, none⟩) (by show w.heap.size < _; omega)).trans (by simp)
  go_wp2_with fail
  refine (joined_any _ _ V E _ B (HV.out.below (HW1.out.mono hB)) (HE.out.below (HW1.out.mono hB)) (by omega) HR.out).mono ?_
  rintro e w2 ⟨G, rfl, hG, hs, hb⟩
  have hGlt := hs.lt
  have c0 : w2.cell? ⟨w.heap.size, 0, none⟩ = some (.slice Av n cv) := (hb.cell (p := ⟨w.heap.size, 0, none⟩) (by show w.heap.size < _; omega)).trans b0
  have HB2 : Hid (Below (w.heap.size + 1) (w.alloc (.cells #[.slice Av n cv, se] 25)) w2) := HB1.out.trans (hb.mono (by omega))
  have hz2 := hb.size
  have HT2 := Lib.hid hs
  clear b0 b1 hb hs
  have hmk := HM.out
  have hzz : w.heap.size < w2.heap.size := by omega
  go_wp2_with fail
  clear c0 hmk
  have hll := labs_len V E
  have hlok : LabOk (labs V E) := labs_ok HR.out.vup fun e he => ⟨HR.out.eu e he, HR.out.ev e he⟩
  have HLL := Lib.hid hll
  have HLO := Lib.hid hlok
  clear hll hlok
  rw [← HN.out]
  go_loopw [24] (fun i wr => ∃ (k : Nat), k ≤ n ∧ i = .int .i64 k ∧ Below (w.heap.size + 1) (w.alloc (.cells #[.slice Av n cv, se] 25)) wr ∧ w2.heap.size < wr.heap.size ∧ Hid (SB wr G (labs V E)) ∧ Hid (∃ vs, Grp encI 1 3 wr w2.heap.size w2.heap.size 22 vs (allL (labs V E) V k))) (fun i wr => n - (intOf i).toNat)
  case atStart =>
    refine ⟨0, Nat.zero_le _, rfl, HB2.out.alloc (by omega) _, by simp, HT2.out.below ((Below.refl _ _).alloc (Nat.le_refl _) _) hGlt, ?_⟩
    show ∃ vs, _
    rw [allL_zero, ← HN.out]
    exact ⟨_, Grp.made w2 _ n⟩
  case round =>
    obtain ⟨k, hk, rfl, hbel, hz, HS, HG⟩ := hrel
    by_cases hlt : k < n
    · obtain ⟨b, o, rfl, hb, hx⟩ := HC.out k (by have := HN.out; omega)
      have hx := cellI hx
      obtain ⟨y, hy⟩ : ∃ y, y = V[k]'(by have := HN.out; omega) := ⟨_, rfl⟩
      have hy' : V.getD k 0 = y := by rw [hy]; simp [List.getD, show k < V.length by have := HN.out; omega]
      rw [← hy] at hx
      have HY := Lib.hid hy'
      clear hy hy'
      have hbw : Below w.heap.size w wr := ((Below.refl _ _).alloc (Nat.le_refl _) _).trans (hbel.mono (by omega))
      have hx := (hbw.cell (p := ⟨b, o + k, none⟩) (by show b < _; omega)).trans hx
      have HB := Lib.hid hbel
      clear hbel hbw
      obtain ⟨vs, hgrp⟩ := HG.out
      obtain ⟨f, hf⟩ : ∃ f, f = lab (labs V E) k := ⟨_, rfl⟩
      have hfl : f < n := by
        have := HLO.out.lt (i := k) (by rw [HLL.out, ← HN.out]; exact hlt)
        rw [HLL.out, ← HN.out] at this
        omega
      have HF : Hid (lab (labs V E) k = f) := hf.symm
      clear hf
      go_wp2_with fail
      refine (first_q G (labs V E) n k f HF.out _ HLO.out HS.out (by rw [HLL.out, ← HN.out]) hlt (by omega)).mono ?_
      rintro e w4 ⟨rfl, hg4, hs4, hz4⟩
      have hgrp4 := hgrp.grown hg4 (by simp; omega) (fun i v hv => by
        cases hob : v.ownBlock with
        | none => exact .inl rfl
        | some q => right; intro e; injection e with e; have := (hgrp.own_lt hv q hob).1; omega)
      obtain ⟨vf, hvf⟩ : ∃ vf, vs[f]? = some vf := ⟨vs[f]'(by rw [hgrp.len, allL_len, ← HN.out]; exact hfl), List.getElem?_eq_getElem _⟩
      have hlf := allL_get (labs V E) V k f (by rw [← HN.out]; exact hfl)
      have hown := hgrp4.own f vf _ hvf hlf
      have c1 : w4.cell? ⟨w2.heap.size, f, none⟩ = some vf := (hgrp4.blk.cell f).trans (by simpa using hvf)
      have HS4 := Lib.hid hs4
      have HG4 := Lib.hid hgrp4
      have HVF := Lib.hid hvf
      have HLF := Lib.hid hlf
      have HO := Lib.hid hown
      have HB4 : Hid (Below (w.heap.size + 1) (w.alloc (.cells #[.slice (some ⟨b, o, none⟩) n cv, se] 25)) w4) := HB.out.trans (below_grownBy hg4 (by omega) (by intro g hg; injection hg with hg; omega))
      clear hg4 hs4 hgrp4 hgrp hvf hlf hown hx
      have hz5 : w2.heap.size < w4.heap.size := by omega
      clear hz4
      have hml := mem_len (labs V E) V k f
      have hz6 : w2.heap.size ≤ w4.heap.size + 1 := by omega
      have HG4a := Lib.hid (HG4.out.below ((Below.refl _ _).alloc (Nat.le_refl _) (.cells #[.int .i64 y] 3)))
      go_wp2_with (at_builtin; refine wpList_app1 etInts encI_len encI_one rfl (.tmp 37) (.tmp 39) rfl rfl (HO.out.alloc _) w4.heap.size rfl (y := y) (by intro j u hu; match j, hu with | 0, hu => (simp [encI] at hu; subst hu; simp) | j + 1, hu => simp [encI] at hu) (by omega) (by simp; omega) ?_; intro v' w5 ho5 hg5 hb5; have hbk := HG4a.out.blk.grown hg5 (Ne.symm (HG4a.out.far f vf HVF.out)); have hc5 : ∃ u, w5.cell? ⟨w2.heap.size, f, none⟩ = some u := hbk.setAt f (by simp; have := (List.getElem?_eq_some_iff.1 HVF.out).1; exact this); have hf5 := hbk.frozen f; obtain ⟨u5, hc5⟩ := hc5; have HO5 := Lib.hid ho5; have HG5 := Lib.hid hg5; have HB5 := Lib.hid hb5; clear hg5 hb5 hbk; obtain ⟨A5, m5, q5, rfl⟩ := ho5.slice3; clear ho5)
      have hvb : ∀ q, vf.ownBlock = some q → w2.heap.size ≤ q ∧ q < w4.heap.size + 1 := by
        intro q hq
        have := HG4a.out.own_lt HVF.out q hq
        simpa using this
      have hSB : SB (w5.setCell ⟨w2.heap.size, f, none⟩ (.slice A5 m5 q5)) G (labs V E) := by
        have h1 : SB (w4.alloc (.cells #[.int .i64 y] 3)) G (labs V E) := HS4.out.below ((Below.refl _ _).alloc (Nat.le_refl _) _) HS4.out.lt
        have h2 := h1.grown HG5.out (by intro e; have := hvb G e.symm; omega)
        exact h2.grown (row := some w2.heap.size) ⟨rfl, rfl, rfl, by simp, fun q _ hq => heap_setCell_other _ ⟨w2.heap.size, f, none⟩ q _ (fun e => hq (by simp [e]))⟩ (by simp; omega)
      have HSB := Lib.hid hSB
      have HP := Lib.hid (HG4a.out.push HVF.out HLF.out HO5.out HG5.out HB5.out)
      have HBe : Hid (Below (w.heap.size + 1) (w.alloc (.cells #[.slice (some ⟨b, o, none⟩) n cv, se] 25)) (w5.setCell ⟨w2.heap.size, f, none⟩ (.slice A5 m5 q5))) :=
        ((HB4.out.alloc (by omega) _).grown HG5.out (by simp; omega) (fun q hq => by have := (hvb q hq).1; omega)).setCell (by show _ ≤ w2.heap.size; omega) _
      have hz7 : w2.heap.size < (w5.setCell ⟨w2.heap.size, f, none⟩ (.slice A5 m5 q5)).heap.size := by
        have := HG5.out.size
        simp at this ⊢
        omega
      have HZ7 := Lib.hid hz7
      clear hSB hvb hz7
      go_roundw
      case rel =>
        refine ⟨k + 1, by omega, by go_num, HBe.out, HZ7.out, HSB.out, ?_⟩
        have := HP.out
        rw [← HY.out, allL_succ _ _ _ _ HF.out (by rw [← HN.out]; exact hfl)] at this
        exact ⟨_, this⟩
      case measure => simp [intOf]; omega
    · obtain rfl : k = n := by omega
      obtain ⟨vs, hgrp⟩ := HG.out
      have HGR := Lib.hid hgrp
      have HB := Lib.hid hbel
      clear hgrp hbel
      go_wp2_with fail
      refine (delete_any _ w2.heap.size w2.heap.size k vs (allL (labs V E) V k) HGR.out (by rw [allL_len, ← HN.out]) (by omega)).mono ?_
      rintro e w6 ⟨lv, rfl, hrl, hg6⟩
      have HRL := Lib.hid hrl
      have HG6 := Lib.hid hg6
      clear hrl hg6
      go_wp2_with fail
      go_ret2
      refine ⟨lv, rfl, ?_, (((Below.refl _ _).alloc (Nat.le_refl _) _).trans (HB.out.mono (by omega))).trans (below_grownBy HG6.out (by omega) (by intro g hg; injection hg with hg; omega))⟩
      have := HRL.out
      rw [HN.out] at this
      exact this
end Go.Proofs.YtghacfhpafbdmaaGreat
