/-
  The walk of PlainNets.
-/
import Derived.Test.YtghacfhpafbdmaaGreatZT38
namespace Go.Proofs.YtghacfhpafbdmaaGreat
open Go.RowKit
set_option linter.unusedVariables false

/-- Both nets, the one that came in and its twin, each in its box. -/
structure NetsAt (w3 : World) (g0 gm : Nat) (sv se sm em : Value) (V : List Int) (E : List Ed) (wr : World) : Prop where
  low : Below w3.heap.size w3 wr
  hv : RI wr w3.heap.size sv V
  he : RE wr w3.heap.size se E
  mv : RI wr w3.heap.size sm V
  me : RE wr w3.heap.size em E
  b0 : Blk wr g0 25 #[sv, se]
  bm : Blk wr gm 25 #[sm, em]
  l0 : g0 < w3.heap.size
  lm : gm < w3.heap.size

section
variable {w3 wr w' : World} {g0 gm : Nat} {sv se sm em : Value} {V : List Int} {E : List Ed}
theorem NetsAt.sz (h : NetsAt w3 g0 gm sv se sm em V E wr) : w3.heap.size ≤ wr.heap.size := h.low.size
theorem NetsAt.stepB (h : NetsAt w3 g0 gm sv se sm em V E wr) (hb : Below w3.heap.size wr w') : NetsAt w3 g0 gm sv se sm em V E w' :=
  ⟨h.low.trans hb, h.hv.below hb, h.he.below hb, h.mv.below hb, h.me.below hb, h.b0.below hb h.l0, h.bm.below hb h.lm, h.l0, h.lm⟩
theorem NetsAt.step (h : NetsAt w3 g0 gm sv se sm em V E wr) (hb : Below wr.heap.size wr w') : NetsAt w3 g0 gm sv se sm em V E w' := h.stepB (hb.mono h.sz)
theorem NetsAt.grown {row : Option Nat} (h : NetsAt w3 g0 gm sv se sm em V E wr) (hg : wr.grownBy w' row) (hr : ∀ g, row = some g → w3.heap.size ≤ g) : NetsAt w3 g0 gm sv se sm em V E w' := h.stepB (below_grownBy hg h.sz hr)
end

set_option maxRecDepth 100000 in
set_option maxHeartbeats 8000000 in
theorem plainNets_many (sv se : Value) (V : List Int) (E : List Ed) (u v : Int) (w : World) (hv : RI w w.heap.size sv V) (he : RE w w.heap.size se E) (hb : 300 < V.length ∨ 300 < E.length) :
    Calls Tryz.prog 3 #[netV sv se, .int .i64 u, .int .i64 v] w fun e w' => e = .returned (.bool true) ∧ Below w.heap.size w w' := by
  have HV := Lib.hid hv
  have HE := Lib.hid he
  obtain ⟨Av, cv, rfl, -, -, -, -⟩ := hv.open_
  obtain ⟨Ae, ce, rfl, -, -, -, -⟩ := he.open_
  clear hv he
  obtain ⟨nv, hnv⟩ : ∃ n, n = V.length := ⟨_, rfl⟩
  obtain ⟨ne, hne⟩ : ∃ n, n = E.length := ⟨_, rfl⟩
  rw [← hnv, ← hne] at hb
  rw [← hnv] at HV ⊢
  rw [← hne] at HE ⊢
  obtain ⟨rc, hrc⟩ : ∃ r, r = refChk V E := ⟨_, rfl⟩
  have HRC := Lib.hid hrc
  clear hnv hne hrc
  have hrr : (rc == rc) = true := by simp
  go_enter Tryz.func3, Tryz.ntmps3
  go_wp2_with fail
  refine (alive_any _).mono ?_
  rintro e w1 ⟨rfl, hb1⟩
  have HNb : Hid (Blk w1 w.heap.size 25 #[.slice Av nv cv, .slice Ae ne ce]) := Lib.hid ((Blk.new w 25 #[.slice Av nv cv, .slice Ae ne ce]).below hb1 (by simp))
  have HB1 : Hid (Below w.heap.size w w1) := Lib.hid (((Below.refl _ _).alloc (Nat.le_refl _) _).trans (hb1.mono (by simp)))
  have hz1 := HNb.out.lt
  have HK : Hid (∀ W', Below w1.heap.size w1 W' → RI W' w.heap.size (.slice Av nv cv) V ∧ RE W' w.heap.size (.slice Ae ne ce) E ∧ w.heap.size ≤ W'.heap.size ∧ W'.cell? ⟨w.heap.size, 0, none⟩ = some (.slice Av nv cv) ∧ W'.cell? ⟨w.heap.size, 1, none⟩ = some (.slice Ae ne ce)) := Lib.hid fun W' hb' => by
    have hbb := HB1.out.trans (hb'.mono (by omega))
    have hn := HNb.out.below hb' hz1
    exact ⟨HV.out.below hbb, HE.out.below hbb, by have := hb'.size; omega, hn.cell 0, hn.cell 1⟩
  have c0 := HNb.out.cell 0
  have c1 := HNb.out.cell 1
  clear hb1
  by_cases hn3 : 300 < nv
  · have hg : decide ((nv : Int) > 300) = true := by simp; omega
    clear hb hn3
    go_wp2_with fail
    have HZ : Hid (Below w1.heap.size w1 w1.drew) := Lib.hid (Below.refl _ _).drew
    have HC : Hid (w1.drew.cell? ⟨w.heap.size, 0, none⟩ = some (.slice Av nv cv) ∧ w1.drew.cell? ⟨w.heap.size, 1, none⟩ = some (.slice Ae ne ce)) := Lib.hid (HK.out _ HZ.out).2.2.2
    obtain ⟨c0, c1⟩ := HC.out
    go_region_held3 (fun w' => w'.cell? ⟨w.heap.size, 0, none⟩ = some (.slice Av nv cv) ∧ w'.cell? ⟨w.heap.size, 1, none⟩ = some (.slice Ae ne ce)) (first | with_reducible exact HC.out | fail) (first | (go_at_call 9; refine (chkN_any _ _ V E _ _ (HK.out _ HZ.out).1 (HK.out _ HZ.out).2.1 (HK.out _ HZ.out).2.2.1).mono ?_; rw [← HRC.out]; rintro e w3 ⟨rfl, t3⟩; have HZ2 := Lib.hid (HZ.out.trans (t3.mono HZ.out.size)); clear HZ HC t3; have HZ := HZ2; have HC := Lib.hid (HK.out _ HZ.out).2.2.2; clear HZ2) | (go_at_call 10; refine (refCheck_any _ _ V E _ _ (HK.out _ HZ.out).1 (HK.out _ HZ.out).2.1 (HK.out _ HZ.out).2.2.1).mono ?_; rw [← HRC.out]; rintro e w4 ⟨rfl, t4⟩; have HZ2 := Lib.hid (HZ.out.trans (t4.mono HZ.out.size)); clear HZ HC t4; have HZ := HZ2; have HC := Lib.hid (HK.out _ HZ.out).2.2.2; clear HZ2))
    go_wp2_with fail
    go_ret
    exact ⟨rfl, HB1.out.trans (HZ.out.mono (by omega))⟩
  · have hg : decide ((nv : Int) > 300) = false := by simp; omega
    have hg2 : decide ((ne : Int) > 300) = true := by simp; omega
    clear hb hn3
    go_wp2_with fail
    have HZ : Hid (Below w1.heap.size w1 w1.drew) := Lib.hid (Below.refl _ _).drew
    have HC : Hid (w1.drew.cell? ⟨w.heap.size, 0, none⟩ = some (.slice Av nv cv) ∧ w1.drew.cell? ⟨w.heap.size, 1, none⟩ = some (.slice Ae ne ce)) := Lib.hid (HK.out _ HZ.out).2.2.2
    obtain ⟨c0, c1⟩ := HC.out
    go_region_held3 (fun w' => w'.cell? ⟨w.heap.size, 0, none⟩ = some (.slice Av nv cv) ∧ w'.cell? ⟨w.heap.size, 1, none⟩ = some (.slice Ae ne ce)) (first | with_reducible exact HC.out | fail) (first | (go_at_call 9; refine (chkN_any _ _ V E _ _ (HK.out _ HZ.out).1 (HK.out _ HZ.out).2.1 (HK.out _ HZ.out).2.2.1).mono ?_; rw [← HRC.out]; rintro e w3 ⟨rfl, t3⟩; have HZ2 := Lib.hid (HZ.out.trans (t3.mono HZ.out.size)); clear HZ HC t3; have HZ := HZ2; have HC := Lib.hid (HK.out _ HZ.out).2.2.2; clear HZ2) | (go_at_call 10; refine (refCheck_any _ _ V E _ _ (HK.out _ HZ.out).1 (HK.out _ HZ.out).2.1 (HK.out _ HZ.out).2.2.1).mono ?_; rw [← HRC.out]; rintro e w4 ⟨rfl, t4⟩; have HZ2 := Lib.hid (HZ.out.trans (t4.mono HZ.out.size)); clear HZ HC t4; have HZ := HZ2; have HC := Lib.hid (HK.out _ HZ.out).2.2.2; clear HZ2))
    go_wp2_with fail
    go_ret
    exact ⟨rfl, HB1.out.trans (HZ.out.mono (by omega))⟩

end Go.Proofs.YtghacfhpafbdmaaGreat

/-
  The walk of PlainNets at a net of at most 300 vertices and edges, and at any.
-/
namespace Go.Proofs.YtghacfhpafbdmaaGreat
open Go.RowKit
set_option linter.unusedVariables false

theorem NetsAt.cells {w3 wr : World} {g0 gm : Nat} {sv se sm em : Value} {V : List Int} {E : List Ed} (h : NetsAt w3 g0 gm sv se sm em V E wr) :
    wr.cell? ⟨g0, 0, none⟩ = some sv ∧ wr.cell? ⟨g0, 1, none⟩ = some se ∧ wr.cell? ⟨gm, 0, none⟩ = some sm ∧ wr.cell? ⟨gm, 1, none⟩ = some em := ⟨h.b0.cell 0, h.b0.cell 1, h.bm.cell 0, h.bm.cell 1⟩

/-- Two rows alike, the third the document's: each made behind the one ahead of it. -/
structure Rows3 (w : World) (Ba Bb Bw : Nat) (va vb vw : Value) (xs : List Int) : Prop where
  a : OK encI 1 3 w Ba va xs
  b : OK encI 1 3 w Bb vb xs
  c : OK encI 1 3 w Bw vw xs
  ab : ∀ g, va.ownBlock = some g → g < Bb
  ac : ∀ g, va.ownBlock = some g → g < Bw

theorem Rows3.step {w w' : World} {Ba Bb Bw : Nat} {va vb vw : Value} {xs : List Int} (h : Rows3 w Ba Bb Bw va vb vw xs) (hb : Below w.heap.size w w') : Rows3 w' Ba Bb Bw va vb vw xs :=
  ⟨h.a.below hb, h.b.below hb, h.c.below hb, h.ab, h.ac⟩

theorem agg_grown {w w' : World} {v : Value} {xs : List Int} {B g : Nat} {cs : Array Value} (h : Blk w g 50 cs) (ho : OK encI 1 3 w B v xs) (hg : w.grownBy w' v.ownBlock) : Blk w' g 50 cs :=
  h.grown hg (fun e => ho.ne_blk h (by decide) e.symm)

theorem alongV_R (sv se : Value) (V : List Int) (E : List Ed) (u v : Int) (w : World) (B : Nat) (hv : RI w B sv V) (he : RE w B se E) (hB : B ≤ w.heap.size) :
    Calls Tryz.prog 22 #[netV sv se, .int .i64 u, .int .i64 v] w fun e w' => e = .returned (alongV V E u v) ∧ Below w.heap.size w w' := refAlong_any sv se V E u v w B hv he hB

attribute [local go_sem] run_storeC

set_option maxRecDepth 100000 in
set_option maxHeartbeats 16000000 in
theorem plainNets_few (sv se : Value) (V : List Int) (E : List Ed) (u v : Int) (w : World) (hv : RI w w.heap.size sv V) (he : RE w w.heap.size se E) (h1 : V.length ≤ 300) (h2 : E.length ≤ 300) :
    Calls Tryz.prog 3 #[netV sv se, .int .i64 u, .int .i64 v] w fun e w' => e = .returned (.bool true) ∧ Below w.heap.size w w' := by
  have HV := Lib.hid hv
  have HE := Lib.hid he
  obtain ⟨Av, cv, rfl, -, -, -, -⟩ := hv.open_
  obtain ⟨Ae, ce, rfl, -, -, -, -⟩ := he.open_
  clear hv he
  have HL1 := Lib.hid h1
  have HL2 := Lib.hid h2
  obtain ⟨nv, hnv⟩ : ∃ n, n = V.length := ⟨_, rfl⟩
  obtain ⟨ne, hne⟩ : ∃ n, n = E.length := ⟨_, rfl⟩
  rw [← hnv] at h1 HV ⊢
  rw [← hne] at h2 HE ⊢
  obtain ⟨rc, hrc⟩ : ∃ r, r = refChk V E := ⟨_, rfl⟩
  obtain ⟨jb, hjb⟩ : ∃ r, r = joinV V E u v := ⟨_, rfl⟩
  obtain ⟨cc, hcc⟩ : ∃ r, r = chkV V E [u, v] := ⟨_, rfl⟩
  obtain ⟨pe, hpe⟩ : ∃ r, r = pathErr V E u v := ⟨_, rfl⟩
  obtain ⟨wa, wb, hwv⟩ := weiV_two V E
  obtain ⟨sa, sb, hsv⟩ := spaV_two V E u
  obtain ⟨ai, au, av, ax, re, im, ag, hav, ho1, ho2⟩ := alongV_open V E u v
  have hagg := fun W => run_neA W ai au av ax re im ho1 ho2
  have HRC := Lib.hid hrc
  have HJB := Lib.hid hjb
  have HCC := Lib.hid hcc
  have HPE := Lib.hid hpe
  have HWV := Lib.hid hwv
  have HSV := Lib.hid hsv
  have HAV := Lib.hid hav
  clear hnv hne hrc hjb hcc hpe hwv hsv hav ho1 ho2
  have e1 : (rc != rc) = false := by simp
  have e2 : (jb != jb) = false := by simp
  have e3 : (cc != cc) = false := by simp
  have e4 : (pe != pe) = false := by simp
  have e5 : (wa != wa) = false := by simp
  have e6 : (wb != wb) = false := by simp
  have e7 : (sa != sa) = false := by simp
  have e8 : (sb != sb) = false := by simp
  have e9 : (ag != ag) = false := by simp
  have g1 : decide ((nv : Int) > 300) = false := by simp; omega
  have g2 : decide ((ne : Int) > 300) = false := by simp; omega
  go_enter Tryz.func3, Tryz.ntmps3
  go_wp2_with fail
  refine (alive_any _).mono ?_
  rintro e w1 ⟨rfl, hb1⟩
  have HNb : Hid (Blk w1 w.heap.size 25 #[.slice Av nv cv, .slice Ae ne ce]) := Lib.hid ((Blk.new w 25 #[.slice Av nv cv, .slice Ae ne ce]).below hb1 (by simp))
  have HB1 : Hid (Below w.heap.size w w1) := Lib.hid (((Below.refl _ _).alloc (Nat.le_refl _) _).trans (hb1.mono (by simp)))
  have hz1 := HNb.out.lt
  have c0 := HNb.out.cell 0
  have c1 := HNb.out.cell 1
  clear hb1
  go_wp2_with fail
  refine (TwinNet_any _ _ V E _ _ (HV.out.below HB1.out) (HE.out.below HB1.out) (by omega) (by have := HL1.out; omega) (by have := HL2.out; omega)).mono ?_
  rintro e w2 ⟨sm, em, rfl, hm1, hm2, hb2⟩
  obtain ⟨Am, cm, rfl, -, -, -, -⟩ := hm1.open_
  obtain ⟨An, cn, rfl, -, -, -, -⟩ := hm2.open_
  have HB2 : Hid (Below w.heap.size w w2) := Lib.hid (HB1.out.trans (hb2.mono (by omega)))
  have HNb2 : Hid (Blk w2 w.heap.size 25 #[.slice Av nv cv, .slice Ae ne ce]) := Lib.hid (HNb.out.below hb2 hz1)
  obtain ⟨w3, hw3⟩ : ∃ W, W = w2.alloc (.cells #[.slice Am V.length cm, .slice An E.length cn] 25) := ⟨_, rfl⟩
  have hz2 := HNb2.out.lt
  have NA : Hid (NetsAt w3 w.heap.size w2.heap.size (.slice Av nv cv) (.slice Ae ne ce) (.slice Am V.length cm) (.slice An E.length cn) V E w3) := Lib.hid (by
    have hbw : Below w2.heap.size w2 w3 := by rw [hw3]; exact (Below.refl _ _).alloc (Nat.le_refl _) _
    have hsz : w3.heap.size = w2.heap.size + 1 := by rw [hw3]; simp
    refine ⟨Below.refl _ _, ?_, ?_, ?_, ?_, ?_, ?_, by omega, by omega⟩
    · exact ((HV.out.below HB2.out).below (hbw.mono (by omega))).more (by omega)
    · exact ((HE.out.below HB2.out).below (hbw.mono (by omega))).more (by omega)
    · exact (hm1.below hbw).more (by omega)
    · exact (hm2.below hbw).more (by omega)
    · exact HNb2.out.below hbw hz2
    · rw [hw3]; exact Blk.new _ _ _)
  have HB3 : Hid (Below w.heap.size w w3 ∧ w.heap.size ≤ w3.heap.size) := Lib.hid (by rw [hw3]; exact ⟨HB2.out.alloc (by omega) _, by simp; omega⟩)
  obtain ⟨g0, hg0⟩ : ∃ g, g = w.heap.size := ⟨_, rfl⟩
  obtain ⟨gm, hgm⟩ : ∃ g, g = w2.heap.size := ⟨_, rfl⟩
  obtain ⟨mv, hmv⟩ : ∃ n, n = V.length := ⟨_, rfl⟩
  obtain ⟨me, hme⟩ : ∃ n, n = E.length := ⟨_, rfl⟩
  have HW3 := Lib.hid hw3
  clear hm1 hm2 hb2 c0 c1 hw3
  go_upto_region 6 with fail
  rw [← HW3.out]
  rw [← hg0, ← hgm, ← hmv, ← hme] at NA
  simp only [← hg0, ← hgm, ← hmv, ← hme]
  clear hmv hme hgm hg0 HW3
  obtain ⟨c0, c1, m0, m1⟩ := NA.out.cells
  go_wp2_with fail
  refine (joinN_any _ _ V E u v _ _ NA.out.mv NA.out.me NA.out.sz).mono ?_
  rw [← HJB.out, ← HCC.out]
  rintro e w4 ⟨rfl, hb⟩
  have NA' := Lib.hid (NA.out.step hb)
  clear c0 c1 m0 m1 NA
  have NA := NA'
  clear NA' hb
  obtain ⟨c0, c1, m0, m1⟩ := NA.out.cells
  go_wp2_with fail
  refine (joinR_any _ _ V E u v _ _ NA.out.hv NA.out.he NA.out.sz).mono ?_
  rw [← HJB.out, ← HCC.out]
  rintro e w5 ⟨rfl, hb⟩
  have NA' := Lib.hid (NA.out.step hb)
  clear c0 c1 m0 m1 NA
  have NA := NA'
  clear NA' hb
  obtain ⟨c0, c1, m0, m1⟩ := NA.out.cells
  go_wp2_with fail
  refine (forN_any _ _ V E _ _ NA.out.mv NA.out.me NA.out.sz).mono ?_
  rw [← HRC.out]
  have ZF : Hid (w3.heap.size ≤ w5.heap.size) := Lib.hid NA.out.sz
  rintro e w6 ⟨fa, rfl, ho, hb⟩
  have NA' := Lib.hid (NA.out.step hb)
  obtain ⟨Afa, nfa, cfa, rfl⟩ := ho.slice3
  have Ofa := Lib.hid ho
  clear ho
  clear c0 c1 m0 m1 NA
  have NA := NA'
  clear NA' hb
  obtain ⟨c0, c1, m0, m1⟩ := NA.out.cells
  go_wp2_with fail
  refine (forN_any _ _ V E _ _ NA.out.mv NA.out.me NA.out.sz).mono ?_
  rw [← HRC.out]
  rintro e w7 ⟨fb, rfl, ho, hb⟩
  have NA' := Lib.hid (NA.out.step hb)
  have Ofa' := Lib.hid (Ofa.out.below hb)
  obtain ⟨Afb, nfb, cfb, rfl⟩ := ho.slice3
  have Ofb := Lib.hid ho
  clear ho
  clear c0 c1 m0 m1 NA
  have NA := NA'
  clear NA' hb
  obtain ⟨c0, c1, m0, m1⟩ := NA.out.cells
  go_wp2_with fail
  refine (forR_any _ _ V E _ _ NA.out.hv NA.out.he NA.out.sz).mono ?_
  rw [← HRC.out]
  rintro e w8 ⟨fc, rfl, ho, hb⟩
  have NA' := Lib.hid (NA.out.step hb)
  have R3 : Hid (Rows3 w8 w5.heap.size w6.heap.size w7.heap.size (.slice Afa nfa cfa) (.slice Afb nfb cfb) fc (forV V E)) := Lib.hid ⟨Ofa'.out.below hb, Ofb.out.below hb, ho, fun g hg => (Ofa.out.lt g hg).2, fun g hg => (Ofa'.out.lt g hg).2⟩
  have HFZ : Hid (w3.heap.size ≤ w5.heap.size) := Lib.hid ZF.out
  obtain ⟨Afc, nfc, cfc, rfl⟩ := ho.slice3
  clear ho Ofa Ofa' Ofb
  clear c0 c1 m0 m1 NA
  have NA := NA'
  clear NA' hb
  obtain ⟨c0, c1, m0, m1⟩ := NA.out.cells
  go_wp2_with fail
  refine (weiN_any _ _ V E _ _ NA.out.mv NA.out.me NA.out.sz).mono ?_
  rw [HWV.out]
  rintro e w9 ⟨rfl, hb⟩
  have R3' := Lib.hid (R3.out.step hb)
  clear R3
  have R3 := R3'
  clear R3'
  have NA' := Lib.hid (NA.out.step hb)
  clear c0 c1 m0 m1 NA
  have NA := NA'
  clear NA' hb
  obtain ⟨c0, c1, m0, m1⟩ := NA.out.cells
  go_wp2_with fail
  refine (weiR_any _ _ V E _ _ NA.out.hv NA.out.he NA.out.sz).mono ?_
  rw [HWV.out]
  rintro e w10 ⟨rfl, hb⟩
  have R3' := Lib.hid (R3.out.step hb)
  clear R3
  have R3 := R3'
  clear R3'
  have NA' := Lib.hid (NA.out.step hb)
  clear c0 c1 m0 m1 NA
  have NA := NA'
  clear NA' hb
  obtain ⟨c0, c1, m0, m1⟩ := NA.out.cells
  go_wp2_with fail
  obtain ⟨wk, hwk⟩ : ∃ W, W = w10 := ⟨_, rfl⟩
  have HK : Hid (∀ W', Below wk.heap.size wk W' → NetsAt w3 g0 gm (.slice Av nv cv) (.slice Ae ne ce) (.slice Am mv cm) (.slice An me cn) V E W' ∧ Rows3 W' w5.heap.size w6.heap.size w7.heap.size (.slice Afa nfa cfa) (.slice Afb nfb cfb) (.slice Afc nfc cfc) (forV V E)) := Lib.hid (by rw [hwk]; exact fun W' hb => ⟨NA.out.step hb, R3.out.step hb⟩)
  have HT : Hid (wk.grownBy wk.drew (Value.slice Afa nfa cfa).ownBlock) := Lib.hid (grownBy_below (Below.refl _ _).drew)
  rw [← hwk] at NA ⊢
  clear hwk R3
  have HZ : Hid (Below wk.heap.size wk wk.drew) := Lib.hid (Below.refl _ _).drew
  have HC := Lib.hid (HK.out _ HZ.out).1.cells
  clear c0 c1 m0 m1
  obtain ⟨c0, c1, m0, m1⟩ := HC.out
  go_region_held3 (fun w' => w'.cell? ⟨g0, 0, none⟩ = some (.slice Av nv cv) ∧ w'.cell? ⟨g0, 1, none⟩ = some (.slice Ae ne ce) ∧ w'.cell? ⟨gm, 0, none⟩ = some (.slice Am mv cm) ∧ w'.cell? ⟨gm, 1, none⟩ = some (.slice An me cn)) (first | with_reducible exact HC.out | fail) (first | (go_at_call 9; refine (chkN_any _ _ V E _ _ (HK.out _ HZ.out).1.mv (HK.out _ HZ.out).1.me (HK.out _ HZ.out).1.sz).mono ?_; rw [← HRC.out]; rintro e wa1 ⟨rfl, t3⟩; have HZ2 := Lib.hid (HZ.out.trans (t3.mono HZ.out.size)); clear HZ HC HT t3; have HZ := HZ2; have HC := Lib.hid (HK.out _ HZ.out).1.cells; have HT := Lib.hid (grownBy_below HZ.out (row := (Value.slice Afa nfa cfa).ownBlock)); clear HZ2) | (go_at_call 10; refine (refCheck_any _ _ V E _ _ (HK.out _ HZ.out).1.hv (HK.out _ HZ.out).1.he (HK.out _ HZ.out).1.sz).mono ?_; rw [← HRC.out]; rintro e wa2 ⟨rfl, t3⟩; have HZ2 := Lib.hid (HZ.out.trans (t3.mono HZ.out.size)); clear HZ HC HT t3; have HZ := HZ2; have HC := Lib.hid (HK.out _ HZ.out).1.cells; have HT := Lib.hid (grownBy_below HZ.out (row := (Value.slice Afa nfa cfa).ownBlock)); clear HZ2) | (go_at_call 18; refine (twice_any _ _ _ (forV V E) _ _ _ _ (HK.out _ HZ.out).2.a (HK.out _ HZ.out).2.b (HK.out _ HZ.out).2.c (HK.out _ HZ.out).2.ab (HK.out _ HZ.out).2.ac).mono ?_; rintro e wt ⟨rfl, t3⟩; have HT2 := Lib.hid (grownBy_trans HT.out t3); clear HC HT t3; have HT := HT2; have HNT := Lib.hid (NA.out.grown HT.out (fun g hg => by have h1 := ((HK.out _ (Below.refl _ _)).2.a.lt g hg).1; have h2 := HFZ.out; omega)); have HC := Lib.hid HNT.out.cells; clear HT2))
  have NA2 := HNT
  clear NA HK HZ HC HT HNT HFZ
  have NA := NA2
  clear NA2 c0 c1 m0 m1
  obtain ⟨c0, c1, m0, m1⟩ := NA.out.cells
  go_wp2_with fail
  refine (pathN_any _ _ V E u v _ _ NA.out.mv NA.out.me NA.out.sz).mono ?_
  rw [← HPE.out]
  have HWZ : Hid (w3.heap.size ≤ wt.heap.size) := Lib.hid NA.out.sz
  rintro e w41 ⟨pa, rfl, ho, hb⟩
  have NA' := Lib.hid (NA.out.step hb)
  obtain ⟨Apa, npa, cpa, rfl⟩ := ho.slice3
  have Opa := Lib.hid ho
  clear ho
  clear c0 c1 m0 m1 NA
  have NA := NA'
  clear NA' hb
  obtain ⟨c0, c1, m0, m1⟩ := NA.out.cells
  go_wp2_with fail
  refine (pathN_any _ _ V E u v _ _ NA.out.mv NA.out.me NA.out.sz).mono ?_
  rw [← HPE.out]
  rintro e w42 ⟨pb, rfl, ho, hb⟩
  have NA' := Lib.hid (NA.out.step hb)
  have Opa' := Lib.hid (Opa.out.below hb)
  obtain ⟨Apb, npb, cpb, rfl⟩ := ho.slice3
  have Opb := Lib.hid ho
  clear ho
  clear c0 c1 m0 m1 NA
  have NA := NA'
  clear NA' hb
  obtain ⟨c0, c1, m0, m1⟩ := NA.out.cells
  go_wp2_with fail
  refine (pathR_any _ _ V E u v _ _ NA.out.hv NA.out.he NA.out.sz).mono ?_
  rw [← HPE.out]
  rintro e w43 ⟨pc, rfl, ho, hb⟩
  have NA' := Lib.hid (NA.out.step hb)
  have R3 : Hid (Rows3 w43 wt.heap.size w41.heap.size w42.heap.size (.slice Apa npa cpa) (.slice Apb npb cpb) pc ((pth V E u v).map (·.id))) := Lib.hid ⟨Opa'.out.below hb, Opb.out.below hb, ho, fun g hg => (Opa.out.lt g hg).2, fun g hg => (Opa'.out.lt g hg).2⟩
  obtain ⟨Apc, npc, cpc, rfl⟩ := ho.slice3
  clear ho Opa Opa' Opb
  clear c0 c1 m0 m1 NA
  have NA := NA'
  clear NA' hb
  obtain ⟨c0, c1, m0, m1⟩ := NA.out.cells
  go_wp2_with fail
  refine (alongN_any _ _ V E u v _ _ NA.out.mv NA.out.me NA.out.sz).mono ?_
  rw [HAV.out]
  rintro e w44 ⟨rfl, hb⟩
  have R3' := Lib.hid (R3.out.step hb)
  clear R3
  have R3 := R3'
  clear R3'
  have NA' := Lib.hid (NA.out.step hb)
  clear c0 c1 m0 m1 NA
  have NA := NA'
  clear NA' hb
  obtain ⟨c0, c1, m0, m1⟩ := NA.out.cells
  go_upto_region 19 with fail
  obtain ⟨wx, hwx⟩ : ∃ W, W = w44.alloc (.cells #[.int .i64 ai, .int .i64 au, .int .i64 av, .int .i64 ax, .complex .f64 re im] 50) := ⟨_, rfl⟩
  have hbx : Below w44.heap.size w44 wx := by rw [hwx]; exact (Below.refl _ _).alloc (Nat.le_refl _) _
  have BX : Hid (Blk wx w44.heap.size 50 #[.int .i64 ai, .int .i64 au, .int .i64 av, .int .i64 ax, .complex .f64 re im]) := Lib.hid (by rw [hwx]; exact Blk.new _ _ _)
  rw [← hwx]
  clear hwx
  have R3' := Lib.hid (R3.out.step hbx)
  clear R3
  have R3 := R3'
  clear R3'
  have NA' := Lib.hid (NA.out.step hbx)
  clear NA
  have NA := NA'
  clear NA'
  clear c0 c1 m0 m1 hbx
  obtain ⟨c0, c1, m0, m1⟩ := NA.out.cells
  obtain ⟨gx, hgx⟩ : ∃ g, g = w44.heap.size := ⟨_, rfl⟩
  rw [← hgx] at BX
  simp only [← hgx]
  clear hgx
  go_wp2_with fail
  refine (alongV_R _ _ V E u v _ _ NA.out.hv NA.out.he NA.out.sz).mono ?_
  rw [HAV.out]
  rintro e w51 ⟨rfl, hb⟩
  have R3' := Lib.hid (R3.out.step hb)
  clear R3
  have R3 := R3'
  clear R3'
  have BX' := Lib.hid (BX.out.below hb BX.out.lt)
  clear BX
  have BX := BX'
  clear BX'
  have NA' := Lib.hid (NA.out.step hb)
  clear NA
  have NA := NA'
  clear NA'
  clear c0 c1 m0 m1 hb
  obtain ⟨c0, c1, m0, m1⟩ := NA.out.cells
  go_upto_region 20 with fail
  obtain ⟨wy, hwy⟩ : ∃ W, W = w51.alloc (.cells #[.int .i64 ai, .int .i64 au, .int .i64 av, .int .i64 ax, .complex .f64 re im] 50) := ⟨_, rfl⟩
  have hbx : Below w51.heap.size w51 wy := by rw [hwy]; exact (Below.refl _ _).alloc (Nat.le_refl _) _
  have BY : Hid (Blk wy w51.heap.size 50 #[.int .i64 ai, .int .i64 au, .int .i64 av, .int .i64 ax, .complex .f64 re im]) := Lib.hid (by rw [hwy]; exact Blk.new _ _ _)
  rw [← hwy]
  clear hwy
  have R3' := Lib.hid (R3.out.step hbx)
  clear R3
  have R3 := R3'
  clear R3'
  have BX' := Lib.hid (BX.out.below hbx BX.out.lt)
  clear BX
  have BX := BX'
  clear BX'
  have NA' := Lib.hid (NA.out.step hbx)
  clear NA
  have NA := NA'
  clear NA'
  clear c0 c1 m0 m1 hbx
  obtain ⟨c0, c1, m0, m1⟩ := NA.out.cells
  obtain ⟨gy, hgy⟩ : ∃ g, g = w51.heap.size := ⟨_, rfl⟩
  rw [← hgy] at BY
  simp only [← hgy]
  clear hgy
  go_wp2_with fail
  refine (spaN_any _ _ V E u _ _ NA.out.mv NA.out.me NA.out.sz).mono ?_
  rw [HSV.out]
  rintro e w61 ⟨rfl, hb⟩
  have R3' := Lib.hid (R3.out.step hb)
  clear R3
  have R3 := R3'
  clear R3'
  have BX' := Lib.hid (BX.out.below hb BX.out.lt)
  clear BX
  have BX := BX'
  clear BX'
  have BY' := Lib.hid (BY.out.below hb BY.out.lt)
  clear BY
  have BY := BY'
  clear BY'
  have NA' := Lib.hid (NA.out.step hb)
  clear NA
  have NA := NA'
  clear NA'
  clear c0 c1 m0 m1 hb
  obtain ⟨c0, c1, m0, m1⟩ := NA.out.cells
  go_wp2_with fail
  refine (spaR_any _ _ V E u _ _ NA.out.hv NA.out.he NA.out.sz).mono ?_
  rw [HSV.out]
  rintro e w62 ⟨rfl, hb⟩
  have R3' := Lib.hid (R3.out.step hb)
  clear R3
  have R3 := R3'
  clear R3'
  have BX' := Lib.hid (BX.out.below hb BX.out.lt)
  clear BX
  have BX := BX'
  clear BX'
  have BY' := Lib.hid (BY.out.below hb BY.out.lt)
  clear BY
  have BY := BY'
  clear BY'
  have NA' := Lib.hid (NA.out.step hb)
  clear NA
  have NA := NA'
  clear NA'
  clear c0 c1 m0 m1 hb
  obtain ⟨c0, c1, m0, m1⟩ := NA.out.cells
  go_wp2_with fail
  refine (twice_any _ _ _ ((pth V E u v).map (·.id)) _ _ _ _ R3.out.a R3.out.b R3.out.c R3.out.ab R3.out.ac).mono ?_
  rintro e wz ⟨rfl, t3⟩
  have HPZ := Lib.hid fun g hg => (R3.out.a.lt g hg).1
  have BX' := Lib.hid (agg_grown BX.out R3.out.a t3)
  clear BX
  have BX := BX'
  clear BX'
  have BY' := Lib.hid (agg_grown BY.out R3.out.a t3)
  clear BY
  have BY := BY'
  clear BY'
  have NA' := Lib.hid (NA.out.grown t3 (fun g hg => by have h1 := HPZ.out g hg; have h2 := HWZ.out; omega))
  clear NA
  have NA := NA'
  clear NA'
  clear c0 c1 m0 m1 t3 R3 HPZ
  obtain ⟨c0, c1, m0, m1⟩ := NA.out.cells
  have x0 := BX.out.cell 0
  have x1 := BX.out.cell 1
  have x2 := BX.out.cell 2
  have x3 := BX.out.cell 3
  have x4 := BX.out.cell 4
  have y0 := BY.out.cell 0
  have y1 := BY.out.cell 1
  have y2 := BY.out.cell 2
  have y3 := BY.out.cell 3
  have y4 := BY.out.cell 4
  go_wp2_with fail
  clear x0 x1 x2 x3 x4 y0 y1 y2 y3 y4 BX BY
  refine (treN_any _ _ V E _ _ NA.out.mv NA.out.me NA.out.sz).mono ?_
  rw [← HRC.out]
  rintro e w71 ⟨ta, rfl, hta, hb⟩
  have NA' := Lib.hid (NA.out.step hb)
  clear NA
  have NA := NA'
  clear NA'
  clear c0 c1 m0 m1 hb
  obtain ⟨c0, c1, m0, m1⟩ := NA.out.cells
  obtain ⟨nt, hnt⟩ : ∃ n, n = (treV V E).length := ⟨_, rfl⟩
  have HNT := Lib.hid hnt
  obtain ⟨Ata, cta, rfl, -, -, hnl, -⟩ := hta.open_
  rw [← hnt] at hnl hta ⊢
  have HTA := Lib.hid hta
  clear hta hnt
  go_wp2_with fail
  refine (treR_any _ _ V E _ _ NA.out.hv NA.out.he NA.out.sz).mono ?_
  rw [← HRC.out]
  rintro e wT ⟨tb, rfl, htb, hb⟩
  have HTA2 := Lib.hid (HTA.out.below hb)
  have NA' := Lib.hid (NA.out.step hb)
  clear NA
  have NA := NA'
  clear NA'
  clear c0 c1 m0 m1 HTA
  obtain ⟨c0, c1, m0, m1⟩ := NA.out.cells
  obtain ⟨Atb, ctb, rfl, -, -, -, HD2⟩ := htb.open_
  obtain ⟨Ata2, cta2, hta2, -, -, -, HD1⟩ := HTA2.out.open_
  rw [← HNT.out] at hta2 ⊢
  injection hta2 with q1 _ q2
  subst q1 q2
  clear htb hb HTA2
  have e10 : ((nt : Int) != (nt : Int)) = false := by simp
  go_wp2_with fail
  go_loopw [235] (fun i wr => ∃ (k q : Nat), k ≤ nt ∧ i = .int .i64 k ∧ wr = wT.drewN q) (fun i _ => nt - (intOf i).toNat)
  case atStart => exact ⟨0, 0, Nat.zero_le _, rfl, rfl⟩
  case round =>
    obtain ⟨k, q, hk, rfl, rfl⟩ := hrel
    by_cases hkn : k < nt
    · have hkd : (k : Int) < (nt : Int) := by omega
      obtain ⟨b1, o1, s1, r1, hb1, z1, hr1⟩ := HD1.out k (by have := HNT.out; omega)
      obtain ⟨b2, o2, s2, r2, hb2, z2, hr2⟩ := HD2.out k (by have := HNT.out; omega)
      subst r1 r2
      obtain ⟨wr, hwr⟩ : ∃ W, W = wT.drewN q := ⟨_, rfl⟩
      have z1 : (wT.drewN q).cell? ⟨b1, o1 + k, none⟩ = some s1 := z1
      have z2 : (wT.drewN q).cell? ⟨b2, o2 + k, none⟩ = some s2 := z2
      have HR1 : Hid (RI (wT.drewN q) _ s1 _) := Lib.hid (hr1.drewN q)
      have HR2 : Hid (RI (wT.drewN q) _ s2 _) := Lib.hid (hr2.drewN q)
      rw [← hwr] at z1 z2 HR1 HR2 ⊢
      have HWr := Lib.hid hwr
      clear hwr hr1 hr2 c0 c1 m0 m1
      go_wp2_with fail
      go_quiet ((go_at_call 27; exact Calls.quiet_of (SameInts_yes _ _ _ _ _ _ (HR1.out.drewN _) (HR2.out.drewN _))))
      go_wp2_with fail
      go_roundw
      case rel => exact ⟨k + 1, _, by omega, by go_num, by rw [HWr.out, World.drewN_drewN]⟩
      case measure => simp [intOf]; omega
    · obtain rfl : k = nt := by omega
      have hkd : decide ((k : Int) < (k : Int)) = false := by simp
      have NA2 := Lib.hid (NA.out.step (below_drewN (Below.refl _ wT) q))
      clear c0 c1 m0 m1
      obtain ⟨c0, c1, m0, m1⟩ := NA2.out.cells
      go_wp2_with fail
      refine (SameNet_yes _ _ _ _ V E _ _ NA2.out.mv NA2.out.me NA2.out.hv NA2.out.he NA2.out.sz).mono ?_
      rintro e w9 ⟨rfl, hb⟩
      have HBF : Hid (Below w.heap.size w w9) := Lib.hid ((HB3.out.1.trans (NA2.out.low.mono HB3.out.2)).trans (hb.mono (by have := NA2.out.sz; have := HB3.out.2; omega)))
      clear hb
      go_wp2_with fail
      go_ret
      exact ⟨rfl, HBF.out⟩

theorem plainNets_walk (sv se : Value) (V : List Int) (E : List Ed) (u v : Int) (w : World) (hv : RI w w.heap.size sv V) (he : RE w w.heap.size se E) (hu : (Lit.int .i64 u).wf = true) (hv' : (Lit.int .i64 v).wf = true) :
    Calls Tryz.prog 3 #[netV sv se, .int .i64 u, .int .i64 v] w fun e w' => e = .returned (.bool true) ∧ Below w.heap.size w w' := by
  by_cases h : 300 < V.length ∨ 300 < E.length
  · exact plainNets_many sv se V E u v w hv he h
  · exact plainNets_few sv se V E u v w hv he (by omega) (by omega)

end Go.Proofs.YtghacfhpafbdmaaGreat
