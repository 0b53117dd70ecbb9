/-
  The walk of LinkcutBack.
-/
import Derived.Test.YtlhkajlkapoabaaZLM6
namespace Go.Proofs.Ytlhkajlkapoabaa
open Go.RowKit Go.Maps
set_option linter.unusedVariables false

attribute [local go_sem] run_storeCz

theorem ScrL.below {w w' : World} {v : Value} {os : List OpL} (h : ScrL w v os) (hb : Below w.heap.size w w') : ScrL w' v os := ⟨(h.rk.below hb).more hb.size, h.at_⟩

theorem run_eqAg (i u v x : Int) {a b : Nat} (ha : a < 2 ^ 53) (hb : b < 2 ^ 53) (w : World) : (binOp .eql 48 (.agg #[.int .i64 i, .int .i64 u, .int .i64 v, .int .i64 x, .complex .f64 (fl a) (fl b)]) (.agg #[.int .i64 i, .int .i64 u, .int .i64 v, .int .i64 x, .complex .f64 (fl a) (fl b)])).run Try.prog w = .ok (.bool true) w := by
  have h1 := fun (W : World) (d : Nat) => run_eqEg W d i u v x i u v x
  have h2 := fun (W : World) (d : Nat) => run_eqC W d ha hb
  simp only [beq_self_eq_true, Bool.and_self] at h1
  have h3 : (Op.equal 48 (.agg #[.int .i64 i, .int .i64 u, .int .i64 v, .int .i64 x, .complex .f64 (fl a) (fl b)]) (.agg #[.int .i64 i, .int .i64 u, .int .i64 v, .int .i64 x, .complex .f64 (fl a) (fl b)])).run Try.prog w = .ok true w := by
    unfold Op.equal
    show (Op.equalIn (9997 + 3) _ _ _).run _ _ = _
    rw [Op.equalIn]
    simp only [run_underlying Try.underlying48, Sem.run_bind, Result.andThen_ok]
    simp [go_sem, h1, h2]
  simp [binOp, h3]

theorem run_addC {a b c d : Nat} (h1 : a + c < 2 ^ 53) (h2 : b + d < 2 ^ 53) (w : World) : (binOp .add 46 (.complex .f64 (fl a) (fl b)) (.complex .f64 (fl c) (fl d))).run Try.prog w = .ok (.complex .f64 (fl (a + c)) (fl (b + d))) w :=
  run_complex_sum w .add (.inl rfl) _ _ _ _ _ _ _ _ (by unfold cSumBits; rw [fl_add h1, fl_add h2]; rfl)

theorem run_addC1 {a b c : Nat} (h1 : a + c < 2 ^ 53) (h2 : b + 1 < 2 ^ 53) (w : World) : (binOp .add 46 (.complex .f64 (fl a) (fl b)) (.complex .f64 (floatOfInt .f64 (c : Int)) 4607182418800017408)).run Try.prog w = .ok (.complex .f64 (fl (a + c)) (fl (b + 1))) w := by
  have := run_addC (a := a) (b := b) (c := c) (d := 1) h1 h2 w
  rw [fl_one'] at this
  exact this

/-- Link, where it went well. -/
theorem linkA_more {F : LF} {id u v : Int} {n : Nat} (h : F.linkE id u v (n : Int) = 0) : F.linkA id u v (n : Int) = F.more ⟨id, u, v, n⟩ ∧ Fresh F ⟨id, u, v, n⟩ := by
  obtain ⟨h1, h2, h3, h4, h5, h6, h7, h8, h9⟩ := linkE_ok h
  refine ⟨?_, ⟨h6, h7, h8, h9⟩⟩
  unfold LF.linkA
  rw [if_pos h]
  rfl

theorem more_cut {F : LF} {e : Eg} (h1 : 1 ≤ e.id ∧ e.id ≤ 2147483647) (h : e.id ∉ F.es.map Eg.id) : (F.more e).cutE e.id = 0 ∧ (F.more e).cutA e.id = F := by
  have hz : (F.more e).cutE e.id = 0 := by
    unfold LF.cutE
    rw [if_pos (show okId e.id from h1), if_pos (show e.id ∈ (F.more e).es.map Eg.id from List.mem_map.2 ⟨e, List.mem_append_right _ (List.mem_singleton.2 rfl), rfl⟩)]
  refine ⟨hz, ?_⟩
  unfold LF.cutA
  rw [if_pos hz, more_less h]

set_option maxRecDepth 100000 in
set_option maxHeartbeats 8000000 in
theorem linkcutBack_walk (w : World) (sv : Value) (os : List OpL) (id eu ev wt u v : Int) (hs : ScrL w sv os) (hi : I64 id) (heu : I64 eu) (hev : I64 ev) (hwt : I64 wt) (hu : I64 u) (hv : I64 v) :
    Calls Try.prog 5 #[sv, .agg #[.int .i64 id, .int .i64 eu, .int .i64 ev, .int .i64 wt], .int .i64 u, .int .i64 v] w fun e w' => e = .returned (.bool true) ∧ Below w.heap.size w w' := by
  obtain ⟨wb, hwb⟩ : ∃ W, W = w.alloc (.cells #[.int .i64 id, .int .i64 eu, .int .i64 ev, .int .i64 wt] 33) := ⟨_, rfl⟩
  obtain ⟨pE, hpE⟩ : ∃ p, p = w.heap.size := ⟨_, rfl⟩
  have hbb : Below w.heap.size w wb := by rw [hwb]; exact (Below.refl _ _).alloc (Nat.le_refl _) _
  have KE0 : Hid (Blk wb pE 33 #[.int .i64 id, .int .i64 eu, .int .i64 ev, .int .i64 wt]) := Lib.hid (by rw [hwb, hpE]; exact Blk.new _ _ _)
  have HWB := Lib.hid hwb
  have HPE := Lib.hid hpE
  have TB := Lib.hid hbb
  have hf := filled_any wb sv os (hs.below hbb)
  obtain ⟨A, c, rfl, -, -, -, -⟩ := hs.rk.open_
  obtain ⟨n, hn⟩ : ∃ n, n = os.length := ⟨_, rfl⟩
  rw [← hn] at hf ⊢
  have HFL := Lib.hid hf
  have HI := Lib.hid hi
  have HEU := Lib.hid heu
  have HEV := Lib.hid hev
  have HWT := Lib.hid hwt
  have HU := Lib.hid hu
  have HV := Lib.hid hv
  clear hs hn hf hi heu hev hwt hu hv hwb hpE hbb
  go_enter Try.func5, Try.ntmps5
  go_wp2_with fail
  rw [← HWB.out]
  try simp only [← HPE.out]
  refine HFL.out.mono ?_
  rintro e w1 ⟨f, rfl, h1, b1⟩
  obtain ⟨F, hF⟩ : ∃ F, F = LF.none0.runsL os := ⟨_, rfl⟩
  rw [← hF] at h1
  have hok := h1.ok
  obtain ⟨m0, s0, k0, -, es0, ek0, ls0, lk0, ev0⟩ := hok.along_open u v
  obtain ⟨ma, sa, ka, -, esa, eka, lsa, lka, eva⟩ := hok.along_open u eu
  obtain ⟨mb, sb, kb, -, esb, ekb, lsb, lkb, evb⟩ := hok.along_open ev v
  obtain ⟨g0, hg0⟩ : ∃ g, g = F.alongX u v := ⟨_, rfl⟩
  obtain ⟨ga, hga⟩ : ∃ g, g = F.alongX u eu := ⟨_, rfl⟩
  obtain ⟨gb, hgb⟩ : ∃ g, g = F.alongX ev v := ⟨_, rfl⟩
  have E0 := Lib.hid ev0
  have EA := Lib.hid eva
  have EB := Lib.hid evb
  have G0 := Lib.hid hg0
  have GA := Lib.hid hga
  have GB := Lib.hid hgb
  have SA := Lib.hid (And.intro esa eka)
  have SB := Lib.hid (And.intro esb ekb)
  have HOK := Lib.hid hok
  have H1 : Hid (LB w.heap.size noQ w1 f F) := Lib.hid (h1.weak TB.out.size (fun _ h => h))
  have T1 : Hid (Below w.heap.size w w1) := Lib.hid (TB.out.trans (b1.mono TB.out.size))
  have KE1 := Lib.hid (KE0.out.below b1 KE0.out.lt)
  have heq := run_eqAg m0.id m0.u m0.v (m0.w : Int) (a := s0) (b := k0) (by omega) (by omega)
  have hne := run_neAg m0.id m0.u m0.v (m0.w : Int) (a := s0) (b := k0) (by omega) (by omega)
  have had := run_addC (a := sa) (b := ka) (c := sb) (d := kb) (by omega) (by omega)
  obtain ⟨nV, hnV⟩ : ∃ n : Nat, n = F.vs.length := ⟨_, rfl⟩
  obtain ⟨nE, hnE⟩ : ∃ n : Nat, n = F.es.length := ⟨_, rfl⟩
  have HNV := Lib.hid hnV
  have HNE := Lib.hid hnE
  clear h1 b1 hok ev0 eva evb hg0 hga hgb es0 ek0 esa eka esb ekb hnV hnE KE0 hF
  go_wp2_with fail
  refine ((alive_any w1)).mono ?_
  rintro e w2 ⟨rfl, b2⟩
  have H2 := Lib.hid (H1.out.below b2)
  have T2 := Lib.hid (T1.out.trans (b2.mono T1.out.size))
  have KE2 := Lib.hid (KE1.out.below b2 KE1.out.lt)
  clear b2
  go_wp2_with fail
  refine (bAlong _ noQ w2 f F H2.out T2.out.size u v HU.out HV.out).mono ?_
  rw [E0.out, ← G0.out]
  rintro e w3 ⟨rfl, h3, t3⟩
  have H3 := Lib.hid h3
  have T3 := Lib.hid (T2.out.trans t3.below)
  have KE3 := Lib.hid (t3.blk KE2.out notL_E)
  clear h3 t3
  obtain ⟨pA, hp⟩ : ∃ p, p = w3.heap.size := ⟨_, rfl⟩
  obtain ⟨w4, hw⟩ : ∃ W, W = w3.alloc (.cells #[.int .i64 m0.id, .int .i64 m0.u, .int .i64 m0.v, .int .i64 (m0.w : Int), .complex .f64 (fl s0) (fl k0)] 48) := ⟨_, rfl⟩
  have hb : Below w3.heap.size w3 w4 := by rw [hw]; exact (Below.refl _ _).alloc (Nat.le_refl _) _
  have KA4 : Hid (Blk w4 pA 48 #[.int .i64 m0.id, .int .i64 m0.u, .int .i64 m0.v, .int .i64 (m0.w : Int), .complex .f64 (fl s0) (fl k0)]) := Lib.hid (by rw [hw, hp]; exact Blk.new _ _ _)
  have H4 := Lib.hid (H3.out.below hb)
  have T4 := Lib.hid (T3.out.trans (hb.mono T3.out.size))
  have KE4 := Lib.hid (KE3.out.below hb KE3.out.lt)
  have HPA := Lib.hid hp
  have HWA := Lib.hid hw
  clear hp hw hb
  have e0 := KE4.out.cell 0
  have e1 := KE4.out.cell 1
  have e2 := KE4.out.cell 2
  have e3 := KE4.out.cell 3
  go_upto_region 5 with fail
  rw [← HWA.out]
  try simp only [← HPA.out]
  go_wp2_with fail
  clear e0 e1 e2 e3
  refine (bAlong _ noQ w4 f F H4.out T4.out.size u eu HU.out HEU.out).mono ?_
  rw [EA.out, ← GA.out]
  rintro e w5 ⟨rfl, h5, t5⟩
  have H5 := Lib.hid h5
  have T5 := Lib.hid (T4.out.trans t5.below)
  have KE5 := Lib.hid (t5.blk KE4.out notL_E)
  have KA5 := Lib.hid (t5.blk KA4.out notL_A)
  clear h5 t5
  obtain ⟨pB, hp⟩ : ∃ p, p = w5.heap.size := ⟨_, rfl⟩
  obtain ⟨w6, hw⟩ : ∃ W, W = w5.alloc (.cells #[.int .i64 ma.id, .int .i64 ma.u, .int .i64 ma.v, .int .i64 (ma.w : Int), .complex .f64 (fl sa) (fl ka)] 48) := ⟨_, rfl⟩
  have hb : Below w5.heap.size w5 w6 := by rw [hw]; exact (Below.refl _ _).alloc (Nat.le_refl _) _
  have KB6 : Hid (Blk w6 pB 48 #[.int .i64 ma.id, .int .i64 ma.u, .int .i64 ma.v, .int .i64 (ma.w : Int), .complex .f64 (fl sa) (fl ka)]) := Lib.hid (by rw [hw, hp]; exact Blk.new _ _ _)
  have H6 := Lib.hid (H5.out.below hb)
  have T6 := Lib.hid (T5.out.trans (hb.mono T5.out.size))
  have KE6 := Lib.hid (KE5.out.below hb KE5.out.lt)
  have KA6 := Lib.hid (KA5.out.below hb KA5.out.lt)
  have HPB := Lib.hid hp
  have HWB := Lib.hid hw
  clear hp hw hb
  have e0 := KE6.out.cell 0
  have e1 := KE6.out.cell 1
  have e2 := KE6.out.cell 2
  have e3 := KE6.out.cell 3
  go_upto_region 6 with fail
  rw [← HWB.out]
  try simp only [← HPB.out]
  go_wp2_with fail
  clear e0 e1 e2 e3
  refine (bAlong _ noQ w6 f F H6.out T6.out.size ev v HEV.out HV.out).mono ?_
  rw [EB.out, ← GB.out]
  rintro e w7 ⟨rfl, h7, t7⟩
  have H7 := Lib.hid h7
  have T7 := Lib.hid (T6.out.trans t7.below)
  have KE7 := Lib.hid (t7.blk KE6.out notL_E)
  have KA7 := Lib.hid (t7.blk KA6.out notL_A)
  have KB7 := Lib.hid (t7.blk KB6.out notL_A)
  clear h7 t7
  obtain ⟨pC, hp⟩ : ∃ p, p = w7.heap.size := ⟨_, rfl⟩
  obtain ⟨w8, hw⟩ : ∃ W, W = w7.alloc (.cells #[.int .i64 mb.id, .int .i64 mb.u, .int .i64 mb.v, .int .i64 (mb.w : Int), .complex .f64 (fl sb) (fl kb)] 48) := ⟨_, rfl⟩
  have hb : Below w7.heap.size w7 w8 := by rw [hw]; exact (Below.refl _ _).alloc (Nat.le_refl _) _
  have KC8 : Hid (Blk w8 pC 48 #[.int .i64 mb.id, .int .i64 mb.u, .int .i64 mb.v, .int .i64 (mb.w : Int), .complex .f64 (fl sb) (fl kb)]) := Lib.hid (by rw [hw, hp]; exact Blk.new _ _ _)
  have H8 := Lib.hid (H7.out.below hb)
  have T8 := Lib.hid (T7.out.trans (hb.mono T7.out.size))
  have KE8 := Lib.hid (KE7.out.below hb KE7.out.lt)
  have KA8 := Lib.hid (KA7.out.below hb KA7.out.lt)
  have KB8 := Lib.hid (KB7.out.below hb KB7.out.lt)
  have HPC := Lib.hid hp
  have HWC := Lib.hid hw
  clear hp hw hb
  go_wp2_with fail
  rw [← HWC.out]
  try simp only [← HPC.out]
  refine (bLen _ noQ w8 f F H8.out).mono ?_
  rw [← HNV.out, ← HNE.out]
  rintro e w9 ⟨rfl, b9⟩
  have H9 := Lib.hid (H8.out.below b9)
  have T9 := Lib.hid (T8.out.trans (b9.mono T8.out.size))
  have KE9 := Lib.hid (KE8.out.below b9 KE8.out.lt)
  have KA9 := Lib.hid (KA8.out.below b9 KA8.out.lt)
  have KB9 := Lib.hid (KB8.out.below b9 KB8.out.lt)
  have KC9 := Lib.hid (KC8.out.below b9 KC8.out.lt)
  clear b9
  have e0 := KE9.out.cell 0
  have e1 := KE9.out.cell 1
  have e2 := KE9.out.cell 2
  have e3 := KE9.out.cell 3
  go_wp2_with fail
  clear e0 e1 e2 e3
  by_cases hz : F.linkE id eu ev wt = 0
  · obtain ⟨wn, hwn⟩ : ∃ n : Nat, wt = (n : Int) := ⟨wt.toNat, by have := (linkE_ok hz).2.2.2.1; omega⟩
    subst hwn
    obtain ⟨hA, hfr⟩ := linkA_more hz
    have hwn : wn ≤ 1099511627776 := by have := (linkE_ok hz).2.2.2.2.1; omega
    have had1 := run_addC1 (a := sa + sb) (b := ka + kb) (c := wn) (by omega) (by omega)
    have hneC := run_neC (a := sa + sb + wn) (b := ka + kb + 1) (by omega) (by omega)
    obtain ⟨hcE, hcA⟩ := more_cut (F := F) (e := ⟨id, eu, ev, wn⟩) (linkE_ok hz).1 hfr.id
    have HZ := Lib.hid hz
    have HAA := Lib.hid hA
    have HFR := Lib.hid hfr
    have HCE := Lib.hid hcE
    have HCA := Lib.hid hcA
    clear hz hA hfr hcE hcA
    refine (bLink _ noQ w9 f F H9.out T9.out.size id eu ev (wn : Int) HI.out HEU.out HEV.out HWT.out).mono ?_
    rw [HAA.out, HZ.out]
    rintro e w10 ⟨rfl, h10, t10⟩
    have H10 := Lib.hid h10
    have T10 := Lib.hid (T9.out.trans t10.below)
    have KE10 := Lib.hid (t10.blk KE9.out notL_E)
    have KA10 := Lib.hid (t10.blk KA9.out notL_A)
    have KB10 := Lib.hid (t10.blk KB9.out notL_A)
    have KC10 := Lib.hid (t10.blk KC9.out notL_A)
    clear h10 t10
    have HOK2 := Lib.hid H10.out.ok
    obtain ⟨m1, s1, k1, -, es1, ek1, ls1, lk1, ev1⟩ := HOK2.out.along_open u v
    obtain ⟨g1, hg1⟩ : ∃ g, g = (F.more ⟨id, eu, ev, wn⟩).alongX u v := ⟨_, rfl⟩
    have E1 := Lib.hid ev1
    have G1 := Lib.hid hg1
    have SS := Lib.hid (And.intro es1 ek1)
    clear ev1 hg1 es1 ek1
    go_wp2_with fail
    by_cases hg0 : g0 = 0
    · subst hg0
      obtain ⟨q1, q2⟩ := HFR.out.along_old (LF.alongX_iff.1 G0.out.symm)
      rw [E0.out] at q2
      rw [← G0.out] at q1
      have Q1 := Lib.hid q1
      have Q2 := Lib.hid q2
      have hno : ¬ (ga = 0 ∧ gb = 0) := fun hh => by
        have j1 := LF.alongX_iff.1 (GA.out.symm.trans hh.1)
        have j2 := LF.alongX_iff.1 (GB.out.symm.trans hh.2)
        have j0 := LF.alongX_iff.1 G0.out.symm
        exact HFR.out.no (j1.2.2.symm.trans (j0.2.2.trans j2.2.2.symm))
      clear q1 q2
      refine (bAlong _ noQ w10 f (F.more ⟨id, eu, ev, wn⟩) H10.out T10.out.size u v HU.out HV.out).mono ?_
      rw [Q1.out, Q2.out]
      rintro e w11 ⟨rfl, h11, t11⟩
      have H11 := Lib.hid h11
      have T11 := Lib.hid (T10.out.trans t11.below)
      have KE11 := Lib.hid (t11.blk KE10.out notL_E)
      have KA11 := Lib.hid (t11.blk KA10.out notL_A)
      have KB11 := Lib.hid (t11.blk KB10.out notL_A)
      have KC11 := Lib.hid (t11.blk KC10.out notL_A)
      clear h11 t11
      obtain ⟨pD, hp⟩ : ∃ p, p = w11.heap.size := ⟨_, rfl⟩
      obtain ⟨w12, hw⟩ : ∃ W, W = w11.alloc (.cells #[.int .i64 m0.id, .int .i64 m0.u, .int .i64 m0.v, .int .i64 (m0.w : Int), .complex .f64 (fl s0) (fl k0)] 48) := ⟨_, rfl⟩
      have hb : Below w11.heap.size w11 w12 := by rw [hw]; exact (Below.refl _ _).alloc (Nat.le_refl _) _
      have KD12 : Hid (Blk w12 pD 48 #[.int .i64 m0.id, .int .i64 m0.u, .int .i64 m0.v, .int .i64 (m0.w : Int), .complex .f64 (fl s0) (fl k0)]) := Lib.hid (by rw [hw, hp]; exact Blk.new _ _ _)
      have H12 := Lib.hid (H11.out.below hb)
      have T12 := Lib.hid (T11.out.trans (hb.mono T11.out.size))
      have KE12 := Lib.hid (KE11.out.below hb KE11.out.lt)
      have KA12 := Lib.hid (KA11.out.below hb KA11.out.lt)
      have KB12 := Lib.hid (KB11.out.below hb KB11.out.lt)
      have KC12 := Lib.hid (KC11.out.below hb KC11.out.lt)
      have HPD := Lib.hid hp
      have HWD := Lib.hid hw
      clear hp hw hb
      have a0 := KA12.out.cell 0
      have a1 := KA12.out.cell 1
      have a2 := KA12.out.cell 2
      have a3 := KA12.out.cell 3
      have a4 := KA12.out.cell 4
      have d0 := KD12.out.cell 0
      have d1 := KD12.out.cell 1
      have d2 := KD12.out.cell 2
      have d3 := KD12.out.cell 3
      have d4 := KD12.out.cell 4
      have e0 := KE12.out.cell 0
      have e1 := KE12.out.cell 1
      have e2 := KE12.out.cell 2
      have e3 := KE12.out.cell 3
      go_upto_region 12 with fail
      rw [← HWD.out]
      try simp only [← HPD.out]
      by_cases ha : ga = 0
      · have hb : ¬ gb = 0 := fun hb => hno ⟨ha, hb⟩
        subst ha
        clear hno
        have hbb : (gb == 0) = false := by simpa using hb
        go_wp2_with fail
        clear a0 a1 a2 a3 a4 d0 d1 d2 d3 d4 e0 e1 e2 e3
        refine (bCut _ noQ w12 f (F.more ⟨id, eu, ev, wn⟩) H12.out T12.out.size id HI.out).mono ?_
        rw [HCE.out, HCA.out]
        rintro e w13 ⟨rfl, h13, t13⟩
        have H13 := Lib.hid h13
        have T13 := Lib.hid (T12.out.trans t13.below)
        have KE13 := Lib.hid (t13.blk KE12.out notL_E)
        have KA13 := Lib.hid (t13.blk KA12.out notL_A)
        have KB13 := Lib.hid (t13.blk KB12.out notL_A)
        have KC13 := Lib.hid (t13.blk KC12.out notL_A)
        have KD13 := Lib.hid (t13.blk KD12.out notL_A)
        clear h13 t13
        go_wp2_with fail
        refine (bAlong _ noQ w13 f F H13.out T13.out.size u v HU.out HV.out).mono ?_
        rw [E0.out, ← G0.out]
        rintro e w14 ⟨rfl, h14, t14⟩
        have H14 := Lib.hid h14
        have T14 := Lib.hid (T13.out.trans t14.below)
        have KE14 := Lib.hid (t14.blk KE13.out notL_E)
        have KA14 := Lib.hid (t14.blk KA13.out notL_A)
        have KB14 := Lib.hid (t14.blk KB13.out notL_A)
        have KC14 := Lib.hid (t14.blk KC13.out notL_A)
        have KD14 := Lib.hid (t14.blk KD13.out notL_A)
        clear h14 t14
        obtain ⟨pZ, hp⟩ : ∃ p, p = w14.heap.size := ⟨_, rfl⟩
        obtain ⟨w15, hw⟩ : ∃ W, W = w14.alloc (.cells #[.int .i64 m0.id, .int .i64 m0.u, .int .i64 m0.v, .int .i64 (m0.w : Int), .complex .f64 (fl s0) (fl k0)] 48) := ⟨_, rfl⟩
        have hb : Below w14.heap.size w14 w15 := by rw [hw]; exact (Below.refl _ _).alloc (Nat.le_refl _) _
        have KZ15 : Hid (Blk w15 pZ 48 #[.int .i64 m0.id, .int .i64 m0.u, .int .i64 m0.v, .int .i64 (m0.w : Int), .complex .f64 (fl s0) (fl k0)]) := Lib.hid (by rw [hw, hp]; exact Blk.new _ _ _)
        have H15 := Lib.hid (H14.out.below hb)
        have T15 := Lib.hid (T14.out.trans (hb.mono T14.out.size))
        have KE15 := Lib.hid (KE14.out.below hb KE14.out.lt)
        have KA15 := Lib.hid (KA14.out.below hb KA14.out.lt)
        have KB15 := Lib.hid (KB14.out.below hb KB14.out.lt)
        have KC15 := Lib.hid (KC14.out.below hb KC14.out.lt)
        have KD15 := Lib.hid (KD14.out.below hb KD14.out.lt)
        have HPZ := Lib.hid hp
        have HWZ := Lib.hid hw
        clear hp hw hb
        go_wp2_with fail
        rw [← HWZ.out]
        try simp only [← HPZ.out]
        refine (bLen _ noQ w15 f F H15.out).mono ?_
        rw [← HNV.out, ← HNE.out]
        rintro e w16 ⟨rfl, b16⟩
        have H16 := Lib.hid (H15.out.below b16)
        have T16 := Lib.hid (T15.out.trans (b16.mono T15.out.size))
        have KE16 := Lib.hid (KE15.out.below b16 KE15.out.lt)
        have KA16 := Lib.hid (KA15.out.below b16 KA15.out.lt)
        have KB16 := Lib.hid (KB15.out.below b16 KB15.out.lt)
        have KC16 := Lib.hid (KC15.out.below b16 KC15.out.lt)
        have KD16 := Lib.hid (KD15.out.below b16 KD15.out.lt)
        have KZ16 := Lib.hid (KZ15.out.below b16 KZ15.out.lt)
        clear b16
        have x0 := KA16.out.cell 0
        have x1 := KA16.out.cell 1
        have x2 := KA16.out.cell 2
        have x3 := KA16.out.cell 3
        have x4 := KA16.out.cell 4
        have z0 := KZ16.out.cell 0
        have z1 := KZ16.out.cell 1
        have z2 := KZ16.out.cell 2
        have z3 := KZ16.out.cell 3
        have z4 := KZ16.out.cell 4
        go_wp2_with fail
        go_ret
        exact ⟨rfl, T16.out⟩
      · clear hno
        have hba : (ga == 0) = false := by simpa using ha
        go_wp2_with fail
        clear a0 a1 a2 a3 a4 d0 d1 d2 d3 d4 e0 e1 e2 e3
        refine (bCut _ noQ w12 f (F.more ⟨id, eu, ev, wn⟩) H12.out T12.out.size id HI.out).mono ?_
        rw [HCE.out, HCA.out]
        rintro e w13 ⟨rfl, h13, t13⟩
        have H13 := Lib.hid h13
        have T13 := Lib.hid (T12.out.trans t13.below)
        have KE13 := Lib.hid (t13.blk KE12.out notL_E)
        have KA13 := Lib.hid (t13.blk KA12.out notL_A)
        have KB13 := Lib.hid (t13.blk KB12.out notL_A)
        have KC13 := Lib.hid (t13.blk KC12.out notL_A)
        have KD13 := Lib.hid (t13.blk KD12.out notL_A)
        clear h13 t13
        go_wp2_with fail
        refine (bAlong _ noQ w13 f F H13.out T13.out.size u v HU.out HV.out).mono ?_
        rw [E0.out, ← G0.out]
        rintro e w14 ⟨rfl, h14, t14⟩
        have H14 := Lib.hid h14
        have T14 := Lib.hid (T13.out.trans t14.below)
        have KE14 := Lib.hid (t14.blk KE13.out notL_E)
        have KA14 := Lib.hid (t14.blk KA13.out notL_A)
        have KB14 := Lib.hid (t14.blk KB13.out notL_A)
        have KC14 := Lib.hid (t14.blk KC13.out notL_A)
        have KD14 := Lib.hid (t14.blk KD13.out notL_A)
        clear h14 t14
        obtain ⟨pZ, hp⟩ : ∃ p, p = w14.heap.size := ⟨_, rfl⟩
        obtain ⟨w15, hw⟩ : ∃ W, W = w14.alloc (.cells #[.int .i64 m0.id, .int .i64 m0.u, .int .i64 m0.v, .int .i64 (m0.w : Int), .complex .f64 (fl s0) (fl k0)] 48) := ⟨_, rfl⟩
        have hb : Below w14.heap.size w14 w15 := by rw [hw]; exact (Below.refl _ _).alloc (Nat.le_refl _) _
        have KZ15 : Hid (Blk w15 pZ 48 #[.int .i64 m0.id, .int .i64 m0.u, .int .i64 m0.v, .int .i64 (m0.w : Int), .complex .f64 (fl s0) (fl k0)]) := Lib.hid (by rw [hw, hp]; exact Blk.new _ _ _)
        have H15 := Lib.hid (H14.out.below hb)
        have T15 := Lib.hid (T14.out.trans (hb.mono T14.out.size))
        have KE15 := Lib.hid (KE14.out.below hb KE14.out.lt)
        have KA15 := Lib.hid (KA14.out.below hb KA14.out.lt)
        have KB15 := Lib.hid (KB14.out.below hb KB14.out.lt)
        have KC15 := Lib.hid (KC14.out.below hb KC14.out.lt)
        have KD15 := Lib.hid (KD14.out.below hb KD14.out.lt)
        have HPZ := Lib.hid hp
        have HWZ := Lib.hid hw
        clear hp hw hb
        go_wp2_with fail
        rw [← HWZ.out]
        try simp only [← HPZ.out]
        refine (bLen _ noQ w15 f F H15.out).mono ?_
        rw [← HNV.out, ← HNE.out]
        rintro e w16 ⟨rfl, b16⟩
        have H16 := Lib.hid (H15.out.below b16)
        have T16 := Lib.hid (T15.out.trans (b16.mono T15.out.size))
        have KE16 := Lib.hid (KE15.out.below b16 KE15.out.lt)
        have KA16 := Lib.hid (KA15.out.below b16 KA15.out.lt)
        have KB16 := Lib.hid (KB15.out.below b16 KB15.out.lt)
        have KC16 := Lib.hid (KC15.out.below b16 KC15.out.lt)
        have KD16 := Lib.hid (KD15.out.below b16 KD15.out.lt)
        have KZ16 := Lib.hid (KZ15.out.below b16 KZ15.out.lt)
        clear b16
        have x0 := KA16.out.cell 0
        have x1 := KA16.out.cell 1
        have x2 := KA16.out.cell 2
        have x3 := KA16.out.cell 3
        have x4 := KA16.out.cell 4
        have z0 := KZ16.out.cell 0
        have z1 := KZ16.out.cell 1
        have z2 := KZ16.out.cell 2
        have z3 := KZ16.out.cell 3
        have z4 := KZ16.out.cell 4
        go_wp2_with fail
        go_ret
        exact ⟨rfl, T16.out⟩
    · have hb0 : (g0 == 0) = false := by simpa using hg0
      by_cases ha : ga = 0
      · by_cases hb : gb = 0
        · subst ha hb
          obtain ⟨t1, t2, t3⟩ := HFR.out.path_new HOK.out HOK2.out (LF.alongX_iff.1 GA.out.symm) (LF.alongX_iff.1 GB.out.symm)
          have e1 : g1 = 0 := G1.out.trans (LF.alongX_iff.2 t1)
          have e2 : s1 = sa + sb + wn := by rw [SS.out.1, t2, SA.out.1, SB.out.1]
          have e3 : k1 = ka + kb + 1 := by rw [SS.out.2, t3, SA.out.2, SB.out.2]
          subst e1 e2 e3
          clear t1 t2 t3
          refine (bAlong _ noQ w10 f (F.more ⟨id, eu, ev, wn⟩) H10.out T10.out.size u v HU.out HV.out).mono ?_
          rw [E1.out, ← G1.out]
          rintro e w11 ⟨rfl, h11, t11⟩
          have H11 := Lib.hid h11
          have T11 := Lib.hid (T10.out.trans t11.below)
          have KE11 := Lib.hid (t11.blk KE10.out notL_E)
          have KA11 := Lib.hid (t11.blk KA10.out notL_A)
          have KB11 := Lib.hid (t11.blk KB10.out notL_A)
          have KC11 := Lib.hid (t11.blk KC10.out notL_A)
          clear h11 t11
          obtain ⟨pD, hp⟩ : ∃ p, p = w11.heap.size := ⟨_, rfl⟩
          obtain ⟨w12, hw⟩ : ∃ W, W = w11.alloc (.cells #[.int .i64 m1.id, .int .i64 m1.u, .int .i64 m1.v, .int .i64 (m1.w : Int), .complex .f64 (fl (sa + sb + wn)) (fl (ka + kb + 1))] 48) := ⟨_, rfl⟩
          have hb : Below w11.heap.size w11 w12 := by rw [hw]; exact (Below.refl _ _).alloc (Nat.le_refl _) _
          have KD12 : Hid (Blk w12 pD 48 #[.int .i64 m1.id, .int .i64 m1.u, .int .i64 m1.v, .int .i64 (m1.w : Int), .complex .f64 (fl (sa + sb + wn)) (fl (ka + kb + 1))]) := Lib.hid (by rw [hw, hp]; exact Blk.new _ _ _)
          have H12 := Lib.hid (H11.out.below hb)
          have T12 := Lib.hid (T11.out.trans (hb.mono T11.out.size))
          have KE12 := Lib.hid (KE11.out.below hb KE11.out.lt)
          have KA12 := Lib.hid (KA11.out.below hb KA11.out.lt)
          have KB12 := Lib.hid (KB11.out.below hb KB11.out.lt)
          have KC12 := Lib.hid (KC11.out.below hb KC11.out.lt)
          have HPD := Lib.hid hp
          have HWD := Lib.hid hw
          clear hp hw hb
          have a0 := KB12.out.cell 0
          have a1 := KB12.out.cell 1
          have a2 := KB12.out.cell 2
          have a3 := KB12.out.cell 3
          have a4 := KB12.out.cell 4
          have b0 := KC12.out.cell 0
          have b1 := KC12.out.cell 1
          have b2 := KC12.out.cell 2
          have b3 := KC12.out.cell 3
          have b4 := KC12.out.cell 4
          have d0 := KD12.out.cell 0
          have d1 := KD12.out.cell 1
          have d2 := KD12.out.cell 2
          have d3 := KD12.out.cell 3
          have d4 := KD12.out.cell 4
          have e0 := KE12.out.cell 0
          have e1 := KE12.out.cell 1
          have e2 := KE12.out.cell 2
          have e3 := KE12.out.cell 3
          go_upto_region 12 with fail
          rw [← HWD.out]
          try simp only [← HPD.out]
          go_wp2_with fail
          clear a0 a1 a2 a3 a4 b0 b1 b2 b3 b4 d0 d1 d2 d3 d4 e0 e1 e2 e3
          refine (bCut _ noQ w12 f (F.more ⟨id, eu, ev, wn⟩) H12.out T12.out.size id HI.out).mono ?_
          rw [HCE.out, HCA.out]
          rintro e w13 ⟨rfl, h13, t13⟩
          have H13 := Lib.hid h13
          have T13 := Lib.hid (T12.out.trans t13.below)
          have KE13 := Lib.hid (t13.blk KE12.out notL_E)
          have KA13 := Lib.hid (t13.blk KA12.out notL_A)
          have KB13 := Lib.hid (t13.blk KB12.out notL_A)
          have KC13 := Lib.hid (t13.blk KC12.out notL_A)
          have KD13 := Lib.hid (t13.blk KD12.out notL_A)
          clear h13 t13
          go_wp2_with fail
          refine (bAlong _ noQ w13 f F H13.out T13.out.size u v HU.out HV.out).mono ?_
          rw [E0.out, ← G0.out]
          rintro e w14 ⟨rfl, h14, t14⟩
          have H14 := Lib.hid h14
          have T14 := Lib.hid (T13.out.trans t14.below)
          have KE14 := Lib.hid (t14.blk KE13.out notL_E)
          have KA14 := Lib.hid (t14.blk KA13.out notL_A)
          have KB14 := Lib.hid (t14.blk KB13.out notL_A)
          have KC14 := Lib.hid (t14.blk KC13.out notL_A)
          have KD14 := Lib.hid (t14.blk KD13.out notL_A)
          clear h14 t14
          obtain ⟨pZ, hp⟩ : ∃ p, p = w14.heap.size := ⟨_, rfl⟩
          obtain ⟨w15, hw⟩ : ∃ W, W = w14.alloc (.cells #[.int .i64 m0.id, .int .i64 m0.u, .int .i64 m0.v, .int .i64 (m0.w : Int), .complex .f64 (fl s0) (fl k0)] 48) := ⟨_, rfl⟩
          have hb : Below w14.heap.size w14 w15 := by rw [hw]; exact (Below.refl _ _).alloc (Nat.le_refl _) _
          have KZ15 : Hid (Blk w15 pZ 48 #[.int .i64 m0.id, .int .i64 m0.u, .int .i64 m0.v, .int .i64 (m0.w : Int), .complex .f64 (fl s0) (fl k0)]) := Lib.hid (by rw [hw, hp]; exact Blk.new _ _ _)
          have H15 := Lib.hid (H14.out.below hb)
          have T15 := Lib.hid (T14.out.trans (hb.mono T14.out.size))
          have KE15 := Lib.hid (KE14.out.below hb KE14.out.lt)
          have KA15 := Lib.hid (KA14.out.below hb KA14.out.lt)
          have KB15 := Lib.hid (KB14.out.below hb KB14.out.lt)
          have KC15 := Lib.hid (KC14.out.below hb KC14.out.lt)
          have KD15 := Lib.hid (KD14.out.below hb KD14.out.lt)
          have HPZ := Lib.hid hp
          have HWZ := Lib.hid hw
          clear hp hw hb
          go_wp2_with fail
          rw [← HWZ.out]
          try simp only [← HPZ.out]
          refine (bLen _ noQ w15 f F H15.out).mono ?_
          rw [← HNV.out, ← HNE.out]
          rintro e w16 ⟨rfl, b16⟩
          have H16 := Lib.hid (H15.out.below b16)
          have T16 := Lib.hid (T15.out.trans (b16.mono T15.out.size))
          have KE16 := Lib.hid (KE15.out.below b16 KE15.out.lt)
          have KA16 := Lib.hid (KA15.out.below b16 KA15.out.lt)
          have KB16 := Lib.hid (KB15.out.below b16 KB15.out.lt)
          have KC16 := Lib.hid (KC15.out.below b16 KC15.out.lt)
          have KD16 := Lib.hid (KD15.out.below b16 KD15.out.lt)
          have KZ16 := Lib.hid (KZ15.out.below b16 KZ15.out.lt)
          clear b16
          have x0 := KA16.out.cell 0
          have x1 := KA16.out.cell 1
          have x2 := KA16.out.cell 2
          have x3 := KA16.out.cell 3
          have x4 := KA16.out.cell 4
          have z0 := KZ16.out.cell 0
          have z1 := KZ16.out.cell 1
          have z2 := KZ16.out.cell 2
          have z3 := KZ16.out.cell 3
          have z4 := KZ16.out.cell 4
          go_wp2_with fail
          go_ret
          exact ⟨rfl, T16.out⟩
        · subst ha
          refine (bAlong _ noQ w10 f (F.more ⟨id, eu, ev, wn⟩) H10.out T10.out.size u v HU.out HV.out).mono ?_
          rw [E1.out, ← G1.out]
          rintro e w11 ⟨rfl, h11, t11⟩
          have H11 := Lib.hid h11
          have T11 := Lib.hid (T10.out.trans t11.below)
          have KE11 := Lib.hid (t11.blk KE10.out notL_E)
          have KA11 := Lib.hid (t11.blk KA10.out notL_A)
          have KB11 := Lib.hid (t11.blk KB10.out notL_A)
          have KC11 := Lib.hid (t11.blk KC10.out notL_A)
          clear h11 t11
          obtain ⟨pD, hp⟩ : ∃ p, p = w11.heap.size := ⟨_, rfl⟩
          obtain ⟨w12, hw⟩ : ∃ W, W = w11.alloc (.cells #[.int .i64 m1.id, .int .i64 m1.u, .int .i64 m1.v, .int .i64 (m1.w : Int), .complex .f64 (fl s1) (fl k1)] 48) := ⟨_, rfl⟩
          have hb : Below w11.heap.size w11 w12 := by rw [hw]; exact (Below.refl _ _).alloc (Nat.le_refl _) _
          have KD12 : Hid (Blk w12 pD 48 #[.int .i64 m1.id, .int .i64 m1.u, .int .i64 m1.v, .int .i64 (m1.w : Int), .complex .f64 (fl s1) (fl k1)]) := Lib.hid (by rw [hw, hp]; exact Blk.new _ _ _)
          have H12 := Lib.hid (H11.out.below hb)
          have T12 := Lib.hid (T11.out.trans (hb.mono T11.out.size))
          have KE12 := Lib.hid (KE11.out.below hb KE11.out.lt)
          have KA12 := Lib.hid (KA11.out.below hb KA11.out.lt)
          have KB12 := Lib.hid (KB11.out.below hb KB11.out.lt)
          have KC12 := Lib.hid (KC11.out.below hb KC11.out.lt)
          have HPD := Lib.hid hp
          have HWD := Lib.hid hw
          clear hp hw hb
          have e0 := KE12.out.cell 0
          have e1 := KE12.out.cell 1
          have e2 := KE12.out.cell 2
          have e3 := KE12.out.cell 3
          go_upto_region 12 with fail
          rw [← HWD.out]
          try simp only [← HPD.out]
          have hbb : (gb == 0) = false := by simpa using hb
          go_wp2_with fail
          clear e0 e1 e2 e3
          refine (bCut _ noQ w12 f (F.more ⟨id, eu, ev, wn⟩) H12.out T12.out.size id HI.out).mono ?_
          rw [HCE.out, HCA.out]
          rintro e w13 ⟨rfl, h13, t13⟩
          have H13 := Lib.hid h13
          have T13 := Lib.hid (T12.out.trans t13.below)
          have KE13 := Lib.hid (t13.blk KE12.out notL_E)
          have KA13 := Lib.hid (t13.blk KA12.out notL_A)
          have KB13 := Lib.hid (t13.blk KB12.out notL_A)
          have KC13 := Lib.hid (t13.blk KC12.out notL_A)
          have KD13 := Lib.hid (t13.blk KD12.out notL_A)
          clear h13 t13
          go_wp2_with fail
          refine (bAlong _ noQ w13 f F H13.out T13.out.size u v HU.out HV.out).mono ?_
          rw [E0.out, ← G0.out]
          rintro e w14 ⟨rfl, h14, t14⟩
          have H14 := Lib.hid h14
          have T14 := Lib.hid (T13.out.trans t14.below)
          have KE14 := Lib.hid (t14.blk KE13.out notL_E)
          have KA14 := Lib.hid (t14.blk KA13.out notL_A)
          have KB14 := Lib.hid (t14.blk KB13.out notL_A)
          have KC14 := Lib.hid (t14.blk KC13.out notL_A)
          have KD14 := Lib.hid (t14.blk KD13.out notL_A)
          clear h14 t14
          obtain ⟨pZ, hp⟩ : ∃ p, p = w14.heap.size := ⟨_, rfl⟩
          obtain ⟨w15, hw⟩ : ∃ W, W = w14.alloc (.cells #[.int .i64 m0.id, .int .i64 m0.u, .int .i64 m0.v, .int .i64 (m0.w : Int), .complex .f64 (fl s0) (fl k0)] 48) := ⟨_, rfl⟩
          have hb : Below w14.heap.size w14 w15 := by rw [hw]; exact (Below.refl _ _).alloc (Nat.le_refl _) _
          have KZ15 : Hid (Blk w15 pZ 48 #[.int .i64 m0.id, .int .i64 m0.u, .int .i64 m0.v, .int .i64 (m0.w : Int), .complex .f64 (fl s0) (fl k0)]) := Lib.hid (by rw [hw, hp]; exact Blk.new _ _ _)
          have H15 := Lib.hid (H14.out.below hb)
          have T15 := Lib.hid (T14.out.trans (hb.mono T14.out.size))
          have KE15 := Lib.hid (KE14.out.below hb KE14.out.lt)
          have KA15 := Lib.hid (KA14.out.below hb KA14.out.lt)
          have KB15 := Lib.hid (KB14.out.below hb KB14.out.lt)
          have KC15 := Lib.hid (KC14.out.below hb KC14.out.lt)
          have KD15 := Lib.hid (KD14.out.below hb KD14.out.lt)
          have HPZ := Lib.hid hp
          have HWZ := Lib.hid hw
          clear hp hw hb
          go_wp2_with fail
          rw [← HWZ.out]
          try simp only [← HPZ.out]
          refine (bLen _ noQ w15 f F H15.out).mono ?_
          rw [← HNV.out, ← HNE.out]
          rintro e w16 ⟨rfl, b16⟩
          have H16 := Lib.hid (H15.out.below b16)
          have T16 := Lib.hid (T15.out.trans (b16.mono T15.out.size))
          have KE16 := Lib.hid (KE15.out.below b16 KE15.out.lt)
          have KA16 := Lib.hid (KA15.out.below b16 KA15.out.lt)
          have KB16 := Lib.hid (KB15.out.below b16 KB15.out.lt)
          have KC16 := Lib.hid (KC15.out.below b16 KC15.out.lt)
          have KD16 := Lib.hid (KD15.out.below b16 KD15.out.lt)
          have KZ16 := Lib.hid (KZ15.out.below b16 KZ15.out.lt)
          clear b16
          have x0 := KA16.out.cell 0
          have x1 := KA16.out.cell 1
          have x2 := KA16.out.cell 2
          have x3 := KA16.out.cell 3
          have x4 := KA16.out.cell 4
          have z0 := KZ16.out.cell 0
          have z1 := KZ16.out.cell 1
          have z2 := KZ16.out.cell 2
          have z3 := KZ16.out.cell 3
          have z4 := KZ16.out.cell 4
          go_wp2_with fail
          go_ret
          exact ⟨rfl, T16.out⟩
      · refine (bAlong _ noQ w10 f (F.more ⟨id, eu, ev, wn⟩) H10.out T10.out.size u v HU.out HV.out).mono ?_
        rw [E1.out, ← G1.out]
        rintro e w11 ⟨rfl, h11, t11⟩
        have H11 := Lib.hid h11
        have T11 := Lib.hid (T10.out.trans t11.below)
        have KE11 := Lib.hid (t11.blk KE10.out notL_E)
        have KA11 := Lib.hid (t11.blk KA10.out notL_A)
        have KB11 := Lib.hid (t11.blk KB10.out notL_A)
        have KC11 := Lib.hid (t11.blk KC10.out notL_A)
        clear h11 t11
        obtain ⟨pD, hp⟩ : ∃ p, p = w11.heap.size := ⟨_, rfl⟩
        obtain ⟨w12, hw⟩ : ∃ W, W = w11.alloc (.cells #[.int .i64 m1.id, .int .i64 m1.u, .int .i64 m1.v, .int .i64 (m1.w : Int), .complex .f64 (fl s1) (fl k1)] 48) := ⟨_, rfl⟩
        have hb : Below w11.heap.size w11 w12 := by rw [hw]; exact (Below.refl _ _).alloc (Nat.le_refl _) _
        have KD12 : Hid (Blk w12 pD 48 #[.int .i64 m1.id, .int .i64 m1.u, .int .i64 m1.v, .int .i64 (m1.w : Int), .complex .f64 (fl s1) (fl k1)]) := Lib.hid (by rw [hw, hp]; exact Blk.new _ _ _)
        have H12 := Lib.hid (H11.out.below hb)
        have T12 := Lib.hid (T11.out.trans (hb.mono T11.out.size))
        have KE12 := Lib.hid (KE11.out.below hb KE11.out.lt)
        have KA12 := Lib.hid (KA11.out.below hb KA11.out.lt)
        have KB12 := Lib.hid (KB11.out.below hb KB11.out.lt)
        have KC12 := Lib.hid (KC11.out.below hb KC11.out.lt)
        have HPD := Lib.hid hp
        have HWD := Lib.hid hw
        clear hp hw hb
        have e0 := KE12.out.cell 0
        have e1 := KE12.out.cell 1
        have e2 := KE12.out.cell 2
        have e3 := KE12.out.cell 3
        go_upto_region 12 with fail
        rw [← HWD.out]
        try simp only [← HPD.out]
        have hba : (ga == 0) = false := by simpa using ha
        go_wp2_with fail
        clear e0 e1 e2 e3
        refine (bCut _ noQ w12 f (F.more ⟨id, eu, ev, wn⟩) H12.out T12.out.size id HI.out).mono ?_
        rw [HCE.out, HCA.out]
        rintro e w13 ⟨rfl, h13, t13⟩
        have H13 := Lib.hid h13
        have T13 := Lib.hid (T12.out.trans t13.below)
        have KE13 := Lib.hid (t13.blk KE12.out notL_E)
        have KA13 := Lib.hid (t13.blk KA12.out notL_A)
        have KB13 := Lib.hid (t13.blk KB12.out notL_A)
        have KC13 := Lib.hid (t13.blk KC12.out notL_A)
        have KD13 := Lib.hid (t13.blk KD12.out notL_A)
        clear h13 t13
        go_wp2_with fail
        refine (bAlong _ noQ w13 f F H13.out T13.out.size u v HU.out HV.out).mono ?_
        rw [E0.out, ← G0.out]
        rintro e w14 ⟨rfl, h14, t14⟩
        have H14 := Lib.hid h14
        have T14 := Lib.hid (T13.out.trans t14.below)
        have KE14 := Lib.hid (t14.blk KE13.out notL_E)
        have KA14 := Lib.hid (t14.blk KA13.out notL_A)
        have KB14 := Lib.hid (t14.blk KB13.out notL_A)
        have KC14 := Lib.hid (t14.blk KC13.out notL_A)
        have KD14 := Lib.hid (t14.blk KD13.out notL_A)
        clear h14 t14
        obtain ⟨pZ, hp⟩ : ∃ p, p = w14.heap.size := ⟨_, rfl⟩
        obtain ⟨w15, hw⟩ : ∃ W, W = w14.alloc (.cells #[.int .i64 m0.id, .int .i64 m0.u, .int .i64 m0.v, .int .i64 (m0.w : Int), .complex .f64 (fl s0) (fl k0)] 48) := ⟨_, rfl⟩
        have hb : Below w14.heap.size w14 w15 := by rw [hw]; exact (Below.refl _ _).alloc (Nat.le_refl _) _
        have KZ15 : Hid (Blk w15 pZ 48 #[.int .i64 m0.id, .int .i64 m0.u, .int .i64 m0.v, .int .i64 (m0.w : Int), .complex .f64 (fl s0) (fl k0)]) := Lib.hid (by rw [hw, hp]; exact Blk.new _ _ _)
        have H15 := Lib.hid (H14.out.below hb)
        have T15 := Lib.hid (T14.out.trans (hb.mono T14.out.size))
        have KE15 := Lib.hid (KE14.out.below hb KE14.out.lt)
        have KA15 := Lib.hid (KA14.out.below hb KA14.out.lt)
        have KB15 := Lib.hid (KB14.out.below hb KB14.out.lt)
        have KC15 := Lib.hid (KC14.out.below hb KC14.out.lt)
        have KD15 := Lib.hid (KD14.out.below hb KD14.out.lt)
        have HPZ := Lib.hid hp
        have HWZ := Lib.hid hw
        clear hp hw hb
        go_wp2_with fail
        rw [← HWZ.out]
        try simp only [← HPZ.out]
        refine (bLen _ noQ w15 f F H15.out).mono ?_
        rw [← HNV.out, ← HNE.out]
        rintro e w16 ⟨rfl, b16⟩
        have H16 := Lib.hid (H15.out.below b16)
        have T16 := Lib.hid (T15.out.trans (b16.mono T15.out.size))
        have KE16 := Lib.hid (KE15.out.below b16 KE15.out.lt)
        have KA16 := Lib.hid (KA15.out.below b16 KA15.out.lt)
        have KB16 := Lib.hid (KB15.out.below b16 KB15.out.lt)
        have KC16 := Lib.hid (KC15.out.below b16 KC15.out.lt)
        have KD16 := Lib.hid (KD15.out.below b16 KD15.out.lt)
        have KZ16 := Lib.hid (KZ15.out.below b16 KZ15.out.lt)
        clear b16
        have x0 := KA16.out.cell 0
        have x1 := KA16.out.cell 1
        have x2 := KA16.out.cell 2
        have x3 := KA16.out.cell 3
        have x4 := KA16.out.cell 4
        have z0 := KZ16.out.cell 0
        have z1 := KZ16.out.cell 1
        have z2 := KZ16.out.cell 2
        have z3 := KZ16.out.cell 3
        have z4 := KZ16.out.cell 4
        go_wp2_with fail
        go_ret
        exact ⟨rfl, T16.out⟩
  · have hA : F.linkA id eu ev wt = F := by unfold LF.linkA; rw [if_neg hz]
    obtain ⟨er, her⟩ : ∃ x, x = F.linkE id eu ev wt := ⟨_, rfl⟩
    have hb0 : (er != 0) = true := by rw [her]; simpa using hz
    have her' : ¬ er = 0 := by rw [her]; exact hz
    have HER := Lib.hid her
    have HAA := Lib.hid hA
    clear hz her hA
    refine (bLink _ noQ w9 f F H9.out T9.out.size id eu ev wt HI.out HEU.out HEV.out HWT.out).mono ?_
    rw [HAA.out, ← HER.out]
    rintro e w10 ⟨rfl, h10, t10⟩
    have H10 := Lib.hid h10
    have T10 := Lib.hid (T9.out.trans t10.below)
    have KE10 := Lib.hid (t10.blk KE9.out notL_E)
    have KA10 := Lib.hid (t10.blk KA9.out notL_A)
    have KB10 := Lib.hid (t10.blk KB9.out notL_A)
    have KC10 := Lib.hid (t10.blk KC9.out notL_A)
    clear h10 t10
    go_wp2_with fail
    refine (bAlong _ noQ w10 f F H10.out T10.out.size u v HU.out HV.out).mono ?_
    rw [E0.out, ← G0.out]
    rintro e w11 ⟨rfl, h11, t11⟩
    have H11 := Lib.hid h11
    have T11 := Lib.hid (T10.out.trans t11.below)
    have KE11 := Lib.hid (t11.blk KE10.out notL_E)
    have KA11 := Lib.hid (t11.blk KA10.out notL_A)
    have KB11 := Lib.hid (t11.blk KB10.out notL_A)
    have KC11 := Lib.hid (t11.blk KC10.out notL_A)
    clear h11 t11
    obtain ⟨pD, hp⟩ : ∃ p, p = w11.heap.size := ⟨_, rfl⟩
    obtain ⟨w12, hw⟩ : ∃ W, W = w11.alloc (.cells #[.int .i64 m0.id, .int .i64 m0.u, .int .i64 m0.v, .int .i64 (m0.w : Int), .complex .f64 (fl s0) (fl k0)] 48) := ⟨_, rfl⟩
    have hb : Below w11.heap.size w11 w12 := by rw [hw]; exact (Below.refl _ _).alloc (Nat.le_refl _) _
    have KD12 : Hid (Blk w12 pD 48 #[.int .i64 m0.id, .int .i64 m0.u, .int .i64 m0.v, .int .i64 (m0.w : Int), .complex .f64 (fl s0) (fl k0)]) := Lib.hid (by rw [hw, hp]; exact Blk.new _ _ _)
    have H12 := Lib.hid (H11.out.below hb)
    have T12 := Lib.hid (T11.out.trans (hb.mono T11.out.size))
    have KE12 := Lib.hid (KE11.out.below hb KE11.out.lt)
    have KA12 := Lib.hid (KA11.out.below hb KA11.out.lt)
    have KB12 := Lib.hid (KB11.out.below hb KB11.out.lt)
    have KC12 := Lib.hid (KC11.out.below hb KC11.out.lt)
    have HPD := Lib.hid hp
    have HWD := Lib.hid hw
    clear hp hw hb
    have a0 := KA12.out.cell 0
    have a1 := KA12.out.cell 1
    have a2 := KA12.out.cell 2
    have a3 := KA12.out.cell 3
    have a4 := KA12.out.cell 4
    have d0 := KD12.out.cell 0
    have d1 := KD12.out.cell 1
    have d2 := KD12.out.cell 2
    have d3 := KD12.out.cell 3
    have d4 := KD12.out.cell 4
    go_upto_region 10 with fail
    rw [← HWD.out]
    try simp only [← HPD.out]
    go_wp2_with fail
    go_ret
    exact ⟨rfl, T12.out⟩

end Go.Proofs.Ytlhkajlkapoabaa
