/-
  The walk of LinkcutWeights.
-/
import Derived.Test.YtlhkajlkapoabaaZLM9
namespace Go.Proofs.Ytlhkajlkapoabaa
open Go.RowKit Go.Maps
set_option linter.unusedVariables false

attribute [local go_sem] run_storeCz

theorem run_eqCC {a b : Nat} (ha : a < 2 ^ 53) (hb : b < 2 ^ 53) (w : World) : (binOp .eql 46 (.complex .f64 (fl a) (fl b)) (.complex .f64 (fl a) (fl b))).run Try.prog w = .ok (.bool true) w := by
  have c : ∀ {x : Nat}, x < 2 ^ 53 → (Op.Complex.cmp .eql .f64 (fl x) (fl x)).run Try.prog w = .ok true w := by
    intro x hx
    unfold Op.Complex.cmp
    simp [Op.floatCmp, show FloatKind.f64.format.order (fl x) (fl x) = some (compare x x) from fl_order hx hx]
    rfl
  simp [binOp, Op.complexOp, c ha, c hb]

theorem edge_id {F : LF} {id : Int} {e : Eg} (h : F.edge id = some e) : e.id = id := by
  have := List.find?_some h
  simpa using this

theorem cut_there {F : LF} (hF : F.Ok) {e : Eg} (he : e ∈ F.es) : F.cutE e.id = 0 ∧ F.cutA e.id = F.less e.id := by
  have hz : F.cutE e.id = 0 := by
    unfold LF.cutE
    rw [if_pos (show okId e.id from ⟨(hF.eids e he).1, (hF.eids e he).2.1⟩), if_pos (show e.id ∈ F.es.map Eg.id from List.mem_map.2 ⟨e, he, rfl⟩)]
  refine ⟨hz, ?_⟩
  unfold LF.cutA
  rw [if_pos hz]

theorem link_again {F : LF} (hF : F.Ok) {e : Eg} (he : e ∈ F.es) {n : Nat} (hn : n ≤ 1099511627776) : (F.less e.id).linkE e.id e.u e.v (n : Int) = 0 ∧ (F.less e.id).linkA e.id e.u e.v (n : Int) = (F.less e.id).more ⟨e.id, e.u, e.v, n⟩ := by
  obtain ⟨h1, h2, h3⟩ := hF.ends e he
  have hz : (F.less e.id).linkE e.id e.u e.v (n : Int) = 0 := linkE_zero ⟨(hF.eids e he).1, (hF.eids e he).2.1⟩ (hF.ids _ h1) (hF.ids _ h2) (by omega) (less_new _) h1 h2 (hF.tree e he)
  exact ⟨hz, (linkA_more hz).1⟩

set_option maxRecDepth 100000 in
set_option maxHeartbeats 8000000 in
theorem linkcutWeights_walk (w : World) (sv : Value) (os : List OpL) (id wt u v : Int) (hs : ScrL w sv os) (hi : I64 id) (hwt : I64 wt) (hu : I64 u) (hv : I64 v) :
    Calls Try.prog 7 #[sv, .int .i64 id, .int .i64 wt, .int .i64 u, .int .i64 v] w fun e w' => e = .returned (.bool true) ∧ Below w.heap.size w w' := by
  have hf := filled_any w sv os hs
  obtain ⟨A, c, rfl, -, -, -, -⟩ := hs.rk.open_
  obtain ⟨n, hn⟩ : ∃ n, n = os.length := ⟨_, rfl⟩
  rw [← hn] at hf ⊢
  have HFL := Lib.hid hf
  have HI := Lib.hid hi
  have HWT := Lib.hid hwt
  have HU := Lib.hid hu
  have HV := Lib.hid hv
  clear hs hn hf hi hwt hu hv
  go_enter Try.func7, Try.ntmps7
  go_wp2_with fail
  refine HFL.out.mono ?_
  rintro e w1 ⟨f, rfl, h1, b1⟩
  obtain ⟨F, hF⟩ : ∃ F, F = LF.none0.runsL os := ⟨_, rfl⟩
  rw [← hF] at h1
  have HOK := Lib.hid h1.ok
  have H1 := Lib.hid h1
  have T1 := Lib.hid b1
  clear h1 b1 hF
  go_wp2_with fail
  refine ((alive_any w1)).mono ?_
  rintro e w2 ⟨rfl, b2⟩
  have H2 := Lib.hid (H1.out.below b2)
  have T2 := Lib.hid (T1.out.trans (b2.mono T1.out.size))
  clear b2
  go_wp2_with fail
  cases he : F.edge id with
  | none =>
    refine (bEdge_none H2.out HI.out he).mono ?_
    rintro e w3 ⟨rfl, b3⟩
    have H3 := Lib.hid (H2.out.below b3)
    have T3 := Lib.hid (T2.out.trans (b3.mono T2.out.size))
    clear b3
    have HB : Hid (Below w.heap.size w (w3.alloc (.cells #[.int .i64 0, .int .i64 0, .int .i64 0, .int .i64 0] 33))) := Lib.hid (T3.out.alloc T3.out.size _)
    go_wp2_with fail
    go_ret
    exact ⟨rfl, HB.out⟩
  | some e =>
    obtain rfl := (edge_id he).symm
    have hme := edge_some he
    obtain ⟨ii, iu, iv, iw⟩ := e
    dsimp only at HI
    have HED := Lib.hid (bEdge_some H2.out HI.out he)
    have HME := Lib.hid hme
    clear hme he
    refine (HED.out).mono ?_
    rintro e w3 ⟨rfl, b3⟩
    have H3 := Lib.hid (H2.out.below b3)
    have T3 := Lib.hid (T2.out.trans (b3.mono T2.out.size))
    clear b3
    obtain ⟨pE, hp⟩ : ∃ p, p = w3.heap.size := ⟨_, rfl⟩
    obtain ⟨w4, hw⟩ : ∃ W, W = w3.alloc (.cells #[.int .i64 ii, .int .i64 iu, .int .i64 iv, .int .i64 (iw : Int)] 33) := ⟨_, rfl⟩
    have hb : Below w3.heap.size w3 w4 := by rw [hw]; exact (Below.refl _ _).alloc (Nat.le_refl _) _
    have KE4 : Hid (Blk w4 pE 33 #[.int .i64 ii, .int .i64 iu, .int .i64 iv, .int .i64 (iw : Int)]) := Lib.hid (by rw [hw, hp]; exact Blk.new _ _ _)
    have H4 := Lib.hid (H3.out.below hb)
    have T4 := Lib.hid (T3.out.trans (hb.mono T3.out.size))
    have HPE := Lib.hid hp
    have HWE := Lib.hid hw
    clear hp hw hb
    go_upto_region 5 with fail
    rw [← HWE.out]
    try simp only [← HPE.out]
    by_cases h0 : wt < 0
    · have d0 : decide (wt < 0) = true := by simpa using h0
      go_wp2_with fail
      go_ret
      exact ⟨rfl, T4.out⟩
    have d0 : decide (wt < 0) = false := by simpa using h0
    by_cases h1 : 1099511627776 < wt
    · have d1 : decide (wt > 1099511627776) = true := by simpa using h1
      go_wp2_with fail
      go_ret
      exact ⟨rfl, T4.out⟩
    have d1 : decide (wt > 1099511627776) = false := by simpa using h1
    obtain ⟨n2, hn2⟩ : ∃ n : Nat, wt = (n : Int) := ⟨wt.toNat, by omega⟩
    subst hn2
    have hn2 : n2 ≤ 1099511627776 := by omega
    obtain ⟨m0, s0, k0, em0, es0, ek0, ls0, lk0, ev0⟩ := HOK.out.along_open u v
    obtain ⟨g0, hg0⟩ : ∃ g, g = F.alongX u v := ⟨_, rfl⟩
    obtain ⟨hcE, hcA⟩ := cut_there HOK.out HME.out
    obtain ⟨hlE, hlA⟩ := link_again HOK.out HME.out hn2
    dsimp only at hcE hcA hlE hlA
    have E0 := Lib.hid ev0
    have G0 := Lib.hid hg0
    have M0 := Lib.hid (And.intro em0 (And.intro es0 ek0))
    have CE := Lib.hid hcE
    have CA := Lib.hid hcA
    have LE := Lib.hid hlE
    have LA := Lib.hid hlA
    have hiw : iw ≤ 1099511627776 := (HOK.out.eids _ HME.out).2.2
    have heq := run_eqAg m0.id m0.u m0.v (m0.w : Int) (a := s0) (b := k0) (by omega) (by omega)
    have HEU : Hid (I64 iu) := Lib.hid (I64_of (HOK.out.ids _ (HOK.out.ends _ HME.out).1))
    have HEV : Hid (I64 iv) := Lib.hid (I64_of (HOK.out.ids _ (HOK.out.ends _ HME.out).2.1))
    clear ev0 hg0 em0 es0 ek0 hcE hcA hlE hlA h0 h1
    go_wp2_with fail
    refine (bAlong _ noQ w4 f F H4.out T4.out.size u v HU.out HV.out).mono ?_
    rw [E0.out, ← G0.out]
    rintro e w5 ⟨rfl, h5, t5⟩
    have H5 := Lib.hid h5
    have T5 := Lib.hid (T4.out.trans t5.below)
    have KE5 := Lib.hid (t5.blk KE4.out notL_E)
    clear h5 t5
    obtain ⟨pA, hp⟩ : ∃ p, p = w5.heap.size := ⟨_, rfl⟩
    obtain ⟨w6, hw⟩ : ∃ W, W = w5.alloc (.cells #[.int .i64 m0.id, .int .i64 m0.u, .int .i64 m0.v, .int .i64 (m0.w : Int), .complex .f64 (fl s0) (fl k0)] 48) := ⟨_, rfl⟩
    have hb : Below w5.heap.size w5 w6 := by rw [hw]; exact (Below.refl _ _).alloc (Nat.le_refl _) _
    have KA6 : Hid (Blk w6 pA 48 #[.int .i64 m0.id, .int .i64 m0.u, .int .i64 m0.v, .int .i64 (m0.w : Int), .complex .f64 (fl s0) (fl k0)]) := Lib.hid (by rw [hw, hp]; exact Blk.new _ _ _)
    have H6 := Lib.hid (H5.out.below hb)
    have T6 := Lib.hid (T5.out.trans (hb.mono T5.out.size))
    have KE6 := Lib.hid (KE5.out.below hb KE5.out.lt)
    have HPA := Lib.hid hp
    have HWA := Lib.hid hw
    clear hp hw hb
    go_wp2_with fail
    rw [← HWA.out]
    try simp only [← HPA.out]
    refine (bCut _ noQ w6 f F H6.out T6.out.size ii HI.out).mono ?_
    rw [CE.out, CA.out]
    rintro e w7 ⟨rfl, h7, t7⟩
    have H7 := Lib.hid h7
    have T7 := Lib.hid (T6.out.trans t7.below)
    have KE7 := Lib.hid (t7.blk KE6.out notL_E)
    have KA7 := Lib.hid (t7.blk KA6.out notL_A)
    clear h7 t7
    obtain ⟨F1, hF1⟩ : ∃ F1, F1 = F.less ii := ⟨_, rfl⟩
    have HF1 := Lib.hid hF1
    have K7F : Hid (LB w.heap.size noQ w7 f F1) := Lib.hid (by rw [hF1]; exact H7.out)
    clear H7 hF1
    have H7 := K7F
    clear K7F
    obtain ⟨mx, sx, kx, -, -, -, lsx, lkx, evx⟩ := H7.out.ok.along_open u v
    obtain ⟨gx, hgx⟩ : ∃ g, g = F1.alongX u v := ⟨_, rfl⟩
    have EX := Lib.hid evx
    have GX := Lib.hid hgx
    clear evx hgx
    go_wp2_with fail
    refine (bAlong _ noQ w7 f F1 H7.out T7.out.size u v HU.out HV.out).mono ?_
    rw [EX.out, ← GX.out]
    rintro e w8 ⟨rfl, h8, t8⟩
    have H8 := Lib.hid h8
    have T8 := Lib.hid (T7.out.trans t8.below)
    have KE8 := Lib.hid (t8.blk KE7.out notL_E)
    have KA8 := Lib.hid (t8.blk KA7.out notL_A)
    clear h8 t8
    obtain ⟨pX, hp⟩ : ∃ p, p = w8.heap.size := ⟨_, rfl⟩
    obtain ⟨w9, hw⟩ : ∃ W, W = w8.alloc (.cells #[.int .i64 mx.id, .int .i64 mx.u, .int .i64 mx.v, .int .i64 (mx.w : Int), .complex .f64 (fl sx) (fl kx)] 48) := ⟨_, rfl⟩
    have hb : Below w8.heap.size w8 w9 := by rw [hw]; exact (Below.refl _ _).alloc (Nat.le_refl _) _
    have KX9 : Hid (Blk w9 pX 48 #[.int .i64 mx.id, .int .i64 mx.u, .int .i64 mx.v, .int .i64 (mx.w : Int), .complex .f64 (fl sx) (fl kx)]) := Lib.hid (by rw [hw, hp]; exact Blk.new _ _ _)
    have H9 := Lib.hid (H8.out.below hb)
    have T9 := Lib.hid (T8.out.trans (hb.mono T8.out.size))
    have KE9 := Lib.hid (KE8.out.below hb KE8.out.lt)
    have KA9 := Lib.hid (KA8.out.below hb KA8.out.lt)
    have HPX := Lib.hid hp
    have HWX := Lib.hid hw
    clear hp hw hb
    have e0 := KE9.out.cell 0
    have e1 := KE9.out.cell 1
    have e2 := KE9.out.cell 2
    have e3 := KE9.out.cell 3
    go_upto_region 11 with fail
    rw [← HWX.out]
    try simp only [← HPX.out]
    go_wp2_with fail
    clear e0 e1 e2 e3
    refine (bLink _ noQ w9 f F1 H9.out T9.out.size ii iu iv (n2 : Int) HI.out HEU.out HEV.out HWT.out).mono ?_
    rw [HF1.out, LE.out, LA.out]
    rintro e w10 ⟨rfl, h10, t10⟩
    have H10 := Lib.hid h10
    have T10 := Lib.hid (T9.out.trans t10.below)
    have KE10 := Lib.hid (t10.blk KE9.out notL_E)
    have KA10 := Lib.hid (t10.blk KA9.out notL_A)
    have KX10 := Lib.hid (t10.blk KX9.out notL_A)
    clear h10 t10
    have HPL := Lib.hid (weights_plain HOK.out HME.out H10.out.ok u v)
    go_wp2_with fail
    by_cases hg : g0 = 0
    · subst hg
      by_cases hx : gx = 0
      · subst hx
        have hor : F.alongX u v ≠ 0 ∨ (F.less ii).alongX u v = 0 := .inr (by rw [← HF1.out]; exact GX.out.symm)
        have q1 := HPL.out.2.1
        have q2 := HPL.out.2.2.1 hor
        try dsimp only at q1 q2
        rw [E0.out] at q2
        rw [← G0.out] at q1
        have Q1 := Lib.hid q1
        have Q2 := Lib.hid q2
        clear q1 q2 hor
        refine (bAlong _ noQ w10 f ((F.less ii).more ⟨ii, iu, iv, n2⟩) H10.out T10.out.size u v HU.out HV.out).mono ?_
        rw [Q1.out, Q2.out]
        rintro e w11 ⟨rfl, h11, t11⟩
        have H11 := Lib.hid h11
        have T11 := Lib.hid (T10.out.trans t11.below)
        have KE11 := Lib.hid (t11.blk KE10.out notL_E)
        have KA11 := Lib.hid (t11.blk KA10.out notL_A)
        have KX11 := Lib.hid (t11.blk KX10.out notL_A)
        clear h11 t11
        obtain ⟨pC, hp⟩ : ∃ p, p = w11.heap.size := ⟨_, rfl⟩
        obtain ⟨w12, hw⟩ : ∃ W, W = w11.alloc (.cells #[.int .i64 m0.id, .int .i64 m0.u, .int .i64 m0.v, .int .i64 (m0.w : Int), .complex .f64 (fl s0) (fl k0)] 48) := ⟨_, rfl⟩
        have hb : Below w11.heap.size w11 w12 := by rw [hw]; exact (Below.refl _ _).alloc (Nat.le_refl _) _
        have KC12 : Hid (Blk w12 pC 48 #[.int .i64 m0.id, .int .i64 m0.u, .int .i64 m0.v, .int .i64 (m0.w : Int), .complex .f64 (fl s0) (fl k0)]) := Lib.hid (by rw [hw, hp]; exact Blk.new _ _ _)
        have H12 := Lib.hid (H11.out.below hb)
        have T12 := Lib.hid (T11.out.trans (hb.mono T11.out.size))
        have KE12 := Lib.hid (KE11.out.below hb KE11.out.lt)
        have KA12 := Lib.hid (KA11.out.below hb KA11.out.lt)
        have KX12 := Lib.hid (KX11.out.below hb KX11.out.lt)
        have HPC := Lib.hid hp
        have HWC := Lib.hid hw
        clear hp hw hb
        have a0 := KA12.out.cell 0
        have a1 := KA12.out.cell 1
        have a2 := KA12.out.cell 2
        have a3 := KA12.out.cell 3
        have a4 := KA12.out.cell 4
        have c0 := KC12.out.cell 0
        have c1 := KC12.out.cell 1
        have c2 := KC12.out.cell 2
        have c3 := KC12.out.cell 3
        have c4 := KC12.out.cell 4
        go_upto_region 14 with fail
        rw [← HWC.out]
        try simp only [← HPC.out]
        go_wp2_with fail
        go_ret
        exact ⟨rfl, T12.out⟩
      · have hbx : (gx == 0) = false := by simpa using hx
        have hbx2 : ¬ gx = 0 := hx
        obtain ⟨s, k, p1, p2, p3, p4, p5⟩ := HPL.out.2.2.2 G0.out.symm (by
          try dsimp only
          rw [← HF1.out, ← GX.out]; exact hx)
        have q1 := HPL.out.2.1
        try dsimp only at q1 p1 p2 p3 p4 p5
        rw [← G0.out] at q1
        obtain ⟨m2, s2, k2, em2, es2, ek2, ls2, lk2, ev2⟩ := H10.out.ok.along_open u v
        have e1 : s0 = s + iw := by rw [M0.out.2.1, p1]
        have e2 : k0 = k := by rw [M0.out.2.2, p2]
        have e3 : s2 = s + n2 := by rw [es2, p3]
        have e4 : k2 = k := by rw [ek2, p4]
        rw [← em2, ← M0.out.1] at p5
        subst e1 e2 e3 e4
        have Q1 := Lib.hid q1
        have Q2 := Lib.hid ev2
        have P5 := Lib.hid p5
        have hadw := run_addW (s := s) (a := iw) (b := n2) (k := k2) (by omega) (by omega) (by omega)
        have hec := run_eqCC (a := s + n2) (b := k2) (by omega) (by omega)
        have hwr : IntKind.i64.wrap ((n2 : Int) - (iw : Int)) = (n2 : Int) - (iw : Int) := by rw [IntKind.wrap_i64]; omega
        clear q1 ev2 p1 p2 p3 p4 p5 em2 es2 ek2 hx
        refine (bAlong _ noQ w10 f ((F.less ii).more ⟨ii, iu, iv, n2⟩) H10.out T10.out.size u v HU.out HV.out).mono ?_
        rw [Q1.out, Q2.out]
        rintro e w11 ⟨rfl, h11, t11⟩
        have H11 := Lib.hid h11
        have T11 := Lib.hid (T10.out.trans t11.below)
        have KE11 := Lib.hid (t11.blk KE10.out notL_E)
        have KA11 := Lib.hid (t11.blk KA10.out notL_A)
        have KX11 := Lib.hid (t11.blk KX10.out notL_A)
        clear h11 t11
        obtain ⟨pC, hp⟩ : ∃ p, p = w11.heap.size := ⟨_, rfl⟩
        obtain ⟨w12, hw⟩ : ∃ W, W = w11.alloc (.cells #[.int .i64 m2.id, .int .i64 m2.u, .int .i64 m2.v, .int .i64 (m2.w : Int), .complex .f64 (fl (s + n2)) (fl k2)] 48) := ⟨_, rfl⟩
        have hb : Below w11.heap.size w11 w12 := by rw [hw]; exact (Below.refl _ _).alloc (Nat.le_refl _) _
        have KC12 : Hid (Blk w12 pC 48 #[.int .i64 m2.id, .int .i64 m2.u, .int .i64 m2.v, .int .i64 (m2.w : Int), .complex .f64 (fl (s + n2)) (fl k2)]) := Lib.hid (by rw [hw, hp]; exact Blk.new _ _ _)
        have H12 := Lib.hid (H11.out.below hb)
        have T12 := Lib.hid (T11.out.trans (hb.mono T11.out.size))
        have KE12 := Lib.hid (KE11.out.below hb KE11.out.lt)
        have KA12 := Lib.hid (KA11.out.below hb KA11.out.lt)
        have KX12 := Lib.hid (KX11.out.below hb KX11.out.lt)
        have HPC := Lib.hid hp
        have HWC := Lib.hid hw
        clear hp hw hb
        have a0 := KA12.out.cell 0
        have a1 := KA12.out.cell 1
        have a2 := KA12.out.cell 2
        have a3 := KA12.out.cell 3
        have a4 := KA12.out.cell 4
        have c0 := KC12.out.cell 0
        have c1 := KC12.out.cell 1
        have c2 := KC12.out.cell 2
        have c3 := KC12.out.cell 3
        have c4 := KC12.out.cell 4
        have e0 := KE12.out.cell 0
        have e1 := KE12.out.cell 1
        have e2 := KE12.out.cell 2
        have e3 := KE12.out.cell 3
        go_upto_region 14 with fail
        rw [← HWC.out]
        try simp only [← HPC.out]
        by_cases c1 : m2.id = m0.id
        · have f1 : (m2.id == m0.id) = true := by simpa using c1
          go_wp2_with fail
          go_ret
          exact ⟨rfl, T12.out⟩
        have f1 : (m2.id == m0.id) = false := by simpa using c1
        by_cases c2 : m2.id = ii
        · have f2 : (m2.id == ii) = true := by simpa using c2
          go_wp2_with fail
          go_ret
          exact ⟨rfl, T12.out⟩
        have f2 : (m2.id == ii) = false := by simpa using c2
        have c3 : m0.id = ii := by
          rcases P5.out with h | h | h
          · exact absurd h c1
          · exact absurd h c2
          · exact h
        have f3 : (m0.id == ii) = true := by simpa using c3
        go_wp2_with fail
        go_ret
        exact ⟨rfl, T12.out⟩
    · have hor : F.alongX u v ≠ 0 ∨ (F.less ii).alongX u v = 0 := .inl (by rw [← G0.out]; exact hg)
      have hb0 : (g0 != 0) = true := by simpa using hg
      have hb1 : ¬ g0 = 0 := hg
      have q1 := HPL.out.2.1
      have q2 := HPL.out.2.2.1 hor
      try dsimp only at q1 q2
      rw [E0.out] at q2
      rw [← G0.out] at q1
      have Q1 := Lib.hid q1
      have Q2 := Lib.hid q2
      clear q1 q2 hor
      refine (bAlong _ noQ w10 f ((F.less ii).more ⟨ii, iu, iv, n2⟩) H10.out T10.out.size u v HU.out HV.out).mono ?_
      rw [Q1.out, Q2.out]
      rintro e w11 ⟨rfl, h11, t11⟩
      have H11 := Lib.hid h11
      have T11 := Lib.hid (T10.out.trans t11.below)
      have KE11 := Lib.hid (t11.blk KE10.out notL_E)
      have KA11 := Lib.hid (t11.blk KA10.out notL_A)
      have KX11 := Lib.hid (t11.blk KX10.out notL_A)
      clear h11 t11
      obtain ⟨pC, hp⟩ : ∃ p, p = w11.heap.size := ⟨_, rfl⟩
      obtain ⟨w12, hw⟩ : ∃ W, W = w11.alloc (.cells #[.int .i64 m0.id, .int .i64 m0.u, .int .i64 m0.v, .int .i64 (m0.w : Int), .complex .f64 (fl s0) (fl k0)] 48) := ⟨_, rfl⟩
      have hb : Below w11.heap.size w11 w12 := by rw [hw]; exact (Below.refl _ _).alloc (Nat.le_refl _) _
      have KC12 : Hid (Blk w12 pC 48 #[.int .i64 m0.id, .int .i64 m0.u, .int .i64 m0.v, .int .i64 (m0.w : Int), .complex .f64 (fl s0) (fl k0)]) := Lib.hid (by rw [hw, hp]; exact Blk.new _ _ _)
      have H12 := Lib.hid (H11.out.below hb)
      have T12 := Lib.hid (T11.out.trans (hb.mono T11.out.size))
      have KE12 := Lib.hid (KE11.out.below hb KE11.out.lt)
      have KA12 := Lib.hid (KA11.out.below hb KA11.out.lt)
      have KX12 := Lib.hid (KX11.out.below hb KX11.out.lt)
      have HPC := Lib.hid hp
      have HWC := Lib.hid hw
      clear hp hw hb
      have a0 := KA12.out.cell 0
      have a1 := KA12.out.cell 1
      have a2 := KA12.out.cell 2
      have a3 := KA12.out.cell 3
      have a4 := KA12.out.cell 4
      have c0 := KC12.out.cell 0
      have c1 := KC12.out.cell 1
      have c2 := KC12.out.cell 2
      have c3 := KC12.out.cell 3
      have c4 := KC12.out.cell 4
      go_upto_region 14 with fail
      rw [← HWC.out]
      try simp only [← HPC.out]
      go_wp2_with fail
      go_ret
      exact ⟨rfl, T12.out⟩

end Go.Proofs.Ytlhkajlkapoabaa
