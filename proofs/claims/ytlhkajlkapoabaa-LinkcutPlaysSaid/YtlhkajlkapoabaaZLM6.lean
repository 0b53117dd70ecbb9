/-
  The walk of LinkcutPaths.
-/
import Derived.Test.YtlhkajlkapoabaaZLM4
namespace Go.Proofs.Ytlhkajlkapoabaa
open Go.RowKit Go.Maps
set_option linter.unusedVariables false

theorem run_storeCz (P : Program) (w : World) (a : Addr) (m : Mode) (k : FloatKind) (x y : Nat) : (store a (.complex k x y) m).run P w = stored P w a (.complex k x y) m := run_store P w a _ m rfl

attribute [local go_sem] run_storeCz

theorem run_neEg (i u v x : Int) (w : World) : (binOp .neq 33 (.agg #[.int .i64 i, .int .i64 u, .int .i64 v, .int .i64 x]) (.agg #[.int .i64 i, .int .i64 u, .int .i64 v, .int .i64 x])).run Try.prog w = .ok (.bool false) w := by
  have h3 : (Op.equal 33 (.agg #[.int .i64 i, .int .i64 u, .int .i64 v, .int .i64 x]) (.agg #[.int .i64 i, .int .i64 u, .int .i64 v, .int .i64 x])).run Try.prog w = .ok true w := by
    unfold Op.equal
    have := run_eqEg w 9998 i u v x i u v x
    simp only [beq_self_eq_true, Bool.and_self] at this
    exact this
  simp [binOp, h3]

theorem run_neC1 {n : Nat} (h : n < 2 ^ 53) (w : World) : (binOp .neq 46 (.complex .f64 (fl n) 4607182418800017408) (.complex .f64 (floatOfInt .f64 (n : Int)) 4607182418800017408)).run Try.prog w = .ok (.bool false) w := by
  have := run_neC h (show 1 < 2 ^ 53 by decide) w
  rw [fl_one'] at this
  exact this

theorem ord_gt {a b : Nat} (ha : a < 2 ^ 53) (hb : b < 2 ^ 53) (h : a ≤ b) : ¬ FloatKind.f64.format.order (fl a) (fl b) = some Ordering.gt ∧ (FloatKind.f64.format.order (fl a) (fl b) == some Ordering.gt) = false := by
  rw [show FloatKind.f64.format.order (fl a) (fl b) = some (compare a b) from fl_order ha hb]
  have : compare a b ≠ Ordering.gt := fun e => by have := Nat.compare_eq_gt.1 e; omega
  refine ⟨fun e => by injection e with e; exact this e, ?_⟩
  cases hc : compare a b with
  | lt => rfl
  | eq => rfl
  | gt => exact absurd hc this

theorem edge_some {F : LF} {id : Int} {e : Eg} (h : F.edge id = some e) : e ∈ F.es := List.mem_of_find?_eq_some h

theorem LF.Ok.along_edge {F : LF} (h : F.Ok) {e : Eg} (he : e ∈ F.es) : F.alongX e.u e.v = 0 ∧ F.alongV e.u e.v = .agg #[.int .i64 e.id, .int .i64 e.u, .int .i64 e.v, .int .i64 (e.w : Int), .complex .f64 (fl e.w) 4607182418800017408] := by
  obtain ⟨h1, h2, h3⟩ := h.ends e he
  refine ⟨LF.alongX_iff.2 ⟨h1, h2, LF.join_edge he⟩, ?_⟩
  unfold LF.alongV
  obtain ⟨c1, c2⟩ := cnt_len (L := [e]) (fun x hx => by rw [List.mem_singleton.1 hx]; exact h.nz he)
  rw [h.path_edge he, best_one (h.eids e he).1, c1, c2]
  show Value.agg #[.int .i64 e.id, .int .i64 e.u, .int .i64 e.v, .int .i64 (e.w : Int), .complex .f64 (fl (e.w + 0)) (fl 1)] = _
  rw [fl_one']
  rfl

theorem bEdge_none {B : Nat} {Q : Nat → Prop} {w : World} {f : Nat} {F : LF} (h : LB B Q w f F) {id : Int} (hi : I64 id) (he : F.edge id = none) : Calls Try.prog 12 #[.pointer (some ⟨f, 0, none⟩), .int .i64 id] w fun e w' => e = .returned (.tuple #[.agg #[.int .i64 0, .int .i64 0, .int .i64 0, .int .i64 0], .bool false]) ∧ Below w.heap.size w w' := by
  have k := bEdge B Q w f F h id hi
  rw [he] at k
  exact k

theorem bEdge_some {B : Nat} {Q : Nat → Prop} {w : World} {f : Nat} {F : LF} (h : LB B Q w f F) {id : Int} (hi : I64 id) {i u v : Int} {x : Nat} (he : F.edge id = some ⟨i, u, v, x⟩) : Calls Try.prog 12 #[.pointer (some ⟨f, 0, none⟩), .int .i64 id] w fun e w' => e = .returned (.tuple #[.agg #[.int .i64 i, .int .i64 u, .int .i64 v, .int .i64 (x : Int)], .bool true]) ∧ Below w.heap.size w w' := by
  have k := bEdge B Q w f F h id hi
  rw [he] at k
  exact k

set_option maxRecDepth 100000 in
set_option maxHeartbeats 8000000 in
theorem linkcutPaths_walk (w : World) (sv : Value) (os : List OpL) (u v x : Int) (hs : ScrL w sv os) (hu : I64 u) (hv : I64 v) (hx : I64 x) :
    Calls Try.prog 4 #[sv, .int .i64 u, .int .i64 v, .int .i64 x] w fun e w' => e = .returned (.bool true) ∧ Below w.heap.size w w' := by
  have hf := filled_any w sv os hs
  obtain ⟨A, c, rfl, hc1, hc2, hc3, HC⟩ := hs.rk.open_
  obtain ⟨n, hn⟩ : ∃ n, n = os.length := ⟨_, rfl⟩
  rw [← hn] at hc1 hc3 hf ⊢
  have HS := Lib.hid hs.at_
  have HN := Lib.hid hn
  have HFL := Lib.hid hf
  have HU := Lib.hid hu
  have HV := Lib.hid hv
  have HX := Lib.hid hx
  clear hs hn hf hu hv hx
  go_enter Try.func4, Try.ntmps4
  go_wp2_with fail
  refine HFL.out.mono ?_
  rintro e w1 ⟨f, rfl, h1, b1⟩
  obtain ⟨F, hF⟩ : ∃ F, F = LF.none0.runsL os := ⟨_, rfl⟩
  rw [← hF] at h1
  have hok := h1.ok
  obtain ⟨m1, s1, k1, -, es1, ek1, ls1, lk1, ev1⟩ := hok.along_open u v
  obtain ⟨m2, s2, k2, -, es2, ek2, ls2, lk2, ev2⟩ := hok.along_open v x
  obtain ⟨m3, s3, k3, -, es3, ek3, ls3, lk3, ev3⟩ := hok.along_open u x
  obtain ⟨g1, hg1⟩ : ∃ g, g = F.alongX u v := ⟨_, rfl⟩
  obtain ⟨g2, hg2⟩ : ∃ g, g = F.alongX v x := ⟨_, rfl⟩
  obtain ⟨g3, hg3⟩ : ∃ g, g = F.alongX u x := ⟨_, rfl⟩
  have H3 : Hid (g1 = 0 → g2 = 0 → g3 = 0 ∧ s3 ≤ s1 + s2 ∧ k3 ≤ k1 + k2 ∧ (k3 + k1 + k2) % 2 = 0) := Lib.hid (fun e1 e2 => by
    rw [hg1] at e1
    rw [hg2] at e2
    obtain ⟨t1, t2, t3, t4⟩ := hok.three (LF.alongX_iff.1 e1) (LF.alongX_iff.1 e2)
    rw [es1, es2, es3, ek1, ek2, ek3, hg3]
    exact ⟨LF.alongX_iff.2 t1, t2, t3, t4⟩)
  have E1 := Lib.hid ev1
  have E2 := Lib.hid ev2
  have E3 := Lib.hid ev3
  have G1 := Lib.hid hg1
  have G2 := Lib.hid hg2
  have G3 := Lib.hid hg3
  have HOK := Lib.hid hok
  have H1 := Lib.hid h1
  have T1 := Lib.hid b1
  have hne := run_neAg m1.id m1.u m1.v (m1.w : Int) (a := s1) (b := k1) (by omega) (by omega)
  have had1 := run_addF (a := s1) (b := s2) (by omega)
  have had2 := run_addF (a := k1) (b := k2) (by omega)
  have had3 := run_addF (a := k3) (b := k1) (by omega)
  have had4 := run_addF (a := k3 + k1) (b := k2) (by omega)
  have HGT1 := Lib.hid (ord_gt (a := s3) (b := s1 + s2) (by omega) (by omega))
  have HGT2 := Lib.hid (ord_gt (a := k3) (b := k1 + k2) (by omega) (by omega))
  have htoi := run_toI (n := k3 + k1 + k2) (by omega)
  clear h1 b1 hok ev1 ev2 ev3 hg1 hg2 hg3 es1 ek1 es2 ek2 es3 ek3
  go_wp2_with fail
  refine ((alive_any w1)).mono ?_
  rintro e w2 ⟨rfl, b2⟩
  have H2 := Lib.hid (H1.out.below b2)
  have T2 := Lib.hid (T1.out.trans (b2.mono T1.out.size))
  clear b2
  go_wp2_with fail
  refine (bAlong _ noQ w2 f F H2.out T2.out.size u v HU.out HV.out).mono ?_
  rw [E1.out, ← G1.out]
  rintro e w3 ⟨rfl, h3, t3⟩
  have H3 := Lib.hid h3
  have T3 := Lib.hid (T2.out.trans t3.below)
  clear h3 t3
  obtain ⟨pA, hp⟩ : ∃ p, p = w3.heap.size := ⟨_, rfl⟩
  obtain ⟨w4, hw⟩ : ∃ W, W = w3.alloc (.cells #[.int .i64 m1.id, .int .i64 m1.u, .int .i64 m1.v, .int .i64 (m1.w : Int), .complex .f64 (fl s1) (fl k1)] 48) := ⟨_, rfl⟩
  have hb : Below w3.heap.size w3 w4 := by rw [hw]; exact (Below.refl _ _).alloc (Nat.le_refl _) _
  have KA4 : Hid (Blk w4 pA 48 #[.int .i64 m1.id, .int .i64 m1.u, .int .i64 m1.v, .int .i64 (m1.w : Int), .complex .f64 (fl s1) (fl k1)]) := Lib.hid (by rw [hw, hp]; exact Blk.new _ _ _)
  have H4 := Lib.hid (H3.out.below hb)
  have T4 := Lib.hid (T3.out.trans (hb.mono T3.out.size))
  have HPA := Lib.hid hp
  have HWA := Lib.hid hw
  clear hp hw hb
  go_wp2_with fail
  rw [← HWA.out]
  try simp only [← HPA.out]
  refine (bAlong _ noQ w4 f F H4.out T4.out.size v u HV.out HU.out).mono ?_
  rw [F.alongX_symm, F.alongV_symm, E1.out, ← G1.out]
  rintro e w5 ⟨rfl, h5, t5⟩
  have H5 := Lib.hid h5
  have T5 := Lib.hid (T4.out.trans t5.below)
  have KA5 := Lib.hid (t5.blk KA4.out notL_A)
  clear h5 t5
  obtain ⟨pB, hp⟩ : ∃ p, p = w5.heap.size := ⟨_, rfl⟩
  obtain ⟨w6, hw⟩ : ∃ W, W = w5.alloc (.cells #[.int .i64 m1.id, .int .i64 m1.u, .int .i64 m1.v, .int .i64 (m1.w : Int), .complex .f64 (fl s1) (fl k1)] 48) := ⟨_, rfl⟩
  have hb : Below w5.heap.size w5 w6 := by rw [hw]; exact (Below.refl _ _).alloc (Nat.le_refl _) _
  have KB6 : Hid (Blk w6 pB 48 #[.int .i64 m1.id, .int .i64 m1.u, .int .i64 m1.v, .int .i64 (m1.w : Int), .complex .f64 (fl s1) (fl k1)]) := Lib.hid (by rw [hw, hp]; exact Blk.new _ _ _)
  have H6 := Lib.hid (H5.out.below hb)
  have T6 := Lib.hid (T5.out.trans (hb.mono T5.out.size))
  have KA6 := Lib.hid (KA5.out.below hb KA5.out.lt)
  have HPB := Lib.hid hp
  have HWB := Lib.hid hw
  clear hp hw hb
  have a0 := KA6.out.cell 0
  have a1 := KA6.out.cell 1
  have a2 := KA6.out.cell 2
  have a3 := KA6.out.cell 3
  have a4 := KA6.out.cell 4
  have b0 := KB6.out.cell 0
  have b1 := KB6.out.cell 1
  have b2 := KB6.out.cell 2
  have b3 := KB6.out.cell 3
  have b4 := KB6.out.cell 4
  go_upto_region 6 with fail
  rw [← HWB.out]
  try simp only [← HPB.out]
  go_wp2_with fail
  clear a0 a1 a2 a3 a4 b0 b1 b2 b3 b4
  refine (bAlong _ noQ w6 f F H6.out T6.out.size v x HV.out HX.out).mono ?_
  rw [E2.out, ← G2.out]
  rintro e w7 ⟨rfl, h7, t7⟩
  have H7 := Lib.hid h7
  have T7 := Lib.hid (T6.out.trans t7.below)
  have KA7 := Lib.hid (t7.blk KA6.out notL_A)
  have KB7 := Lib.hid (t7.blk KB6.out notL_A)
  clear h7 t7
  obtain ⟨pC, hp⟩ : ∃ p, p = w7.heap.size := ⟨_, rfl⟩
  obtain ⟨w8, hw⟩ : ∃ W, W = w7.alloc (.cells #[.int .i64 m2.id, .int .i64 m2.u, .int .i64 m2.v, .int .i64 (m2.w : Int), .complex .f64 (fl s2) (fl k2)] 48) := ⟨_, rfl⟩
  have hb : Below w7.heap.size w7 w8 := by rw [hw]; exact (Below.refl _ _).alloc (Nat.le_refl _) _
  have KC8 : Hid (Blk w8 pC 48 #[.int .i64 m2.id, .int .i64 m2.u, .int .i64 m2.v, .int .i64 (m2.w : Int), .complex .f64 (fl s2) (fl k2)]) := Lib.hid (by rw [hw, hp]; exact Blk.new _ _ _)
  have H8 := Lib.hid (H7.out.below hb)
  have T8 := Lib.hid (T7.out.trans (hb.mono T7.out.size))
  have KA8 := Lib.hid (KA7.out.below hb KA7.out.lt)
  have KB8 := Lib.hid (KB7.out.below hb KB7.out.lt)
  have HPC := Lib.hid hp
  have HWC := Lib.hid hw
  clear hp hw hb
  go_wp2_with fail
  rw [← HWC.out]
  try simp only [← HPC.out]
  refine (bAlong _ noQ w8 f F H8.out T8.out.size u x HU.out HX.out).mono ?_
  rw [E3.out, ← G3.out]
  rintro e w9 ⟨rfl, h9, t9⟩
  have H9 := Lib.hid h9
  have T9 := Lib.hid (T8.out.trans t9.below)
  have KA9 := Lib.hid (t9.blk KA8.out notL_A)
  have KB9 := Lib.hid (t9.blk KB8.out notL_A)
  have KC9 := Lib.hid (t9.blk KC8.out notL_A)
  clear h9 t9
  obtain ⟨pD, hp⟩ : ∃ p, p = w9.heap.size := ⟨_, rfl⟩
  obtain ⟨w10, hw⟩ : ∃ W, W = w9.alloc (.cells #[.int .i64 m3.id, .int .i64 m3.u, .int .i64 m3.v, .int .i64 (m3.w : Int), .complex .f64 (fl s3) (fl k3)] 48) := ⟨_, rfl⟩
  have hb : Below w9.heap.size w9 w10 := by rw [hw]; exact (Below.refl _ _).alloc (Nat.le_refl _) _
  have KD10 : Hid (Blk w10 pD 48 #[.int .i64 m3.id, .int .i64 m3.u, .int .i64 m3.v, .int .i64 (m3.w : Int), .complex .f64 (fl s3) (fl k3)]) := Lib.hid (by rw [hw, hp]; exact Blk.new _ _ _)
  have H10 := Lib.hid (H9.out.below hb)
  have T10 := Lib.hid (T9.out.trans (hb.mono T9.out.size))
  have KA10 := Lib.hid (KA9.out.below hb KA9.out.lt)
  have KB10 := Lib.hid (KB9.out.below hb KB9.out.lt)
  have KC10 := Lib.hid (KC9.out.below hb KC9.out.lt)
  have HPD := Lib.hid hp
  have HWD := Lib.hid hw
  clear hp hw hb
  go_upto_region 10 with fail
  rw [← HWD.out]
  try simp only [← HPD.out]
  by_cases hg1 : g1 = 0
  · subst hg1
    by_cases hg2 : g2 = 0
    · subst hg2
      obtain ⟨hg3, q1, q2, q3⟩ := H3.out rfl rfl
      subst hg3
      obtain ⟨hd1, hd2⟩ := HGT1.out q1
      obtain ⟨hd3, hd4⟩ := HGT2.out q2
      have hrem : (((k3 : Int) + (k1 : Int) + (k2 : Int)) % 2 != 0) = false := by
        have : ((k3 : Int) + (k1 : Int) + (k2 : Int)) % 2 = 0 := by omega
        rw [this]; rfl
      clear q1 q2 q3
      have a0 := KA10.out.cell 0
      have a1 := KA10.out.cell 1
      have a2 := KA10.out.cell 2
      have a3 := KA10.out.cell 3
      have a4 := KA10.out.cell 4
      have c0 := KC10.out.cell 0
      have c1 := KC10.out.cell 1
      have c2 := KC10.out.cell 2
      have c3 := KC10.out.cell 3
      have c4 := KC10.out.cell 4
      have d0 := KD10.out.cell 0
      have d1 := KD10.out.cell 1
      have d2 := KD10.out.cell 2
      have d3 := KD10.out.cell 3
      have d4 := KD10.out.cell 4
      go_wp2_with fail
      go_loopg [19, 20, 21, 22, 23, 120] n (fun q s19 s20 s21 s22 s23 s120 wr => ∃ k : Nat, k + q = n ∧ s120 = .int .i64 (k : Int) ∧ Hid (LB w.heap.size noQ wr f F) ∧ Hid (Below w.heap.size w wr))
      case atStart => exact ⟨0, by omega, rfl, H10, T10⟩
      case round =>
        obtain ⟨k, hk, rfl, HF, HT⟩ := hrel
        by_cases hkl : k < n
        · have hko : k < os.length := by have := HN.out; omega
          obtain ⟨b1, o1, rfl, hb, hx⟩ := HC.out k hko
          obtain ⟨hx1, hx2, hx3, hx4, hx5⟩ := cellOp hx
          have y1 := (HT.out.cell (p := ⟨b1, o1 + k * 5, none⟩) hb).trans hx1
          have y2 := (HT.out.cell (p := ⟨b1, o1 + k * 5 + 1, none⟩) hb).trans hx2
          have y3 := (HT.out.cell (p := ⟨b1, o1 + k * 5 + 2, none⟩) hb).trans hx3
          have y4 := (HT.out.cell (p := ⟨b1, o1 + k * 5 + 3, none⟩) hb).trans hx4
          have y5 := (HT.out.cell (p := ⟨b1, o1 + k * 5 + 4, none⟩) hb).trans hx5
          have HOP := Lib.hid (HS.out os[k] (List.getElem_mem hko))
          clear hx hx1 hx2 hx3 hx4 hx5
          obtain ⟨xo, hxo⟩ : ∃ xo, xo = os[k] := ⟨_, rfl⟩
          rw [← hxo] at y1 y2 y3 y4 y5 HOP
          clear hxo
          obtain ⟨kd, id, eu, ev, wt⟩ := xo
          dsimp only at y1 y2 y3 y4 y5
          have hkn : (k : Int) < (n : Int) := by omega
          have hkd : decide ((k : Int) < (n : Int)) = true := by simpa using hkl
          go_upto_region 16 with fail
          obtain ⟨pO, hp⟩ : ∃ p, p = wr.heap.size := ⟨_, rfl⟩
          obtain ⟨w101, hw⟩ : ∃ W, W = wr.alloc (.cells #[.int .i64 kd, .int .i64 id, .int .i64 eu, .int .i64 ev, .int .i64 wt] 35) := ⟨_, rfl⟩
          have hb : Below wr.heap.size wr w101 := by rw [hw]; exact (Below.refl _ _).alloc (Nat.le_refl _) _
          have KO101 : Hid (Blk w101 pO 35 #[.int .i64 kd, .int .i64 id, .int .i64 eu, .int .i64 ev, .int .i64 wt]) := Lib.hid (by rw [hw, hp]; exact Blk.new _ _ _)
          have H101 := Lib.hid (HF.out.below hb)
          have T101 := Lib.hid (HT.out.trans (hb.mono HT.out.size))
          have HPO := Lib.hid hp
          have HWO := Lib.hid hw
          clear hp hw hb
          rw [← HWO.out]
          try simp only [← HPO.out]
          have z0 := KO101.out.cell 0
          have z1 := KO101.out.cell 1
          have z2 := KO101.out.cell 2
          have z3 := KO101.out.cell 3
          have z4 := KO101.out.cell 4
          go_wp2_with fail
          clear y1 y2 y3 y4 y5 z0 z1 z2 z3 z4
          cases he : F.edge id with
          | none =>
            refine (bEdge_none H101.out HOP.out.id he).mono ?_
            rintro e w102 ⟨rfl, b102⟩
            have H102 := Lib.hid (H101.out.below b102)
            have T102 := Lib.hid (T101.out.trans (b102.mono T101.out.size))
            have KO102 := Lib.hid (KO101.out.below b102 KO101.out.lt)
            clear b102
            have H102' : Hid (LB w.heap.size noQ (w102.alloc (.cells #[.int .i64 0, .int .i64 0, .int .i64 0, .int .i64 0] 33)) f F ∧ Below w.heap.size w (w102.alloc (.cells #[.int .i64 0, .int .i64 0, .int .i64 0, .int .i64 0] 33))) := Lib.hid ⟨H102.out.below ((Below.refl _ _).alloc (Nat.le_refl _) _), T102.out.alloc T102.out.size _⟩
            go_wp2_with fail
            go_roundg (gk - 1)
            case rel => exact ⟨k + 1, by omega, by go_num, Lib.hid H102'.out.1, Lib.hid H102'.out.2⟩
            case measure => omega
          | some e =>
            have hme := edge_some he
            obtain ⟨ea, eb⟩ := HOK.out.along_edge hme
            have heu : I64 e.u := I64_of (HOK.out.ids _ (HOK.out.ends e hme).1)
            have hev : I64 e.v := I64_of (HOK.out.ids _ (HOK.out.ends e hme).2.1)
            have hew := (HOK.out.eids e hme).2.2
            obtain ⟨ii, iu, iv, iw⟩ := e
            dsimp only at ea eb heu hev hew
            have EA := Lib.hid ea
            have EB := Lib.hid eb
            have HEU := Lib.hid heu
            have HEV := Lib.hid hev
            have hnE := run_neEg ii iu iv (iw : Int)
            have hnC := run_neC1 (n := iw) (by omega)
            have HED := Lib.hid (bEdge_some H101.out HOP.out.id he)
            clear ea eb heu hev hme he
            refine (HED.out).mono ?_
            rintro e w102 ⟨rfl, b102⟩
            have H102 := Lib.hid (H101.out.below b102)
            have T102 := Lib.hid (T101.out.trans (b102.mono T101.out.size))
            have KO102 := Lib.hid (KO101.out.below b102 KO101.out.lt)
            clear b102
            obtain ⟨pP, hp⟩ : ∃ p, p = w102.heap.size := ⟨_, rfl⟩
            obtain ⟨w103, hw⟩ : ∃ W, W = w102.alloc (.cells #[.int .i64 ii, .int .i64 iu, .int .i64 iv, .int .i64 (iw : Int)] 33) := ⟨_, rfl⟩
            have hb : Below w102.heap.size w102 w103 := by rw [hw]; exact (Below.refl _ _).alloc (Nat.le_refl _) _
            have KP103 : Hid (Blk w103 pP 33 #[.int .i64 ii, .int .i64 iu, .int .i64 iv, .int .i64 (iw : Int)]) := Lib.hid (by rw [hw, hp]; exact Blk.new _ _ _)
            have H103 := Lib.hid (H102.out.below hb)
            have T103 := Lib.hid (T102.out.trans (hb.mono T102.out.size))
            have KO103 := Lib.hid (KO102.out.below hb KO102.out.lt)
            have HPP := Lib.hid hp
            have HWP := Lib.hid hw
            clear hp hw hb
            have z0 := KP103.out.cell 0
            have z1 := KP103.out.cell 1
            have z2 := KP103.out.cell 2
            have z3 := KP103.out.cell 3
            go_upto_region 17 with fail
            rw [← HWP.out]
            try simp only [← HPP.out]
            go_wp2_with fail
            clear z0 z1 z2 z3
            refine (bAlong _ noQ w103 f F H103.out T103.out.size iu iv HEU.out HEV.out).mono ?_
            rw [EA.out, EB.out]
            rintro e w104 ⟨rfl, h104, t104⟩
            have H104 := Lib.hid h104
            have T104 := Lib.hid (T103.out.trans t104.below)
            have KO104 := Lib.hid (t104.blk KO103.out notL_O)
            have KP104 := Lib.hid (t104.blk KP103.out notL_E)
            clear h104 t104
            obtain ⟨pQ, hp⟩ : ∃ p, p = w104.heap.size := ⟨_, rfl⟩
            obtain ⟨w105, hw⟩ : ∃ W, W = w104.alloc (.cells #[.int .i64 ii, .int .i64 iu, .int .i64 iv, .int .i64 (iw : Int), .complex .f64 (fl iw) 4607182418800017408] 48) := ⟨_, rfl⟩
            have hb : Below w104.heap.size w104 w105 := by rw [hw]; exact (Below.refl _ _).alloc (Nat.le_refl _) _
            have KQ105 : Hid (Blk w105 pQ 48 #[.int .i64 ii, .int .i64 iu, .int .i64 iv, .int .i64 (iw : Int), .complex .f64 (fl iw) 4607182418800017408]) := Lib.hid (by rw [hw, hp]; exact Blk.new _ _ _)
            have H105 := Lib.hid (H104.out.below hb)
            have T105 := Lib.hid (T104.out.trans (hb.mono T104.out.size))
            have KO105 := Lib.hid (KO104.out.below hb KO104.out.lt)
            have KP105 := Lib.hid (KP104.out.below hb KP104.out.lt)
            have HPQ := Lib.hid hp
            have HWQ := Lib.hid hw
            clear hp hw hb
            go_upto_region 19 with fail
            rw [← HWQ.out]
            try simp only [← HPQ.out]
            have z0 := KQ105.out.cell 0
            have z1 := KQ105.out.cell 1
            have z2 := KQ105.out.cell 2
            have z3 := KQ105.out.cell 3
            have z4 := KQ105.out.cell 4
            have x0 := KP105.out.cell 0
            have x1 := KP105.out.cell 1
            have x2 := KP105.out.cell 2
            have x3 := KP105.out.cell 3
            go_wp2_with fail
            go_roundg (gk - 1)
            case rel => exact ⟨k + 1, by omega, by go_num, H105, T105⟩
            case measure => omega
        · obtain rfl : k = n := by omega
          have hkd : decide ((k : Int) < (k : Int)) = false := by simp
          go_wp2_with fail
          go_ret
          exact ⟨rfl, HT.out⟩
    · have hb2 : (g2 == 0) = false := by simpa using hg2
      go_wp2_with fail
      go_loopg [19, 20, 21, 22, 23, 120] n (fun q s19 s20 s21 s22 s23 s120 wr => ∃ k : Nat, k + q = n ∧ s120 = .int .i64 (k : Int) ∧ Hid (LB w.heap.size noQ wr f F) ∧ Hid (Below w.heap.size w wr))
      case atStart => exact ⟨0, by omega, rfl, H10, T10⟩
      case round =>
        obtain ⟨k, hk, rfl, HF, HT⟩ := hrel
        by_cases hkl : k < n
        · have hko : k < os.length := by have := HN.out; omega
          obtain ⟨b1, o1, rfl, hb, hx⟩ := HC.out k hko
          obtain ⟨hx1, hx2, hx3, hx4, hx5⟩ := cellOp hx
          have y1 := (HT.out.cell (p := ⟨b1, o1 + k * 5, none⟩) hb).trans hx1
          have y2 := (HT.out.cell (p := ⟨b1, o1 + k * 5 + 1, none⟩) hb).trans hx2
          have y3 := (HT.out.cell (p := ⟨b1, o1 + k * 5 + 2, none⟩) hb).trans hx3
          have y4 := (HT.out.cell (p := ⟨b1, o1 + k * 5 + 3, none⟩) hb).trans hx4
          have y5 := (HT.out.cell (p := ⟨b1, o1 + k * 5 + 4, none⟩) hb).trans hx5
          have HOP := Lib.hid (HS.out os[k] (List.getElem_mem hko))
          clear hx hx1 hx2 hx3 hx4 hx5
          obtain ⟨xo, hxo⟩ : ∃ xo, xo = os[k] := ⟨_, rfl⟩
          rw [← hxo] at y1 y2 y3 y4 y5 HOP
          clear hxo
          obtain ⟨kd, id, eu, ev, wt⟩ := xo
          dsimp only at y1 y2 y3 y4 y5
          have hkn : (k : Int) < (n : Int) := by omega
          have hkd : decide ((k : Int) < (n : Int)) = true := by simpa using hkl
          go_upto_region 16 with fail
          obtain ⟨pO, hp⟩ : ∃ p, p = wr.heap.size := ⟨_, rfl⟩
          obtain ⟨w101, hw⟩ : ∃ W, W = wr.alloc (.cells #[.int .i64 kd, .int .i64 id, .int .i64 eu, .int .i64 ev, .int .i64 wt] 35) := ⟨_, rfl⟩
          have hb : Below wr.heap.size wr w101 := by rw [hw]; exact (Below.refl _ _).alloc (Nat.le_refl _) _
          have KO101 : Hid (Blk w101 pO 35 #[.int .i64 kd, .int .i64 id, .int .i64 eu, .int .i64 ev, .int .i64 wt]) := Lib.hid (by rw [hw, hp]; exact Blk.new _ _ _)
          have H101 := Lib.hid (HF.out.below hb)
          have T101 := Lib.hid (HT.out.trans (hb.mono HT.out.size))
          have HPO := Lib.hid hp
          have HWO := Lib.hid hw
          clear hp hw hb
          rw [← HWO.out]
          try simp only [← HPO.out]
          have z0 := KO101.out.cell 0
          have z1 := KO101.out.cell 1
          have z2 := KO101.out.cell 2
          have z3 := KO101.out.cell 3
          have z4 := KO101.out.cell 4
          go_wp2_with fail
          clear y1 y2 y3 y4 y5 z0 z1 z2 z3 z4
          cases he : F.edge id with
          | none =>
            refine (bEdge_none H101.out HOP.out.id he).mono ?_
            rintro e w102 ⟨rfl, b102⟩
            have H102 := Lib.hid (H101.out.below b102)
            have T102 := Lib.hid (T101.out.trans (b102.mono T101.out.size))
            have KO102 := Lib.hid (KO101.out.below b102 KO101.out.lt)
            clear b102
            have H102' : Hid (LB w.heap.size noQ (w102.alloc (.cells #[.int .i64 0, .int .i64 0, .int .i64 0, .int .i64 0] 33)) f F ∧ Below w.heap.size w (w102.alloc (.cells #[.int .i64 0, .int .i64 0, .int .i64 0, .int .i64 0] 33))) := Lib.hid ⟨H102.out.below ((Below.refl _ _).alloc (Nat.le_refl _) _), T102.out.alloc T102.out.size _⟩
            go_wp2_with fail
            go_roundg (gk - 1)
            case rel => exact ⟨k + 1, by omega, by go_num, Lib.hid H102'.out.1, Lib.hid H102'.out.2⟩
            case measure => omega
          | some e =>
            have hme := edge_some he
            obtain ⟨ea, eb⟩ := HOK.out.along_edge hme
            have heu : I64 e.u := I64_of (HOK.out.ids _ (HOK.out.ends e hme).1)
            have hev : I64 e.v := I64_of (HOK.out.ids _ (HOK.out.ends e hme).2.1)
            have hew := (HOK.out.eids e hme).2.2
            obtain ⟨ii, iu, iv, iw⟩ := e
            dsimp only at ea eb heu hev hew
            have EA := Lib.hid ea
            have EB := Lib.hid eb
            have HEU := Lib.hid heu
            have HEV := Lib.hid hev
            have hnE := run_neEg ii iu iv (iw : Int)
            have hnC := run_neC1 (n := iw) (by omega)
            have HED := Lib.hid (bEdge_some H101.out HOP.out.id he)
            clear ea eb heu hev hme he
            refine (HED.out).mono ?_
            rintro e w102 ⟨rfl, b102⟩
            have H102 := Lib.hid (H101.out.below b102)
            have T102 := Lib.hid (T101.out.trans (b102.mono T101.out.size))
            have KO102 := Lib.hid (KO101.out.below b102 KO101.out.lt)
            clear b102
            obtain ⟨pP, hp⟩ : ∃ p, p = w102.heap.size := ⟨_, rfl⟩
            obtain ⟨w103, hw⟩ : ∃ W, W = w102.alloc (.cells #[.int .i64 ii, .int .i64 iu, .int .i64 iv, .int .i64 (iw : Int)] 33) := ⟨_, rfl⟩
            have hb : Below w102.heap.size w102 w103 := by rw [hw]; exact (Below.refl _ _).alloc (Nat.le_refl _) _
            have KP103 : Hid (Blk w103 pP 33 #[.int .i64 ii, .int .i64 iu, .int .i64 iv, .int .i64 (iw : Int)]) := Lib.hid (by rw [hw, hp]; exact Blk.new _ _ _)
            have H103 := Lib.hid (H102.out.below hb)
            have T103 := Lib.hid (T102.out.trans (hb.mono T102.out.size))
            have KO103 := Lib.hid (KO102.out.below hb KO102.out.lt)
            have HPP := Lib.hid hp
            have HWP := Lib.hid hw
            clear hp hw hb
            have z0 := KP103.out.cell 0
            have z1 := KP103.out.cell 1
            have z2 := KP103.out.cell 2
            have z3 := KP103.out.cell 3
            go_upto_region 17 with fail
            rw [← HWP.out]
            try simp only [← HPP.out]
            go_wp2_with fail
            clear z0 z1 z2 z3
            refine (bAlong _ noQ w103 f F H103.out T103.out.size iu iv HEU.out HEV.out).mono ?_
            rw [EA.out, EB.out]
            rintro e w104 ⟨rfl, h104, t104⟩
            have H104 := Lib.hid h104
            have T104 := Lib.hid (T103.out.trans t104.below)
            have KO104 := Lib.hid (t104.blk KO103.out notL_O)
            have KP104 := Lib.hid (t104.blk KP103.out notL_E)
            clear h104 t104
            obtain ⟨pQ, hp⟩ : ∃ p, p = w104.heap.size := ⟨_, rfl⟩
            obtain ⟨w105, hw⟩ : ∃ W, W = w104.alloc (.cells #[.int .i64 ii, .int .i64 iu, .int .i64 iv, .int .i64 (iw : Int), .complex .f64 (fl iw) 4607182418800017408] 48) := ⟨_, rfl⟩
            have hb : Below w104.heap.size w104 w105 := by rw [hw]; exact (Below.refl _ _).alloc (Nat.le_refl _) _
            have KQ105 : Hid (Blk w105 pQ 48 #[.int .i64 ii, .int .i64 iu, .int .i64 iv, .int .i64 (iw : Int), .complex .f64 (fl iw) 4607182418800017408]) := Lib.hid (by rw [hw, hp]; exact Blk.new _ _ _)
            have H105 := Lib.hid (H104.out.below hb)
            have T105 := Lib.hid (T104.out.trans (hb.mono T104.out.size))
            have KO105 := Lib.hid (KO104.out.below hb KO104.out.lt)
            have KP105 := Lib.hid (KP104.out.below hb KP104.out.lt)
            have HPQ := Lib.hid hp
            have HWQ := Lib.hid hw
            clear hp hw hb
            go_upto_region 19 with fail
            rw [← HWQ.out]
            try simp only [← HPQ.out]
            have z0 := KQ105.out.cell 0
            have z1 := KQ105.out.cell 1
            have z2 := KQ105.out.cell 2
            have z3 := KQ105.out.cell 3
            have z4 := KQ105.out.cell 4
            have x0 := KP105.out.cell 0
            have x1 := KP105.out.cell 1
            have x2 := KP105.out.cell 2
            have x3 := KP105.out.cell 3
            go_wp2_with fail
            go_roundg (gk - 1)
            case rel => exact ⟨k + 1, by omega, by go_num, H105, T105⟩
            case measure => omega
        · obtain rfl : k = n := by omega
          have hkd : decide ((k : Int) < (k : Int)) = false := by simp
          go_wp2_with fail
          go_ret
          exact ⟨rfl, HT.out⟩
  · have hb1 : (g1 == 0) = false := by simpa using hg1
    go_wp2_with fail
    go_loopg [19, 20, 21, 22, 23, 120] n (fun q s19 s20 s21 s22 s23 s120 wr => ∃ k : Nat, k + q = n ∧ s120 = .int .i64 (k : Int) ∧ Hid (LB w.heap.size noQ wr f F) ∧ Hid (Below w.heap.size w wr))
    case atStart => exact ⟨0, by omega, rfl, H10, T10⟩
    case round =>
      obtain ⟨k, hk, rfl, HF, HT⟩ := hrel
      by_cases hkl : k < n
      · have hko : k < os.length := by have := HN.out; omega
        obtain ⟨b1, o1, rfl, hb, hx⟩ := HC.out k hko
        obtain ⟨hx1, hx2, hx3, hx4, hx5⟩ := cellOp hx
        have y1 := (HT.out.cell (p := ⟨b1, o1 + k * 5, none⟩) hb).trans hx1
        have y2 := (HT.out.cell (p := ⟨b1, o1 + k * 5 + 1, none⟩) hb).trans hx2
        have y3 := (HT.out.cell (p := ⟨b1, o1 + k * 5 + 2, none⟩) hb).trans hx3
        have y4 := (HT.out.cell (p := ⟨b1, o1 + k * 5 + 3, none⟩) hb).trans hx4
        have y5 := (HT.out.cell (p := ⟨b1, o1 + k * 5 + 4, none⟩) hb).trans hx5
        have HOP := Lib.hid (HS.out os[k] (List.getElem_mem hko))
        clear hx hx1 hx2 hx3 hx4 hx5
        obtain ⟨xo, hxo⟩ : ∃ xo, xo = os[k] := ⟨_, rfl⟩
        rw [← hxo] at y1 y2 y3 y4 y5 HOP
        clear hxo
        obtain ⟨kd, id, eu, ev, wt⟩ := xo
        dsimp only at y1 y2 y3 y4 y5
        have hkn : (k : Int) < (n : Int) := by omega
        have hkd : decide ((k : Int) < (n : Int)) = true := by simpa using hkl
        go_upto_region 16 with fail
        obtain ⟨pO, hp⟩ : ∃ p, p = wr.heap.size := ⟨_, rfl⟩
        obtain ⟨w101, hw⟩ : ∃ W, W = wr.alloc (.cells #[.int .i64 kd, .int .i64 id, .int .i64 eu, .int .i64 ev, .int .i64 wt] 35) := ⟨_, rfl⟩
        have hb : Below wr.heap.size wr w101 := by rw [hw]; exact (Below.refl _ _).alloc (Nat.le_refl _) _
        have KO101 : Hid (Blk w101 pO 35 #[.int .i64 kd, .int .i64 id, .int .i64 eu, .int .i64 ev, .int .i64 wt]) := Lib.hid (by rw [hw, hp]; exact Blk.new _ _ _)
        have H101 := Lib.hid (HF.out.below hb)
        have T101 := Lib.hid (HT.out.trans (hb.mono HT.out.size))
        have HPO := Lib.hid hp
        have HWO := Lib.hid hw
        clear hp hw hb
        rw [← HWO.out]
        try simp only [← HPO.out]
        have z0 := KO101.out.cell 0
        have z1 := KO101.out.cell 1
        have z2 := KO101.out.cell 2
        have z3 := KO101.out.cell 3
        have z4 := KO101.out.cell 4
        go_wp2_with fail
        clear y1 y2 y3 y4 y5 z0 z1 z2 z3 z4
        cases he : F.edge id with
        | none =>
          refine (bEdge_none H101.out HOP.out.id he).mono ?_
          rintro e w102 ⟨rfl, b102⟩
          have H102 := Lib.hid (H101.out.below b102)
          have T102 := Lib.hid (T101.out.trans (b102.mono T101.out.size))
          have KO102 := Lib.hid (KO101.out.below b102 KO101.out.lt)
          clear b102
          have H102' : Hid (LB w.heap.size noQ (w102.alloc (.cells #[.int .i64 0, .int .i64 0, .int .i64 0, .int .i64 0] 33)) f F ∧ Below w.heap.size w (w102.alloc (.cells #[.int .i64 0, .int .i64 0, .int .i64 0, .int .i64 0] 33))) := Lib.hid ⟨H102.out.below ((Below.refl _ _).alloc (Nat.le_refl _) _), T102.out.alloc T102.out.size _⟩
          go_wp2_with fail
          go_roundg (gk - 1)
          case rel => exact ⟨k + 1, by omega, by go_num, Lib.hid H102'.out.1, Lib.hid H102'.out.2⟩
          case measure => omega
        | some e =>
          have hme := edge_some he
          obtain ⟨ea, eb⟩ := HOK.out.along_edge hme
          have heu : I64 e.u := I64_of (HOK.out.ids _ (HOK.out.ends e hme).1)
          have hev : I64 e.v := I64_of (HOK.out.ids _ (HOK.out.ends e hme).2.1)
          have hew := (HOK.out.eids e hme).2.2
          obtain ⟨ii, iu, iv, iw⟩ := e
          dsimp only at ea eb heu hev hew
          have EA := Lib.hid ea
          have EB := Lib.hid eb
          have HEU := Lib.hid heu
          have HEV := Lib.hid hev
          have hnE := run_neEg ii iu iv (iw : Int)
          have hnC := run_neC1 (n := iw) (by omega)
          have HED := Lib.hid (bEdge_some H101.out HOP.out.id he)
          clear ea eb heu hev hme he
          refine (HED.out).mono ?_
          rintro e w102 ⟨rfl, b102⟩
          have H102 := Lib.hid (H101.out.below b102)
          have T102 := Lib.hid (T101.out.trans (b102.mono T101.out.size))
          have KO102 := Lib.hid (KO101.out.below b102 KO101.out.lt)
          clear b102
          obtain ⟨pP, hp⟩ : ∃ p, p = w102.heap.size := ⟨_, rfl⟩
          obtain ⟨w103, hw⟩ : ∃ W, W = w102.alloc (.cells #[.int .i64 ii, .int .i64 iu, .int .i64 iv, .int .i64 (iw : Int)] 33) := ⟨_, rfl⟩
          have hb : Below w102.heap.size w102 w103 := by rw [hw]; exact (Below.refl _ _).alloc (Nat.le_refl _) _
          have KP103 : Hid (Blk w103 pP 33 #[.int .i64 ii, .int .i64 iu, .int .i64 iv, .int .i64 (iw : Int)]) := Lib.hid (by rw [hw, hp]; exact Blk.new _ _ _)
          have H103 := Lib.hid (H102.out.below hb)
          have T103 := Lib.hid (T102.out.trans (hb.mono T102.out.size))
          have KO103 := Lib.hid (KO102.out.below hb KO102.out.lt)
          have HPP := Lib.hid hp
          have HWP := Lib.hid hw
          clear hp hw hb
          have z0 := KP103.out.cell 0
          have z1 := KP103.out.cell 1
          have z2 := KP103.out.cell 2
          have z3 := KP103.out.cell 3
          go_upto_region 17 with fail
          rw [← HWP.out]
          try simp only [← HPP.out]
          go_wp2_with fail
          clear z0 z1 z2 z3
          refine (bAlong _ noQ w103 f F H103.out T103.out.size iu iv HEU.out HEV.out).mono ?_
          rw [EA.out, EB.out]
          rintro e w104 ⟨rfl, h104, t104⟩
          have H104 := Lib.hid h104
          have T104 := Lib.hid (T103.out.trans t104.below)
          have KO104 := Lib.hid (t104.blk KO103.out notL_O)
          have KP104 := Lib.hid (t104.blk KP103.out notL_E)
          clear h104 t104
          obtain ⟨pQ, hp⟩ : ∃ p, p = w104.heap.size := ⟨_, rfl⟩
          obtain ⟨w105, hw⟩ : ∃ W, W = w104.alloc (.cells #[.int .i64 ii, .int .i64 iu, .int .i64 iv, .int .i64 (iw : Int), .complex .f64 (fl iw) 4607182418800017408] 48) := ⟨_, rfl⟩
          have hb : Below w104.heap.size w104 w105 := by rw [hw]; exact (Below.refl _ _).alloc (Nat.le_refl _) _
          have KQ105 : Hid (Blk w105 pQ 48 #[.int .i64 ii, .int .i64 iu, .int .i64 iv, .int .i64 (iw : Int), .complex .f64 (fl iw) 4607182418800017408]) := Lib.hid (by rw [hw, hp]; exact Blk.new _ _ _)
          have H105 := Lib.hid (H104.out.below hb)
          have T105 := Lib.hid (T104.out.trans (hb.mono T104.out.size))
          have KO105 := Lib.hid (KO104.out.below hb KO104.out.lt)
          have KP105 := Lib.hid (KP104.out.below hb KP104.out.lt)
          have HPQ := Lib.hid hp
          have HWQ := Lib.hid hw
          clear hp hw hb
          go_upto_region 19 with fail
          rw [← HWQ.out]
          try simp only [← HPQ.out]
          have z0 := KQ105.out.cell 0
          have z1 := KQ105.out.cell 1
          have z2 := KQ105.out.cell 2
          have z3 := KQ105.out.cell 3
          have z4 := KQ105.out.cell 4
          have x0 := KP105.out.cell 0
          have x1 := KP105.out.cell 1
          have x2 := KP105.out.cell 2
          have x3 := KP105.out.cell 3
          go_wp2_with fail
          go_roundg (gk - 1)
          case rel => exact ⟨k + 1, by omega, by go_num, H105, T105⟩
          case measure => omega
      · obtain rfl : k = n := by omega
        have hkd : decide ((k : Int) < (k : Int)) = false := by simp
        go_wp2_with fail
        go_ret
        exact ⟨rfl, HT.out⟩

end Go.Proofs.Ytlhkajlkapoabaa

/-
  A forest with an edge more: who is joined, and which edges are between two vertices.
-/
namespace Go.Proofs.Ytlhkajlkapoabaa
open Go.RowKit Go.Maps
set_option linter.unusedVariables false

/-- With an edge more. -/
def LF.more (F : LF) (e : Eg) : LF := ⟨F.vs, F.es ++ [e]⟩

/-- An edge that may come. -/
structure Fresh (F : LF) (e : Eg) : Prop where
  id : e.id ∉ F.es.map Eg.id
  u : e.u ∈ F.vs
  v : e.v ∈ F.vs
  no : ¬ F.Join e.u e.v

section

variable {F G : LF} {e x : Eg} {u v : Int}

theorem more_less (h : e.id ∉ F.es.map Eg.id) : (F.more e).less e.id = F := by
  obtain ⟨V, E⟩ := F
  show LF.mk V ((E ++ [e]).filter fun x => x.id != e.id) = ⟨V, E⟩
  have h1 : E.filter (fun x => x.id != e.id) = E := List.filter_eq_self.2 fun x hx => by
    have : x.id ≠ e.id := fun hh => h (List.mem_map.2 ⟨x, hx, hh⟩)
    simpa using this
  rw [List.filter_append, h1]
  simp

theorem more_other {i : Int} (h : e.id ≠ i) : (F.more e).less i = (F.less i).more e := by
  obtain ⟨V, E⟩ := F
  show LF.mk V ((E ++ [e]).filter fun x => x.id != i) = ⟨V, E.filter (fun x => x.id != i) ++ [e]⟩
  rw [List.filter_append]
  have : [e].filter (fun x => x.id != i) = [e] := List.filter_eq_self.2 fun x hx => by
    rw [List.mem_singleton.1 hx]; simpa using h
  rw [this]

theorem more_join (h : F.Join u v) : (F.more e).Join u v := h.mono fun x hx => List.mem_append_left _ hx

theorem more_edge : (F.more e).Join e.u e.v := LF.join_edge (List.mem_append_right _ (List.mem_singleton.2 rfl))

theorem more_split (h : e.id ∉ F.es.map Eg.id) (hj : (F.more e).Join u v) : F.Join u v ∨ (F.Join u e.u ∧ F.Join e.v v) ∨ (F.Join u e.v ∧ F.Join e.u v) := by
  have k := LF.join_split (e := e) (fun x hx hid => by
    rcases List.mem_append.1 hx with hx | hx
    · exact absurd (List.mem_map.2 ⟨x, hx, hid⟩) h
    · exact List.mem_singleton.1 hx) hj
  rw [more_less h] at k
  exact k

theorem less_fresh {i : Int} (h : e.id ∉ F.es.map Eg.id) : e.id ∉ (F.less i).es.map Eg.id := fun hm => by
  obtain ⟨x, hx, hid⟩ := List.mem_map.1 hm
  exact h (List.mem_map.2 ⟨x, (LF.mem_less.1 hx).1, hid⟩)

theorem Fresh.ne (h : Fresh F e) (hx : x ∈ F.es) : e.id ≠ x.id := fun hh => h.id (List.mem_map.2 ⟨x, hx, hh.symm⟩)

/-- Nothing new between those that were joined. -/
theorem Fresh.old (h : Fresh F e) (hj : F.Join u v) (hx : x ∈ F.es) : ((F.more e).less x.id).Join u v ↔ (F.less x.id).Join u v := by
  rw [more_other (h.ne hx)]
  constructor
  · intro hh
    rcases more_split (less_fresh h.id) hh with k | ⟨k1, k2⟩ | ⟨k1, k2⟩
    · exact k
    · exact absurd ((LF.less_join k1).symm.trans (hj.trans (LF.less_join k2).symm)) h.no
    · exact absurd (((LF.less_join k2).trans hj.symm).trans (LF.less_join k1)) h.no
  · exact more_join

open Classical in
theorem path_eq (hj : F.Jn u v) : F.path u v = F.es.filter fun e => decide (¬ (F.less e.id).Join u v) := by
  unfold LF.path
  rw [if_pos (show u ∈ F.vs ∧ v ∈ F.vs ∧ F.Join u v from hj)]

theorem more_jn (hj : F.Jn u v) : (F.more e).Jn u v := ⟨hj.1, hj.2.1, more_join hj.2.2⟩

open Classical in
theorem Fresh.path_old (h : Fresh F e) (hj : F.Jn u v) : (F.more e).path u v = F.path u v := by
  rw [path_eq hj, path_eq (more_jn hj)]
  show (F.es ++ [e]).filter _ = _
  rw [List.filter_append]
  have h1 : [e].filter (fun x => decide (¬ ((F.more e).less x.id).Join u v)) = [] := List.filter_eq_nil_iff.2 fun x hx => by
    rw [List.mem_singleton.1 hx, more_less h.id]
    simpa using hj.2.2
  rw [h1, List.append_nil]
  exact List.filter_congr fun x hx => by rw [decide_eq_decide]; exact not_congr (h.old hj.2.2 hx)

theorem Fresh.along_old (h : Fresh F e) (hj : F.Jn u v) : (F.more e).alongX u v = F.alongX u v ∧ (F.more e).alongV u v = F.alongV u v := by
  refine ⟨?_, ?_⟩
  · rw [LF.alongX_iff.2 hj, LF.alongX_iff.2 (more_jn hj)]
  · unfold LF.alongV
    rw [h.path_old hj]

theorem filter_plus {α : Type} (f : α → Nat) (p q r : α → Bool) : ∀ (L : List α), (∀ e ∈ L, r e = (p e || q e) ∧ ¬ (p e = true ∧ q e = true)) → ((L.filter r).map f).sum = ((L.filter p).map f).sum + ((L.filter q).map f).sum
  | [], _ => rfl
  | e :: L, h => by
    have h1 := filter_plus f p q r L fun x hx => h x (List.mem_cons_of_mem _ hx)
    obtain ⟨h2, h3⟩ := h e (List.mem_cons_self ..)
    cases hp : p e <;> cases hq : q e <;> rw [hp, hq] at h2 h3 <;> simp only [List.filter_cons, hp, hq, h2] <;> simp at h3 ⊢ <;> omega

theorem one_sum : ∀ L : List Eg, (L.map fun _ => 1).sum = L.length := fun L => by
  induction L with
  | nil => rfl
  | cons x L ih => simp only [List.map_cons, List.sum_cons, List.length_cons, ih]; omega

/-- Between those that the edge joins lies what lay on either side, and the edge. -/
theorem Fresh.path_new (h : Fresh F e) (hF : F.Ok) (hG : (F.more e).Ok) (h1 : F.Jn u e.u) (h2 : F.Jn e.v v) : (F.more e).Jn u v ∧ sumE ((F.more e).path u v) = sumE (F.path u e.u) + sumE (F.path e.v v) + e.w ∧ cntE ((F.more e).path u v) = cntE (F.path u e.u) + cntE (F.path e.v v) + 1 := by
  classical
  have hj : (F.more e).Jn u v := ⟨h1.1, h2.2.1, (more_join h1.2.2).trans (more_edge.trans (more_join h2.2.2))⟩
  have hno : ¬ F.Join u v := fun hh => h.no (h1.2.2.symm.trans (hh.trans h2.2.2.symm))
  have hno2 : ¬ F.Join u e.v := fun hh => h.no (h1.2.2.symm.trans hh)
  have hme : e ∈ (F.more e).es := List.mem_append_right _ (List.mem_singleton.2 rfl)
  refine ⟨hj, ?_⟩
  obtain ⟨a1, b1⟩ := cnt_len (hG.path_nz (u := u) (v := v))
  obtain ⟨a2, b2⟩ := cnt_len (hF.path_nz (u := u) (v := e.u))
  obtain ⟨a3, b3⟩ := cnt_len (hF.path_nz (u := e.v) (v := v))
  have hr : ∀ x ∈ F.es, decide (¬ ((F.more e).less x.id).Join u v) = (decide (¬ (F.less x.id).Join u e.u) || decide (¬ (F.less x.id).Join e.v v)) ∧ ¬ (decide (¬ (F.less x.id).Join u e.u) = true ∧ decide (¬ (F.less x.id).Join e.v v) = true) := fun x hx => by
    have hiff : ((F.more e).less x.id).Join u v ↔ (F.less x.id).Join u e.u ∧ (F.less x.id).Join e.v v := by
      rw [more_other (h.ne hx)]
      constructor
      · intro hh
        rcases more_split (less_fresh h.id) hh with k | k | ⟨k1, k2⟩
        · exact absurd (LF.less_join k) hno
        · exact k
        · exact absurd (LF.less_join k1) hno2
      · rintro ⟨k1, k2⟩
        exact (more_join k1).trans (more_edge.trans (more_join k2))
    refine ⟨?_, ?_⟩
    · by_cases n1 : (F.less x.id).Join u e.u <;> by_cases n2 : (F.less x.id).Join e.v v <;> simp [hiff, n1, n2]
    · rintro ⟨n1, n2⟩
      have n1 : ¬ (F.less x.id).Join u e.u := by simpa using n1
      have n2 : ¬ (F.less x.id).Join e.v v := by simpa using n2
      have k1 : F.Join u x.u := by
        rcases LF.join_split (hF.one hx) h1.2.2 with k | ⟨k, -⟩ | ⟨k, -⟩
        · exact absurd k n1
        · exact LF.less_join k
        · exact (LF.less_join k).trans (LF.join_edge hx).symm
      have k2 : F.Join e.v x.u := by
        rcases LF.join_split (hF.one hx) h2.2.2 with k | ⟨k, -⟩ | ⟨k, -⟩
        · exact absurd k n2
        · exact LF.less_join k
        · exact (LF.less_join k).trans (LF.join_edge hx).symm
      exact hno2 (k1.trans k2.symm)
  have hp : (F.more e).path u v = (F.es.filter fun x => decide (¬ ((F.more e).less x.id).Join u v)) ++ [e] := by
    rw [path_eq hj]
    show (F.es ++ [e]).filter _ = _
    rw [List.filter_append]
    have : [e].filter (fun x => decide (¬ ((F.more e).less x.id).Join u v)) = [e] := List.filter_eq_self.2 fun x hx => by
      rw [List.mem_singleton.1 hx, more_less h.id]
      simpa using hno
    rw [this]
  have s1 := filter_plus Eg.w _ _ _ F.es hr
  have s2 := filter_plus (fun _ : Eg => 1) _ _ _ F.es hr
  rw [one_sum, one_sum, one_sum] at s2
  rw [a1, a2, a3, b1, b2, b3, hp, path_eq h1, path_eq h2, List.map_append, List.sum_append, List.length_append, s1, s2]
  exact ⟨by simp, by simp⟩

end

end Go.Proofs.Ytlhkajlkapoabaa

/-
  The walk of LinkcutBack.
-/
namespace Go.Proofs.Ytlhkajlkapoabaa
open Go.RowKit Go.Maps
set_option linter.unusedVariables false

attribute [local go_sem] run_storeCz

theorem ScrL.below {w w' : World} {v : Value} {os : List OpL} (h : ScrL w v os) (hb : Below w.heap.size w w') : ScrL w' v os := ⟨(h.rk.below hb).more hb.size, h.at_⟩

theorem run_eqAg (i u v x : Int) {a b : Nat} (ha : a < 2 ^ 53) (hb : b < 2 ^ 53) (w : World) : (binOp .eql 48 (.agg #[.int .i64 i, .int .i64 u, .int .i64 v, .int .i64 x, .complex .f64 (fl a) (fl b)]) (.agg #[.int .i64 i, .int .i64 u, .int .i64 v, .int .i64 x, .complex .f64 (fl a) (fl b)])).run Try.prog w = .ok (.bool true) w := by
  have h1 := fun (W : World) (d : Nat) => run_eqEg W d i u v x i u v x
  have h2 := fun (W : World) (d : Nat) => run_eqC W d ha hb
  simp only [beq_self_eq_true, Bool.and_self] at h1
  have h3 : (Op.equal 48 (.agg #[.int .i64 i, .int .i64 u, .int .i64 v, .int .i64 x, .complex .f64 (fl a) (fl b)]) (.agg #[.int .i64 i, .int .i64 u, .int .i64 v, .int .i64 x, .complex .f64 (fl a) (fl b)])).run Try.prog w = .ok true w := by
    unfold Op.equal
    show (Op.equalIn (9997 + 3) _ _ _).run _ _ = _
    rw [Op.equalIn]
    simp only [run_underlying Try.underlying48, Sem.run_bind, Result.andThen_ok]
    simp [go_sem, h1, h2]
  simp [binOp, h3]

theorem run_addC {a b c d : Nat} (h1 : a + c < 2 ^ 53) (h2 : b + d < 2 ^ 53) (w : World) : (binOp .add 46 (.complex .f64 (fl a) (fl b)) (.complex .f64 (fl c) (fl d))).run Try.prog w = .ok (.complex .f64 (fl (a + c)) (fl (b + d))) w :=
  run_complex_sum w .add (.inl rfl) _ _ _ _ _ _ _ _ (by unfold cSumBits; rw [fl_add h1, fl_add h2]; rfl)

theorem run_addC1 {a b c : Nat} (h1 : a + c < 2 ^ 53) (h2 : b + 1 < 2 ^ 53) (w : World) : (binOp .add 46 (.complex .f64 (fl a) (fl b)) (.complex .f64 (floatOfInt .f64 (c : Int)) 4607182418800017408)).run Try.prog w = .ok (.complex .f64 (fl (a + c)) (fl (b + 1))) w := by
  have := run_addC (a := a) (b := b) (c := c) (d := 1) h1 h2 w
  rw [fl_one'] at this
  exact this

/-- Link, where it went well. -/
theorem linkA_more {F : LF} {id u v : Int} {n : Nat} (h : F.linkE id u v (n : Int) = 0) : F.linkA id u v (n : Int) = F.more ⟨id, u, v, n⟩ ∧ Fresh F ⟨id, u, v, n⟩ := by
  obtain ⟨h1, h2, h3, h4, h5, h6, h7, h8, h9⟩ := linkE_ok h
  refine ⟨?_, ⟨h6, h7, h8, h9⟩⟩
  unfold LF.linkA
  rw [if_pos h]
  rfl

theorem more_cut {F : LF} {e : Eg} (h1 : 1 ≤ e.id ∧ e.id ≤ 2147483647) (h : e.id ∉ F.es.map Eg.id) : (F.more e).cutE e.id = 0 ∧ (F.more e).cutA e.id = F := by
  have hz : (F.more e).cutE e.id = 0 := by
    unfold LF.cutE
    rw [if_pos (show okId e.id from h1), if_pos (show e.id ∈ (F.more e).es.map Eg.id from List.mem_map.2 ⟨e, List.mem_append_right _ (List.mem_singleton.2 rfl), rfl⟩)]
  refine ⟨hz, ?_⟩
  unfold LF.cutA
  rw [if_pos hz, more_less h]

set_option maxRecDepth 100000 in
set_option maxHeartbeats 8000000 in
theorem linkcutBack_walk (w : World) (sv : Value) (os : List OpL) (id eu ev wt u v : Int) (hs : ScrL w sv os) (hi : I64 id) (heu : I64 eu) (hev : I64 ev) (hwt : I64 wt) (hu : I64 u) (hv : I64 v) :
    Calls Try.prog 5 #[sv, .agg #[.int .i64 id, .int .i64 eu, .int .i64 ev, .int .i64 wt], .int .i64 u, .int .i64 v] w fun e w' => e = .returned (.bool true) ∧ Below w.heap.size w w' := by
  obtain ⟨wb, hwb⟩ : ∃ W, W = w.alloc (.cells #[.int .i64 id, .int .i64 eu, .int .i64 ev, .int .i64 wt] 33) := ⟨_, rfl⟩
  obtain ⟨pE, hpE⟩ : ∃ p, p = w.heap.size := ⟨_, rfl⟩
  have hbb : Below w.heap.size w wb := by rw [hwb]; exact (Below.refl _ _).alloc (Nat.le_refl _) _
  have KE0 : Hid (Blk wb pE 33 #[.int .i64 id, .int .i64 eu, .int .i64 ev, .int .i64 wt]) := Lib.hid (by rw [hwb, hpE]; exact Blk.new _ _ _)
  have HWB := Lib.hid hwb
  have HPE := Lib.hid hpE
  have TB := Lib.hid hbb
  have hf := filled_any wb sv os (hs.below hbb)
  obtain ⟨A, c, rfl, -, -, -, -⟩ := hs.rk.open_
  obtain ⟨n, hn⟩ : ∃ n, n = os.length := ⟨_, rfl⟩
  rw [← hn] at hf ⊢
  have HFL := Lib.hid hf
  have HI := Lib.hid hi
  have HEU := Lib.hid heu
  have HEV := Lib.hid hev
  have HWT := Lib.hid hwt
  have HU := Lib.hid hu
  have HV := Lib.hid hv
  clear hs hn hf hi heu hev hwt hu hv hwb hpE hbb
  go_enter Try.func5, Try.ntmps5
  go_wp2_with fail
  rw [← HWB.out]
  try simp only [← HPE.out]
  refine HFL.out.mono ?_
  rintro e w1 ⟨f, rfl, h1, b1⟩
  obtain ⟨F, hF⟩ : ∃ F, F = LF.none0.runsL os := ⟨_, rfl⟩
  rw [← hF] at h1
  have hok := h1.ok
  obtain ⟨m0, s0, k0, -, es0, ek0, ls0, lk0, ev0⟩ := hok.along_open u v
  obtain ⟨ma, sa, ka, -, esa, eka, lsa, lka, eva⟩ := hok.along_open u eu
  obtain ⟨mb, sb, kb, -, esb, ekb, lsb, lkb, evb⟩ := hok.along_open ev v
  obtain ⟨g0, hg0⟩ : ∃ g, g = F.alongX u v := ⟨_, rfl⟩
  obtain ⟨ga, hga⟩ : ∃ g, g = F.alongX u eu := ⟨_, rfl⟩
  obtain ⟨gb, hgb⟩ : ∃ g, g = F.alongX ev v := ⟨_, rfl⟩
  have E0 := Lib.hid ev0
  have EA := Lib.hid eva
  have EB := Lib.hid evb
  have G0 := Lib.hid hg0
  have GA := Lib.hid hga
  have GB := Lib.hid hgb
  have SA := Lib.hid (And.intro esa eka)
  have SB := Lib.hid (And.intro esb ekb)
  have HOK := Lib.hid hok
  have H1 : Hid (LB w.heap.size noQ w1 f F) := Lib.hid (h1.weak TB.out.size (fun _ h => h))
  have T1 : Hid (Below w.heap.size w w1) := Lib.hid (TB.out.trans (b1.mono TB.out.size))
  have KE1 := Lib.hid (KE0.out.below b1 KE0.out.lt)
  have heq := run_eqAg m0.id m0.u m0.v (m0.w : Int) (a := s0) (b := k0) (by omega) (by omega)
  have hne := run_neAg m0.id m0.u m0.v (m0.w : Int) (a := s0) (b := k0) (by omega) (by omega)
  have had := run_addC (a := sa) (b := ka) (c := sb) (d := kb) (by omega) (by omega)
  obtain ⟨nV, hnV⟩ : ∃ n : Nat, n = F.vs.length := ⟨_, rfl⟩
  obtain ⟨nE, hnE⟩ : ∃ n : Nat, n = F.es.length := ⟨_, rfl⟩
  have HNV := Lib.hid hnV
  have HNE := Lib.hid hnE
  clear h1 b1 hok ev0 eva evb hg0 hga hgb es0 ek0 esa eka esb ekb hnV hnE KE0 hF
  go_wp2_with fail
  refine ((alive_any w1)).mono ?_
  rintro e w2 ⟨rfl, b2⟩
  have H2 := Lib.hid (H1.out.below b2)
  have T2 := Lib.hid (T1.out.trans (b2.mono T1.out.size))
  have KE2 := Lib.hid (KE1.out.below b2 KE1.out.lt)
  clear b2
  go_wp2_with fail
  refine (bAlong _ noQ w2 f F H2.out T2.out.size u v HU.out HV.out).mono ?_
  rw [E0.out, ← G0.out]
  rintro e w3 ⟨rfl, h3, t3⟩
  have H3 := Lib.hid h3
  have T3 := Lib.hid (T2.out.trans t3.below)
  have KE3 := Lib.hid (t3.blk KE2.out notL_E)
  clear h3 t3
  obtain ⟨pA, hp⟩ : ∃ p, p = w3.heap.size := ⟨_, rfl⟩
  obtain ⟨w4, hw⟩ : ∃ W, W = w3.alloc (.cells #[.int .i64 m0.id, .int .i64 m0.u, .int .i64 m0.v, .int .i64 (m0.w : Int), .complex .f64 (fl s0) (fl k0)] 48) := ⟨_, rfl⟩
  have hb : Below w3.heap.size w3 w4 := by rw [hw]; exact (Below.refl _ _).alloc (Nat.le_refl _) _
  have KA4 : Hid (Blk w4 pA 48 #[.int .i64 m0.id, .int .i64 m0.u, .int .i64 m0.v, .int .i64 (m0.w : Int), .complex .f64 (fl s0) (fl k0)]) := Lib.hid (by rw [hw, hp]; exact Blk.new _ _ _)
  have H4 := Lib.hid (H3.out.below hb)
  have T4 := Lib.hid (T3.out.trans (hb.mono T3.out.size))
  have KE4 := Lib.hid (KE3.out.below hb KE3.out.lt)
  have HPA := Lib.hid hp
  have HWA := Lib.hid hw
  clear hp hw hb
  have e0 := KE4.out.cell 0
  have e1 := KE4.out.cell 1
  have e2 := KE4.out.cell 2
  have e3 := KE4.out.cell 3
  go_upto_region 5 with fail
  rw [← HWA.out]
  try simp only [← HPA.out]
  go_wp2_with fail
  clear e0 e1 e2 e3
  refine (bAlong _ noQ w4 f F H4.out T4.out.size u eu HU.out HEU.out).mono ?_
  rw [EA.out, ← GA.out]
  rintro e w5 ⟨rfl, h5, t5⟩
  have H5 := Lib.hid h5
  have T5 := Lib.hid (T4.out.trans t5.below)
  have KE5 := Lib.hid (t5.blk KE4.out notL_E)
  have KA5 := Lib.hid (t5.blk KA4.out notL_A)
  clear h5 t5
  obtain ⟨pB, hp⟩ : ∃ p, p = w5.heap.size := ⟨_, rfl⟩
  obtain ⟨w6, hw⟩ : ∃ W, W = w5.alloc (.cells #[.int .i64 ma.id, .int .i64 ma.u, .int .i64 ma.v, .int .i64 (ma.w : Int), .complex .f64 (fl sa) (fl ka)] 48) := ⟨_, rfl⟩
  have hb : Below w5.heap.size w5 w6 := by rw [hw]; exact (Below.refl _ _).alloc (Nat.le_refl _) _
  have KB6 : Hid (Blk w6 pB 48 #[.int .i64 ma.id, .int .i64 ma.u, .int .i64 ma.v, .int .i64 (ma.w : Int), .complex .f64 (fl sa) (fl ka)]) := Lib.hid (by rw [hw, hp]; exact Blk.new _ _ _)
  have H6 := Lib.hid (H5.out.below hb)
  have T6 := Lib.hid (T5.out.trans (hb.mono T5.out.size))
  have KE6 := Lib.hid (KE5.out.below hb KE5.out.lt)
  have KA6 := Lib.hid (KA5.out.below hb KA5.out.lt)
  have HPB := Lib.hid hp
  have HWB := Lib.hid hw
  clear hp hw hb
  have e0 := KE6.out.cell 0
  have e1 := KE6.out.cell 1
  have e2 := KE6.out.cell 2
  have e3 := KE6.out.cell 3
  go_upto_region 6 with fail
  rw [← HWB.out]
  try simp only [← HPB.out]
  go_wp2_with fail
  clear e0 e1 e2 e3
  refine (bAlong _ noQ w6 f F H6.out T6.out.size ev v HEV.out HV.out).mono ?_
  rw [EB.out, ← GB.out]
  rintro e w7 ⟨rfl, h7, t7⟩
  have H7 := Lib.hid h7
  have T7 := Lib.hid (T6.out.trans t7.below)
  have KE7 := Lib.hid (t7.blk KE6.out notL_E)
  have KA7 := Lib.hid (t7.blk KA6.out notL_A)
  have KB7 := Lib.hid (t7.blk KB6.out notL_A)
  clear h7 t7
  obtain ⟨pC, hp⟩ : ∃ p, p = w7.heap.size := ⟨_, rfl⟩
  obtain ⟨w8, hw⟩ : ∃ W, W = w7.alloc (.cells #[.int .i64 mb.id, .int .i64 mb.u, .int .i64 mb.v, .int .i64 (mb.w : Int), .complex .f64 (fl sb) (fl kb)] 48) := ⟨_, rfl⟩
  have hb : Below w7.heap.size w7 w8 := by rw [hw]; exact (Below.refl _ _).alloc (Nat.le_refl _) _
  have KC8 : Hid (Blk w8 pC 48 #[.int .i64 mb.id, .int .i64 mb.u, .int .i64 mb.v, .int .i64 (mb.w : Int), .complex .f64 (fl sb) (fl kb)]) := Lib.hid (by rw [hw, hp]; exact Blk.new _ _ _)
  have H8 := Lib.hid (H7.out.below hb)
  have T8 := Lib.hid (T7.out.trans (hb.mono T7.out.size))
  have KE8 := Lib.hid (KE7.out.below hb KE7.out.lt)
  have KA8 := Lib.hid (KA7.out.below hb KA7.out.lt)
  have KB8 := Lib.hid (KB7.out.below hb KB7.out.lt)
  have HPC := Lib.hid hp
  have HWC := Lib.hid hw
  clear hp hw hb
  go_wp2_with fail
  rw [← HWC.out]
  try simp only [← HPC.out]
  refine (bLen _ noQ w8 f F H8.out).mono ?_
  rw [← HNV.out, ← HNE.out]
  rintro e w9 ⟨rfl, b9⟩
  have H9 := Lib.hid (H8.out.below b9)
  have T9 := Lib.hid (T8.out.trans (b9.mono T8.out.size))
  have KE9 := Lib.hid (KE8.out.below b9 KE8.out.lt)
  have KA9 := Lib.hid (KA8.out.below b9 KA8.out.lt)
  have KB9 := Lib.hid (KB8.out.below b9 KB8.out.lt)
  have KC9 := Lib.hid (KC8.out.below b9 KC8.out.lt)
  clear b9
  have e0 := KE9.out.cell 0
  have e1 := KE9.out.cell 1
  have e2 := KE9.out.cell 2
  have e3 := KE9.out.cell 3
  go_wp2_with fail
  clear e0 e1 e2 e3
  by_cases hz : F.linkE id eu ev wt = 0
  · obtain ⟨wn, hwn⟩ : ∃ n : Nat, wt = (n : Int) := ⟨wt.toNat, by have := (linkE_ok hz).2.2.2.1; omega⟩
    subst hwn
    obtain ⟨hA, hfr⟩ := linkA_more hz
    have hwn : wn ≤ 1099511627776 := by have := (linkE_ok hz).2.2.2.2.1; omega
    have had1 := run_addC1 (a := sa + sb) (b := ka + kb) (c := wn) (by omega) (by omega)
    have hneC := run_neC (a := sa + sb + wn) (b := ka + kb + 1) (by omega) (by omega)
    obtain ⟨hcE, hcA⟩ := more_cut (F := F) (e := ⟨id, eu, ev, wn⟩) (linkE_ok hz).1 hfr.id
    have HZ := Lib.hid hz
    have HAA := Lib.hid hA
    have HFR := Lib.hid hfr
    have HCE := Lib.hid hcE
    have HCA := Lib.hid hcA
    clear hz hA hfr hcE hcA
    refine (bLink _ noQ w9 f F H9.out T9.out.size id eu ev (wn : Int) HI.out HEU.out HEV.out HWT.out).mono ?_
    rw [HAA.out, HZ.out]
    rintro e w10 ⟨rfl, h10, t10⟩
    have H10 := Lib.hid h10
    have T10 := Lib.hid (T9.out.trans t10.below)
    have KE10 := Lib.hid (t10.blk KE9.out notL_E)
    have KA10 := Lib.hid (t10.blk KA9.out notL_A)
    have KB10 := Lib.hid (t10.blk KB9.out notL_A)
    have KC10 := Lib.hid (t10.blk KC9.out notL_A)
    clear h10 t10
    have HOK2 := Lib.hid H10.out.ok
    obtain ⟨m1, s1, k1, -, es1, ek1, ls1, lk1, ev1⟩ := HOK2.out.along_open u v
    obtain ⟨g1, hg1⟩ : ∃ g, g = (F.more ⟨id, eu, ev, wn⟩).alongX u v := ⟨_, rfl⟩
    have E1 := Lib.hid ev1
    have G1 := Lib.hid hg1
    have SS := Lib.hid (And.intro es1 ek1)
    clear ev1 hg1 es1 ek1
    go_wp2_with fail
    by_cases hg0 : g0 = 0
    · subst hg0
      obtain ⟨q1, q2⟩ := HFR.out.along_old (LF.alongX_iff.1 G0.out.symm)
      rw [E0.out] at q2
      rw [← G0.out] at q1
      have Q1 := Lib.hid q1
      have Q2 := Lib.hid q2
      have hno : ¬ (ga = 0 ∧ gb = 0) := fun hh => by
        have j1 := LF.alongX_iff.1 (GA.out.symm.trans hh.1)
        have j2 := LF.alongX_iff.1 (GB.out.symm.trans hh.2)
        have j0 := LF.alongX_iff.1 G0.out.symm
        exact HFR.out.no (j1.2.2.symm.trans (j0.2.2.trans j2.2.2.symm))
      clear q1 q2
      refine (bAlong _ noQ w10 f (F.more ⟨id, eu, ev, wn⟩) H10.out T10.out.size u v HU.out HV.out).mono ?_
      rw [Q1.out, Q2.out]
      rintro e w11 ⟨rfl, h11, t11⟩
      have H11 := Lib.hid h11
      have T11 := Lib.hid (T10.out.trans t11.below)
      have KE11 := Lib.hid (t11.blk KE10.out notL_E)
      have KA11 := Lib.hid (t11.blk KA10.out notL_A)
      have KB11 := Lib.hid (t11.blk KB10.out notL_A)
      have KC11 := Lib.hid (t11.blk KC10.out notL_A)
      clear h11 t11
      obtain ⟨pD, hp⟩ : ∃ p, p = w11.heap.size := ⟨_, rfl⟩
      obtain ⟨w12, hw⟩ : ∃ W, W = w11.alloc (.cells #[.int .i64 m0.id, .int .i64 m0.u, .int .i64 m0.v, .int .i64 (m0.w : Int), .complex .f64 (fl s0) (fl k0)] 48) := ⟨_, rfl⟩
      have hb : Below w11.heap.size w11 w12 := by rw [hw]; exact (Below.refl _ _).alloc (Nat.le_refl _) _
      have KD12 : Hid (Blk w12 pD 48 #[.int .i64 m0.id, .int .i64 m0.u, .int .i64 m0.v, .int .i64 (m0.w : Int), .complex .f64 (fl s0) (fl k0)]) := Lib.hid (by rw [hw, hp]; exact Blk.new _ _ _)
      have H12 := Lib.hid (H11.out.below hb)
      have T12 := Lib.hid (T11.out.trans (hb.mono T11.out.size))
      have KE12 := Lib.hid (KE11.out.below hb KE11.out.lt)
      have KA12 := Lib.hid (KA11.out.below hb KA11.out.lt)
      have KB12 := Lib.hid (KB11.out.below hb KB11.out.lt)
      have KC12 := Lib.hid (KC11.out.below hb KC11.out.lt)
      have HPD := Lib.hid hp
      have HWD := Lib.hid hw
      clear hp hw hb
      have a0 := KA12.out.cell 0
      have a1 := KA12.out.cell 1
      have a2 := KA12.out.cell 2
      have a3 := KA12.out.cell 3
      have a4 := KA12.out.cell 4
      have d0 := KD12.out.cell 0
      have d1 := KD12.out.cell 1
      have d2 := KD12.out.cell 2
      have d3 := KD12.out.cell 3
      have d4 := KD12.out.cell 4
      have e0 := KE12.out.cell 0
      have e1 := KE12.out.cell 1
      have e2 := KE12.out.cell 2
      have e3 := KE12.out.cell 3
      go_upto_region 12 with fail
      rw [← HWD.out]
      try simp only [← HPD.out]
      by_cases ha : ga = 0
      · have hb : ¬ gb = 0 := fun hb => hno ⟨ha, hb⟩
        subst ha
        clear hno
        have hbb : (gb == 0) = false := by simpa using hb
        go_wp2_with fail
        clear a0 a1 a2 a3 a4 d0 d1 d2 d3 d4 e0 e1 e2 e3
        refine (bCut _ noQ w12 f (F.more ⟨id, eu, ev, wn⟩) H12.out T12.out.size id HI.out).mono ?_
        rw [HCE.out, HCA.out]
        rintro e w13 ⟨rfl, h13, t13⟩
        have H13 := Lib.hid h13
        have T13 := Lib.hid (T12.out.trans t13.below)
        have KE13 := Lib.hid (t13.blk KE12.out notL_E)
        have KA13 := Lib.hid (t13.blk KA12.out notL_A)
        have KB13 := Lib.hid (t13.blk KB12.out notL_A)
        have KC13 := Lib.hid (t13.blk KC12.out notL_A)
        have KD13 := Lib.hid (t13.blk KD12.out notL_A)
        clear h13 t13
        go_wp2_with fail
        refine (bAlong _ noQ w13 f F H13.out T13.out.size u v HU.out HV.out).mono ?_
        rw [E0.out, ← G0.out]
        rintro e w14 ⟨rfl, h14, t14⟩
        have H14 := Lib.hid h14
        have T14 := Lib.hid (T13.out.trans t14.below)
        have KE14 := Lib.hid (t14.blk KE13.out notL_E)
        have KA14 := Lib.hid (t14.blk KA13.out notL_A)
        have KB14 := Lib.hid (t14.blk KB13.out notL_A)
        have KC14 := Lib.hid (t14.blk KC13.out notL_A)
        have KD14 := Lib.hid (t14.blk KD13.out notL_A)
        clear h14 t14
        obtain ⟨pZ, hp⟩ : ∃ p, p = w14.heap.size := ⟨_, rfl⟩
        obtain ⟨w15, hw⟩ : ∃ W, W = w14.alloc (.cells #[.int .i64 m0.id, .int .i64 m0.u, .int .i64 m0.v, .int .i64 (m0.w : Int), .complex .f64 (fl s0) (fl k0)] 48) := ⟨_, rfl⟩
        have hb : Below w14.heap.size w14 w15 := by rw [hw]; exact (Below.refl _ _).alloc (Nat.le_refl _) _
        have KZ15 : Hid (Blk w15 pZ 48 #[.int .i64 m0.id, .int .i64 m0.u, .int .i64 m0.v, .int .i64 (m0.w : Int), .complex .f64 (fl s0) (fl k0)]) := Lib.hid (by rw [hw, hp]; exact Blk.new _ _ _)
        have H15 := Lib.hid (H14.out.below hb)
        have T15 := Lib.hid (T14.out.trans (hb.mono T14.out.size))
        have KE15 := Lib.hid (KE14.out.below hb KE14.out.lt)
        have KA15 := Lib.hid (KA14.out.below hb KA14.out.lt)
        have KB15 := Lib.hid (KB14.out.below hb KB14.out.lt)
        have KC15 := Lib.hid (KC14.out.below hb KC14.out.lt)
        have KD15 := Lib.hid (KD14.out.below hb KD14.out.lt)
        have HPZ := Lib.hid hp
        have HWZ := Lib.hid hw
        clear hp hw hb
        go_wp2_with fail
        rw [← HWZ.out]
        try simp only [← HPZ.out]
        refine (bLen _ noQ w15 f F H15.out).mono ?_
        rw [← HNV.out, ← HNE.out]
        rintro e w16 ⟨rfl, b16⟩
        have H16 := Lib.hid (H15.out.below b16)
        have T16 := Lib.hid (T15.out.trans (b16.mono T15.out.size))
        have KE16 := Lib.hid (KE15.out.below b16 KE15.out.lt)
        have KA16 := Lib.hid (KA15.out.below b16 KA15.out.lt)
        have KB16 := Lib.hid (KB15.out.below b16 KB15.out.lt)
        have KC16 := Lib.hid (KC15.out.below b16 KC15.out.lt)
        have KD16 := Lib.hid (KD15.out.below b16 KD15.out.lt)
        have KZ16 := Lib.hid (KZ15.out.below b16 KZ15.out.lt)
        clear b16
        have x0 := KA16.out.cell 0
        have x1 := KA16.out.cell 1
        have x2 := KA16.out.cell 2
        have x3 := KA16.out.cell 3
        have x4 := KA16.out.cell 4
        have z0 := KZ16.out.cell 0
        have z1 := KZ16.out.cell 1
        have z2 := KZ16.out.cell 2
        have z3 := KZ16.out.cell 3
        have z4 := KZ16.out.cell 4
        go_wp2_with fail
        go_ret
        exact ⟨rfl, T16.out⟩
      · clear hno
        have hba : (ga == 0) = false := by simpa using ha
        go_wp2_with fail
        clear a0 a1 a2 a3 a4 d0 d1 d2 d3 d4 e0 e1 e2 e3
        refine (bCut _ noQ w12 f (F.more ⟨id, eu, ev, wn⟩) H12.out T12.out.size id HI.out).mono ?_
        rw [HCE.out, HCA.out]
        rintro e w13 ⟨rfl, h13, t13⟩
        have H13 := Lib.hid h13
        have T13 := Lib.hid (T12.out.trans t13.below)
        have KE13 := Lib.hid (t13.blk KE12.out notL_E)
        have KA13 := Lib.hid (t13.blk KA12.out notL_A)
        have KB13 := Lib.hid (t13.blk KB12.out notL_A)
        have KC13 := Lib.hid (t13.blk KC12.out notL_A)
        have KD13 := Lib.hid (t13.blk KD12.out notL_A)
        clear h13 t13
        go_wp2_with fail
        refine (bAlong _ noQ w13 f F H13.out T13.out.size u v HU.out HV.out).mono ?_
        rw [E0.out, ← G0.out]
        rintro e w14 ⟨rfl, h14, t14⟩
        have H14 := Lib.hid h14
        have T14 := Lib.hid (T13.out.trans t14.below)
        have KE14 := Lib.hid (t14.blk KE13.out notL_E)
        have KA14 := Lib.hid (t14.blk KA13.out notL_A)
        have KB14 := Lib.hid (t14.blk KB13.out notL_A)
        have KC14 := Lib.hid (t14.blk KC13.out notL_A)
        have KD14 := Lib.hid (t14.blk KD13.out notL_A)
        clear h14 t14
        obtain ⟨pZ, hp⟩ : ∃ p, p = w14.heap.size := ⟨_, rfl⟩
        obtain ⟨w15, hw⟩ : ∃ W, W = w14.alloc (.cells #[.int .i64 m0.id, .int .i64 m0.u, .int .i64 m0.v, .int .i64 (m0.w : Int), .complex .f64 (fl s0) (fl k0)] 48) := ⟨_, rfl⟩
        have hb : Below w14.heap.size w14 w15 := by rw [hw]; exact (Below.refl _ _).alloc (Nat.le_refl _) _
        have KZ15 : Hid (Blk w15 pZ 48 #[.int .i64 m0.id, .int .i64 m0.u, .int .i64 m0.v, .int .i64 (m0.w : Int), .complex .f64 (fl s0) (fl k0)]) := Lib.hid (by rw [hw, hp]; exact Blk.new _ _ _)
        have H15 := Lib.hid (H14.out.below hb)
        have T15 := Lib.hid (T14.out.trans (hb.mono T14.out.size))
        have KE15 := Lib.hid (KE14.out.below hb KE14.out.lt)
        have KA15 := Lib.hid (KA14.out.below hb KA14.out.lt)
        have KB15 := Lib.hid (KB14.out.below hb KB14.out.lt)
        have KC15 := Lib.hid (KC14.out.below hb KC14.out.lt)
        have KD15 := Lib.hid (KD14.out.below hb KD14.out.lt)
        have HPZ := Lib.hid hp
        have HWZ := Lib.hid hw
        clear hp hw hb
        go_wp2_with fail
        rw [← HWZ.out]
        try simp only [← HPZ.out]
        refine (bLen _ noQ w15 f F H15.out).mono ?_
        rw [← HNV.out, ← HNE.out]
        rintro e w16 ⟨rfl, b16⟩
        have H16 := Lib.hid (H15.out.below b16)
        have T16 := Lib.hid (T15.out.trans (b16.mono T15.out.size))
        have KE16 := Lib.hid (KE15.out.below b16 KE15.out.lt)
        have KA16 := Lib.hid (KA15.out.below b16 KA15.out.lt)
        have KB16 := Lib.hid (KB15.out.below b16 KB15.out.lt)
        have KC16 := Lib.hid (KC15.out.below b16 KC15.out.lt)
        have KD16 := Lib.hid (KD15.out.below b16 KD15.out.lt)
        have KZ16 := Lib.hid (KZ15.out.below b16 KZ15.out.lt)
        clear b16
        have x0 := KA16.out.cell 0
        have x1 := KA16.out.cell 1
        have x2 := KA16.out.cell 2
        have x3 := KA16.out.cell 3
        have x4 := KA16.out.cell 4
        have z0 := KZ16.out.cell 0
        have z1 := KZ16.out.cell 1
        have z2 := KZ16.out.cell 2
        have z3 := KZ16.out.cell 3
        have z4 := KZ16.out.cell 4
        go_wp2_with fail
        go_ret
        exact ⟨rfl, T16.out⟩
    · have hb0 : (g0 == 0) = false := by simpa using hg0
      by_cases ha : ga = 0
      · by_cases hb : gb = 0
        · subst ha hb
          obtain ⟨t1, t2, t3⟩ := HFR.out.path_new HOK.out HOK2.out (LF.alongX_iff.1 GA.out.symm) (LF.alongX_iff.1 GB.out.symm)
          have e1 : g1 = 0 := G1.out.trans (LF.alongX_iff.2 t1)
          have e2 : s1 = sa + sb + wn := by rw [SS.out.1, t2, SA.out.1, SB.out.1]
          have e3 : k1 = ka + kb + 1 := by rw [SS.out.2, t3, SA.out.2, SB.out.2]
          subst e1 e2 e3
          clear t1 t2 t3
          refine (bAlong _ noQ w10 f (F.more ⟨id, eu, ev, wn⟩) H10.out T10.out.size u v HU.out HV.out).mono ?_
          rw [E1.out, ← G1.out]
          rintro e w11 ⟨rfl, h11, t11⟩
          have H11 := Lib.hid h11
          have T11 := Lib.hid (T10.out.trans t11.below)
          have KE11 := Lib.hid (t11.blk KE10.out notL_E)
          have KA11 := Lib.hid (t11.blk KA10.out notL_A)
          have KB11 := Lib.hid (t11.blk KB10.out notL_A)
          have KC11 := Lib.hid (t11.blk KC10.out notL_A)
          clear h11 t11
          obtain ⟨pD, hp⟩ : ∃ p, p = w11.heap.size := ⟨_, rfl⟩
          obtain ⟨w12, hw⟩ : ∃ W, W = w11.alloc (.cells #[.int .i64 m1.id, .int .i64 m1.u, .int .i64 m1.v, .int .i64 (m1.w : Int), .complex .f64 (fl (sa + sb + wn)) (fl (ka + kb + 1))] 48) := ⟨_, rfl⟩
          have hb : Below w11.heap.size w11 w12 := by rw [hw]; exact (Below.refl _ _).alloc (Nat.le_refl _) _
          have KD12 : Hid (Blk w12 pD 48 #[.int .i64 m1.id, .int .i64 m1.u, .int .i64 m1.v, .int .i64 (m1.w : Int), .complex .f64 (fl (sa + sb + wn)) (fl (ka + kb + 1))]) := Lib.hid (by rw [hw, hp]; exact Blk.new _ _ _)
          have H12 := Lib.hid (H11.out.below hb)
          have T12 := Lib.hid (T11.out.trans (hb.mono T11.out.size))
          have KE12 := Lib.hid (KE11.out.below hb KE11.out.lt)
          have KA12 := Lib.hid (KA11.out.below hb KA11.out.lt)
          have KB12 := Lib.hid (KB11.out.below hb KB11.out.lt)
          have KC12 := Lib.hid (KC11.out.below hb KC11.out.lt)
          have HPD := Lib.hid hp
          have HWD := Lib.hid hw
          clear hp hw hb
          have a0 := KB12.out.cell 0
          have a1 := KB12.out.cell 1
          have a2 := KB12.out.cell 2
          have a3 := KB12.out.cell 3
          have a4 := KB12.out.cell 4
          have b0 := KC12.out.cell 0
          have b1 := KC12.out.cell 1
          have b2 := KC12.out.cell 2
          have b3 := KC12.out.cell 3
          have b4 := KC12.out.cell 4
          have d0 := KD12.out.cell 0
          have d1 := KD12.out.cell 1
          have d2 := KD12.out.cell 2
          have d3 := KD12.out.cell 3
          have d4 := KD12.out.cell 4
          have e0 := KE12.out.cell 0
          have e1 := KE12.out.cell 1
          have e2 := KE12.out.cell 2
          have e3 := KE12.out.cell 3
          go_upto_region 12 with fail
          rw [← HWD.out]
          try simp only [← HPD.out]
          go_wp2_with fail
          clear a0 a1 a2 a3 a4 b0 b1 b2 b3 b4 d0 d1 d2 d3 d4 e0 e1 e2 e3
          refine (bCut _ noQ w12 f (F.more ⟨id, eu, ev, wn⟩) H12.out T12.out.size id HI.out).mono ?_
          rw [HCE.out, HCA.out]
          rintro e w13 ⟨rfl, h13, t13⟩
          have H13 := Lib.hid h13
          have T13 := Lib.hid (T12.out.trans t13.below)
          have KE13 := Lib.hid (t13.blk KE12.out notL_E)
          have KA13 := Lib.hid (t13.blk KA12.out notL_A)
          have KB13 := Lib.hid (t13.blk KB12.out notL_A)
          have KC13 := Lib.hid (t13.blk KC12.out notL_A)
          have KD13 := Lib.hid (t13.blk KD12.out notL_A)
          clear h13 t13
          go_wp2_with fail
          refine (bAlong _ noQ w13 f F H13.out T13.out.size u v HU.out HV.out).mono ?_
          rw [E0.out, ← G0.out]
          rintro e w14 ⟨rfl, h14, t14⟩
          have H14 := Lib.hid h14
          have T14 := Lib.hid (T13.out.trans t14.below)
          have KE14 := Lib.hid (t14.blk KE13.out notL_E)
          have KA14 := Lib.hid (t14.blk KA13.out notL_A)
          have KB14 := Lib.hid (t14.blk KB13.out notL_A)
          have KC14 := Lib.hid (t14.blk KC13.out notL_A)
          have KD14 := Lib.hid (t14.blk KD13.out notL_A)
          clear h14 t14
          obtain ⟨pZ, hp⟩ : ∃ p, p = w14.heap.size := ⟨_, rfl⟩
          obtain ⟨w15, hw⟩ : ∃ W, W = w14.alloc (.cells #[.int .i64 m0.id, .int .i64 m0.u, .int .i64 m0.v, .int .i64 (m0.w : Int), .complex .f64 (fl s0) (fl k0)] 48) := ⟨_, rfl⟩
          have hb : Below w14.heap.size w14 w15 := by rw [hw]; exact (Below.refl _ _).alloc (Nat.le_refl _) _
          have KZ15 : Hid (Blk w15 pZ 48 #[.int .i64 m0.id, .int .i64 m0.u, .int .i64 m0.v, .int .i64 (m0.w : Int), .complex .f64 (fl s0) (fl k0)]) := Lib.hid (by rw [hw, hp]; exact Blk.new _ _ _)
          have H15 := Lib.hid (H14.out.below hb)
          have T15 := Lib.hid (T14.out.trans (hb.mono T14.out.size))
          have KE15 := Lib.hid (KE14.out.below hb KE14.out.lt)
          have KA15 := Lib.hid (KA14.out.below hb KA14.out.lt)
          have KB15 := Lib.hid (KB14.out.below hb KB14.out.lt)
          have KC15 := Lib.hid (KC14.out.below hb KC14.out.lt)
          have KD15 := Lib.hid (KD14.out.below hb KD14.out.lt)
          have HPZ := Lib.hid hp
          have HWZ := Lib.hid hw
          clear hp hw hb
          go_wp2_with fail
          rw [← HWZ.out]
          try simp only [← HPZ.out]
          refine (bLen _ noQ w15 f F H15.out).mono ?_
          rw [← HNV.out, ← HNE.out]
          rintro e w16 ⟨rfl, b16⟩
          have H16 := Lib.hid (H15.out.below b16)
          have T16 := Lib.hid (T15.out.trans (b16.mono T15.out.size))
          have KE16 := Lib.hid (KE15.out.below b16 KE15.out.lt)
          have KA16 := Lib.hid (KA15.out.below b16 KA15.out.lt)
          have KB16 := Lib.hid (KB15.out.below b16 KB15.out.lt)
          have KC16 := Lib.hid (KC15.out.below b16 KC15.out.lt)
          have KD16 := Lib.hid (KD15.out.below b16 KD15.out.lt)
          have KZ16 := Lib.hid (KZ15.out.below b16 KZ15.out.lt)
          clear b16
          have x0 := KA16.out.cell 0
          have x1 := KA16.out.cell 1
          have x2 := KA16.out.cell 2
          have x3 := KA16.out.cell 3
          have x4 := KA16.out.cell 4
          have z0 := KZ16.out.cell 0
          have z1 := KZ16.out.cell 1
          have z2 := KZ16.out.cell 2
          have z3 := KZ16.out.cell 3
          have z4 := KZ16.out.cell 4
          go_wp2_with fail
          go_ret
          exact ⟨rfl, T16.out⟩
        · subst ha
          refine (bAlong _ noQ w10 f (F.more ⟨id, eu, ev, wn⟩) H10.out T10.out.size u v HU.out HV.out).mono ?_
          rw [E1.out, ← G1.out]
          rintro e w11 ⟨rfl, h11, t11⟩
          have H11 := Lib.hid h11
          have T11 := Lib.hid (T10.out.trans t11.below)
          have KE11 := Lib.hid (t11.blk KE10.out notL_E)
          have KA11 := Lib.hid (t11.blk KA10.out notL_A)
          have KB11 := Lib.hid (t11.blk KB10.out notL_A)
          have KC11 := Lib.hid (t11.blk KC10.out notL_A)
          clear h11 t11
          obtain ⟨pD, hp⟩ : ∃ p, p = w11.heap.size := ⟨_, rfl⟩
          obtain ⟨w12, hw⟩ : ∃ W, W = w11.alloc (.cells #[.int .i64 m1.id, .int .i64 m1.u, .int .i64 m1.v, .int .i64 (m1.w : Int), .complex .f64 (fl s1) (fl k1)] 48) := ⟨_, rfl⟩
          have hb : Below w11.heap.size w11 w12 := by rw [hw]; exact (Below.refl _ _).alloc (Nat.le_refl _) _
          have KD12 : Hid (Blk w12 pD 48 #[.int .i64 m1.id, .int .i64 m1.u, .int .i64 m1.v, .int .i64 (m1.w : Int), .complex .f64 (fl s1) (fl k1)]) := Lib.hid (by rw [hw, hp]; exact Blk.new _ _ _)
          have H12 := Lib.hid (H11.out.below hb)
          have T12 := Lib.hid (T11.out.trans (hb.mono T11.out.size))
          have KE12 := Lib.hid (KE11.out.below hb KE11.out.lt)
          have KA12 := Lib.hid (KA11.out.below hb KA11.out.lt)
          have KB12 := Lib.hid (KB11.out.below hb KB11.out.lt)
          have KC12 := Lib.hid (KC11.out.below hb KC11.out.lt)
          have HPD := Lib.hid hp
          have HWD := Lib.hid hw
          clear hp hw hb
          have e0 := KE12.out.cell 0
          have e1 := KE12.out.cell 1
          have e2 := KE12.out.cell 2
          have e3 := KE12.out.cell 3
          go_upto_region 12 with fail
          rw [← HWD.out]
          try simp only [← HPD.out]
          have hbb : (gb == 0) = false := by simpa using hb
          go_wp2_with fail
          clear e0 e1 e2 e3
          refine (bCut _ noQ w12 f (F.more ⟨id, eu, ev, wn⟩) H12.out T12.out.size id HI.out).mono ?_
          rw [HCE.out, HCA.out]
          rintro e w13 ⟨rfl, h13, t13⟩
          have H13 := Lib.hid h13
          have T13 := Lib.hid (T12.out.trans t13.below)
          have KE13 := Lib.hid (t13.blk KE12.out notL_E)
          have KA13 := Lib.hid (t13.blk KA12.out notL_A)
          have KB13 := Lib.hid (t13.blk KB12.out notL_A)
          have KC13 := Lib.hid (t13.blk KC12.out notL_A)
          have KD13 := Lib.hid (t13.blk KD12.out notL_A)
          clear h13 t13
          go_wp2_with fail
          refine (bAlong _ noQ w13 f F H13.out T13.out.size u v HU.out HV.out).mono ?_
          rw [E0.out, ← G0.out]
          rintro e w14 ⟨rfl, h14, t14⟩
          have H14 := Lib.hid h14
          have T14 := Lib.hid (T13.out.trans t14.below)
          have KE14 := Lib.hid (t14.blk KE13.out notL_E)
          have KA14 := Lib.hid (t14.blk KA13.out notL_A)
          have KB14 := Lib.hid (t14.blk KB13.out notL_A)
          have KC14 := Lib.hid (t14.blk KC13.out notL_A)
          have KD14 := Lib.hid (t14.blk KD13.out notL_A)
          clear h14 t14
          obtain ⟨pZ, hp⟩ : ∃ p, p = w14.heap.size := ⟨_, rfl⟩
          obtain ⟨w15, hw⟩ : ∃ W, W = w14.alloc (.cells #[.int .i64 m0.id, .int .i64 m0.u, .int .i64 m0.v, .int .i64 (m0.w : Int), .complex .f64 (fl s0) (fl k0)] 48) := ⟨_, rfl⟩
          have hb : Below w14.heap.size w14 w15 := by rw [hw]; exact (Below.refl _ _).alloc (Nat.le_refl _) _
          have KZ15 : Hid (Blk w15 pZ 48 #[.int .i64 m0.id, .int .i64 m0.u, .int .i64 m0.v, .int .i64 (m0.w : Int), .complex .f64 (fl s0) (fl k0)]) := Lib.hid (by rw [hw, hp]; exact Blk.new _ _ _)
          have H15 := Lib.hid (H14.out.below hb)
          have T15 := Lib.hid (T14.out.trans (hb.mono T14.out.size))
          have KE15 := Lib.hid (KE14.out.below hb KE14.out.lt)
          have KA15 := Lib.hid (KA14.out.below hb KA14.out.lt)
          have KB15 := Lib.hid (KB14.out.below hb KB14.out.lt)
          have KC15 := Lib.hid (KC14.out.below hb KC14.out.lt)
          have KD15 := Lib.hid (KD14.out.below hb KD14.out.lt)
          have HPZ := Lib.hid hp
          have HWZ := Lib.hid hw
          clear hp hw hb
          go_wp2_with fail
          rw [← HWZ.out]
          try simp only [← HPZ.out]
          refine (bLen _ noQ w15 f F H15.out).mono ?_
          rw [← HNV.out, ← HNE.out]
          rintro e w16 ⟨rfl, b16⟩
          have H16 := Lib.hid (H15.out.below b16)
          have T16 := Lib.hid (T15.out.trans (b16.mono T15.out.size))
          have KE16 := Lib.hid (KE15.out.below b16 KE15.out.lt)
          have KA16 := Lib.hid (KA15.out.below b16 KA15.out.lt)
          have KB16 := Lib.hid (KB15.out.below b16 KB15.out.lt)
          have KC16 := Lib.hid (KC15.out.below b16 KC15.out.lt)
          have KD16 := Lib.hid (KD15.out.below b16 KD15.out.lt)
          have KZ16 := Lib.hid (KZ15.out.below b16 KZ15.out.lt)
          clear b16
          have x0 := KA16.out.cell 0
          have x1 := KA16.out.cell 1
          have x2 := KA16.out.cell 2
          have x3 := KA16.out.cell 3
          have x4 := KA16.out.cell 4
          have z0 := KZ16.out.cell 0
          have z1 := KZ16.out.cell 1
          have z2 := KZ16.out.cell 2
          have z3 := KZ16.out.cell 3
          have z4 := KZ16.out.cell 4
          go_wp2_with fail
          go_ret
          exact ⟨rfl, T16.out⟩
      · refine (bAlong _ noQ w10 f (F.more ⟨id, eu, ev, wn⟩) H10.out T10.out.size u v HU.out HV.out).mono ?_
        rw [E1.out, ← G1.out]
        rintro e w11 ⟨rfl, h11, t11⟩
        have H11 := Lib.hid h11
        have T11 := Lib.hid (T10.out.trans t11.below)
        have KE11 := Lib.hid (t11.blk KE10.out notL_E)
        have KA11 := Lib.hid (t11.blk KA10.out notL_A)
        have KB11 := Lib.hid (t11.blk KB10.out notL_A)
        have KC11 := Lib.hid (t11.blk KC10.out notL_A)
        clear h11 t11
        obtain ⟨pD, hp⟩ : ∃ p, p = w11.heap.size := ⟨_, rfl⟩
        obtain ⟨w12, hw⟩ : ∃ W, W = w11.alloc (.cells #[.int .i64 m1.id, .int .i64 m1.u, .int .i64 m1.v, .int .i64 (m1.w : Int), .complex .f64 (fl s1) (fl k1)] 48) := ⟨_, rfl⟩
        have hb : Below w11.heap.size w11 w12 := by rw [hw]; exact (Below.refl _ _).alloc (Nat.le_refl _) _
        have KD12 : Hid (Blk w12 pD 48 #[.int .i64 m1.id, .int .i64 m1.u, .int .i64 m1.v, .int .i64 (m1.w : Int), .complex .f64 (fl s1) (fl k1)]) := Lib.hid (by rw [hw, hp]; exact Blk.new _ _ _)
        have H12 := Lib.hid (H11.out.below hb)
        have T12 := Lib.hid (T11.out.trans (hb.mono T11.out.size))
        have KE12 := Lib.hid (KE11.out.below hb KE11.out.lt)
        have KA12 := Lib.hid (KA11.out.below hb KA11.out.lt)
        have KB12 := Lib.hid (KB11.out.below hb KB11.out.lt)
        have KC12 := Lib.hid (KC11.out.below hb KC11.out.lt)
        have HPD := Lib.hid hp
        have HWD := Lib.hid hw
        clear hp hw hb
        have e0 := KE12.out.cell 0
        have e1 := KE12.out.cell 1
        have e2 := KE12.out.cell 2
        have e3 := KE12.out.cell 3
        go_upto_region 12 with fail
        rw [← HWD.out]
        try simp only [← HPD.out]
        have hba : (ga == 0) = false := by simpa using ha
        go_wp2_with fail
        clear e0 e1 e2 e3
        refine (bCut _ noQ w12 f (F.more ⟨id, eu, ev, wn⟩) H12.out T12.out.size id HI.out).mono ?_
        rw [HCE.out, HCA.out]
        rintro e w13 ⟨rfl, h13, t13⟩
        have H13 := Lib.hid h13
        have T13 := Lib.hid (T12.out.trans t13.below)
        have KE13 := Lib.hid (t13.blk KE12.out notL_E)
        have KA13 := Lib.hid (t13.blk KA12.out notL_A)
        have KB13 := Lib.hid (t13.blk KB12.out notL_A)
        have KC13 := Lib.hid (t13.blk KC12.out notL_A)
        have KD13 := Lib.hid (t13.blk KD12.out notL_A)
        clear h13 t13
        go_wp2_with fail
        refine (bAlong _ noQ w13 f F H13.out T13.out.size u v HU.out HV.out).mono ?_
        rw [E0.out, ← G0.out]
        rintro e w14 ⟨rfl, h14, t14⟩
        have H14 := Lib.hid h14
        have T14 := Lib.hid (T13.out.trans t14.below)
        have KE14 := Lib.hid (t14.blk KE13.out notL_E)
        have KA14 := Lib.hid (t14.blk KA13.out notL_A)
        have KB14 := Lib.hid (t14.blk KB13.out notL_A)
        have KC14 := Lib.hid (t14.blk KC13.out notL_A)
        have KD14 := Lib.hid (t14.blk KD13.out notL_A)
        clear h14 t14
        obtain ⟨pZ, hp⟩ : ∃ p, p = w14.heap.size := ⟨_, rfl⟩
        obtain ⟨w15, hw⟩ : ∃ W, W = w14.alloc (.cells #[.int .i64 m0.id, .int .i64 m0.u, .int .i64 m0.v, .int .i64 (m0.w : Int), .complex .f64 (fl s0) (fl k0)] 48) := ⟨_, rfl⟩
        have hb : Below w14.heap.size w14 w15 := by rw [hw]; exact (Below.refl _ _).alloc (Nat.le_refl _) _
        have KZ15 : Hid (Blk w15 pZ 48 #[.int .i64 m0.id, .int .i64 m0.u, .int .i64 m0.v, .int .i64 (m0.w : Int), .complex .f64 (fl s0) (fl k0)]) := Lib.hid (by rw [hw, hp]; exact Blk.new _ _ _)
        have H15 := Lib.hid (H14.out.below hb)
        have T15 := Lib.hid (T14.out.trans (hb.mono T14.out.size))
        have KE15 := Lib.hid (KE14.out.below hb KE14.out.lt)
        have KA15 := Lib.hid (KA14.out.below hb KA14.out.lt)
        have KB15 := Lib.hid (KB14.out.below hb KB14.out.lt)
        have KC15 := Lib.hid (KC14.out.below hb KC14.out.lt)
        have KD15 := Lib.hid (KD14.out.below hb KD14.out.lt)
        have HPZ := Lib.hid hp
        have HWZ := Lib.hid hw
        clear hp hw hb
        go_wp2_with fail
        rw [← HWZ.out]
        try simp only [← HPZ.out]
        refine (bLen _ noQ w15 f F H15.out).mono ?_
        rw [← HNV.out, ← HNE.out]
        rintro e w16 ⟨rfl, b16⟩
        have H16 := Lib.hid (H15.out.below b16)
        have T16 := Lib.hid (T15.out.trans (b16.mono T15.out.size))
        have KE16 := Lib.hid (KE15.out.below b16 KE15.out.lt)
        have KA16 := Lib.hid (KA15.out.below b16 KA15.out.lt)
        have KB16 := Lib.hid (KB15.out.below b16 KB15.out.lt)
        have KC16 := Lib.hid (KC15.out.below b16 KC15.out.lt)
        have KD16 := Lib.hid (KD15.out.below b16 KD15.out.lt)
        have KZ16 := Lib.hid (KZ15.out.below b16 KZ15.out.lt)
        clear b16
        have x0 := KA16.out.cell 0
        have x1 := KA16.out.cell 1
        have x2 := KA16.out.cell 2
        have x3 := KA16.out.cell 3
        have x4 := KA16.out.cell 4
        have z0 := KZ16.out.cell 0
        have z1 := KZ16.out.cell 1
        have z2 := KZ16.out.cell 2
        have z3 := KZ16.out.cell 3
        have z4 := KZ16.out.cell 4
        go_wp2_with fail
        go_ret
        exact ⟨rfl, T16.out⟩
  · have hA : F.linkA id eu ev wt = F := by unfold LF.linkA; rw [if_neg hz]
    obtain ⟨er, her⟩ : ∃ x, x = F.linkE id eu ev wt := ⟨_, rfl⟩
    have hb0 : (er != 0) = true := by rw [her]; simpa using hz
    have her' : ¬ er = 0 := by rw [her]; exact hz
    have HER := Lib.hid her
    have HAA := Lib.hid hA
    clear hz her hA
    refine (bLink _ noQ w9 f F H9.out T9.out.size id eu ev wt HI.out HEU.out HEV.out HWT.out).mono ?_
    rw [HAA.out, ← HER.out]
    rintro e w10 ⟨rfl, h10, t10⟩
    have H10 := Lib.hid h10
    have T10 := Lib.hid (T9.out.trans t10.below)
    have KE10 := Lib.hid (t10.blk KE9.out notL_E)
    have KA10 := Lib.hid (t10.blk KA9.out notL_A)
    have KB10 := Lib.hid (t10.blk KB9.out notL_A)
    have KC10 := Lib.hid (t10.blk KC9.out notL_A)
    clear h10 t10
    go_wp2_with fail
    refine (bAlong _ noQ w10 f F H10.out T10.out.size u v HU.out HV.out).mono ?_
    rw [E0.out, ← G0.out]
    rintro e w11 ⟨rfl, h11, t11⟩
    have H11 := Lib.hid h11
    have T11 := Lib.hid (T10.out.trans t11.below)
    have KE11 := Lib.hid (t11.blk KE10.out notL_E)
    have KA11 := Lib.hid (t11.blk KA10.out notL_A)
    have KB11 := Lib.hid (t11.blk KB10.out notL_A)
    have KC11 := Lib.hid (t11.blk KC10.out notL_A)
    clear h11 t11
    obtain ⟨pD, hp⟩ : ∃ p, p = w11.heap.size := ⟨_, rfl⟩
    obtain ⟨w12, hw⟩ : ∃ W, W = w11.alloc (.cells #[.int .i64 m0.id, .int .i64 m0.u, .int .i64 m0.v, .int .i64 (m0.w : Int), .complex .f64 (fl s0) (fl k0)] 48) := ⟨_, rfl⟩
    have hb : Below w11.heap.size w11 w12 := by rw [hw]; exact (Below.refl _ _).alloc (Nat.le_refl _) _
    have KD12 : Hid (Blk w12 pD 48 #[.int .i64 m0.id, .int .i64 m0.u, .int .i64 m0.v, .int .i64 (m0.w : Int), .complex .f64 (fl s0) (fl k0)]) := Lib.hid (by rw [hw, hp]; exact Blk.new _ _ _)
    have H12 := Lib.hid (H11.out.below hb)
    have T12 := Lib.hid (T11.out.trans (hb.mono T11.out.size))
    have KE12 := Lib.hid (KE11.out.below hb KE11.out.lt)
    have KA12 := Lib.hid (KA11.out.below hb KA11.out.lt)
    have KB12 := Lib.hid (KB11.out.below hb KB11.out.lt)
    have KC12 := Lib.hid (KC11.out.below hb KC11.out.lt)
    have HPD := Lib.hid hp
    have HWD := Lib.hid hw
    clear hp hw hb
    have a0 := KA12.out.cell 0
    have a1 := KA12.out.cell 1
    have a2 := KA12.out.cell 2
    have a3 := KA12.out.cell 3
    have a4 := KA12.out.cell 4
    have d0 := KD12.out.cell 0
    have d1 := KD12.out.cell 1
    have d2 := KD12.out.cell 2
    have d3 := KD12.out.cell 3
    have d4 := KD12.out.cell 4
    go_upto_region 10 with fail
    rw [← HWD.out]
    try simp only [← HPD.out]
    go_wp2_with fail
    go_ret
    exact ⟨rfl, T12.out⟩

end Go.Proofs.Ytlhkajlkapoabaa
