/-
  The walk of skeinlaw01.NumOrder.
-/
import Derived.Test.YtaboknjokdgjeaaN8
import Derived.Test.YtaboknjokdgjeaaN10
import Derived.Test.YtaboknjokdgjeaaQ1
import Derived.Test.YtaboknjokdgjeaaC3
namespace Go.Proofs.Ytaboknjokdgjeaa
open Go.RowKit
set_option linter.unusedVariables false

theorem run_eq8 (W : World) (d : Nat) (a0 a1 a2 a3 a4 a5 a6 a7 b0 b1 b2 b3 b4 b5 b6 b7 : Int) : (Op.equalIn (d + 2) 50 (.agg #[.int .u8 a0, .int .u8 a1, .int .u8 a2, .int .u8 a3, .int .u8 a4, .int .u8 a5, .int .u8 a6, .int .u8 a7]) (.agg #[.int .u8 b0, .int .u8 b1, .int .u8 b2, .int .u8 b3, .int .u8 b4, .int .u8 b5, .int .u8 b6, .int .u8 b7])).run Try.prog W =
    .ok (a0 == b0 && (a1 == b1 && (a2 == b2 && (a3 == b3 && (a4 == b4 && (a5 == b5 && (a6 == b6 && a7 == b7))))))) W := by
  have h0 := fun (x y : Int) (w : World) => run_equalIn_int (P := Try.prog) w d 5 .u8 .u8 x y Try.underlying5
  rw [Op.equalIn]
  simp only [run_underlying Try.underlying50, Sem.run_bind, Result.andThen_ok]
  simp [go_sem, h0, Std.Legacy.Range.forIn_eq_forIn_range', List.range']
  by_cases e0 : a0 = b0
  · by_cases e1 : a1 = b1
    · by_cases e2 : a2 = b2
      · by_cases e3 : a3 = b3
        · by_cases e4 : a4 = b4 <;> by_cases e5 : a5 = b5 <;> by_cases e6 : a6 = b6 <;> by_cases e7 : a7 = b7 <;> simp [e0, e1, e2, e3, e4, e5, e6, e7]
        · simp [e0, e1, e2, e3]
      · simp [e0, e1, e2]
    · simp [e0, e1]
  · simp [e0]
theorem run_same8 (W : World) (x0 x1 x2 x3 x4 x5 x6 x7 : Nat) : (Op.equalIn 10000 50 (aggB x0 x1 x2 x3 x4 x5 x6 x7) (aggB x0 x1 x2 x3 x4 x5 x6 x7)).run Try.prog W = .ok true W := by
  unfold aggB
  rw [show (10000 : Nat) = 9998 + 2 from rfl, run_eq8]
  simp

theorem place_cast (v : Int) (h1 : -9223372036854775808 ≤ v) : (place v : Int) - 9223372036854775808 = v := by unfold place; omega
theorem place_lt (v : Int) (h1 : -9223372036854775808 ≤ v) (h2 : v ≤ 9223372036854775807) : place v < 18446744073709551616 := by unfold place; omega
theorem place_of (n : Nat) : place ((n : Int) - 9223372036854775808) = n := by unfold place; omega

/-- Big of the number of eight bytes is these bytes. -/
theorem big_back (x0 x1 x2 x3 x4 x5 x6 x7 : Nat) (w : World) (hx : ∀ x ∈ [x0, x1, x2, x3, x4, x5, x6, x7], x < 256) (v : Int) (hv : (val [x0, x1, x2, x3, x4, x5, x6, x7] : Nat) - 9223372036854775808 = v) :
    Calls Try.prog 32 #[.int .i64 v] w fun e w' => e = .returned (aggB x0 x1 x2 x3 x4 x5 x6 x7) ∧ ∃ o, w' = w.alloc o := by
  have h8 := val_lt _ hx
  have p8 : (256 : Nat) ^ 8 = 18446744073709551616 := by decide +kernel
  rw [show [x0, x1, x2, x3, x4, x5, x6, x7].length = 8 from rfl, p8] at h8
  have hb := bigL_val x0 x1 x2 x3 x4 x5 x6 x7 hx
  obtain ⟨n, hn⟩ : ∃ n, n = val [x0, x1, x2, x3, x4, x5, x6, x7] := ⟨_, rfl⟩
  rw [← hn] at h8 hb hv
  unfold bigL at hb
  injection hb with e0 hb
  injection hb with e1 hb
  injection hb with e2 hb
  injection hb with e3 hb
  injection hb with e4 hb
  injection hb with e5 hb
  injection hb with e6 hb
  injection hb with e7 hb
  refine (big_any v w (by omega) (by omega) n (by show _ = _; rw [← hv]; exact place_of n)).mono ?_
  rintro e w' ⟨rfl, ho⟩
  refine ⟨?_, ho⟩
  rw [e0, e1, e2, e3, e4, e5, e6, e7]
  rfl

/-- Big of a number, and UnBig of what it gives, told of eight named bytes. -/
theorem big_named (v : Int) (w : World) (h1 : -9223372036854775808 ≤ v) (h2 : v ≤ 9223372036854775807) (x0 x1 x2 x3 x4 x5 x6 x7 : Nat) (hx : Hid (bigL (place v) = [x0, x1, x2, x3, x4, x5, x6, x7])) :
    Calls Try.prog 32 #[.int .i64 v] w fun e w' => e = .returned (aggB x0 x1 x2 x3 x4 x5 x6 x7) ∧ ∃ o, w' = w.alloc o := by
  have hb := hx.out
  refine big_back x0 x1 x2 x3 x4 x5 x6 x7 w (by rw [← hb]; exact bigL_lt _) v ?_
  rw [← hb, val_bigL _ (place_lt v h1 h2)]
  exact place_cast v h1
theorem unbig_named (v : Int) (w : World) (h1 : -9223372036854775808 ≤ v) (h2 : v ≤ 9223372036854775807) (x0 x1 x2 x3 x4 x5 x6 x7 : Nat) (hx : Hid (bigL (place v) = [x0, x1, x2, x3, x4, x5, x6, x7])) :
    Calls Try.prog 34 #[aggB x0 x1 x2 x3 x4 x5 x6 x7] w fun e w' => e = .returned (.int .i64 v) ∧ ∃ o, w' = w.alloc o := by
  have hb := hx.out
  refine (unbig_any x0 x1 x2 x3 x4 x5 x6 x7 w (by rw [← hb]; exact bigL_lt _)).mono ?_
  rintro e w' ⟨rfl, ho⟩
  refine ⟨?_, ho⟩
  rw [← hb, val_bigL _ (place_lt v h1 h2), place_cast v h1]

theorem unbig_val (c0 c1 c2 c3 c4 c5 c6 c7 : Nat) (w : World) (hc : ∀ x ∈ [c0, c1, c2, c3, c4, c5, c6, c7], x < 256) (v : Int) (hv : Hid ((val [c0, c1, c2, c3, c4, c5, c6, c7] : Nat) - 9223372036854775808 = v)) :
    Calls Try.prog 34 #[aggB c0 c1 c2 c3 c4 c5 c6 c7] w fun e w' => e = .returned (.int .i64 v) ∧ ∃ o, w' = w.alloc o := by
  have := unbig_any c0 c1 c2 c3 c4 c5 c6 c7 w hc
  rw [hv.out] at this
  exact this

/-- A slice of eight bytes' block. -/
theorem Cells8.rb {w : World} {g x0 x1 x2 x3 x4 x5 x6 x7 B c : Nat} (h : Cells8 w g x0 x1 x2 x3 x4 x5 x6 x7) (hg : g < B) (hx : ∀ x ∈ [x0, x1, x2, x3, x4, x5, x6, x7], x < 256) (hc : c = 8) : RB w B (.slice (some ⟨g, 0, none⟩) 8 c) [x0, x1, x2, x3, x4, x5, x6, x7] := by
  obtain ⟨h0, h1, h2, h3, h4, h5, h6, h7⟩ := h
  subst hc
  refine ⟨hx, by simp, some ⟨g, 0, none⟩, 8, rfl, by simp, by omega, .inr ⟨g, 0, rfl, hg, ?_⟩⟩
  intro j x hj
  have hj8 : j < 8 := by have := (List.getElem?_eq_some_iff.1 hj).1; simpa using this
  have h : j = 0 ∨ j = 1 ∨ j = 2 ∨ j = 3 ∨ j = 4 ∨ j = 5 ∨ j = 6 ∨ j = 7 := by omega
  rcases h with rfl | rfl | rfl | rfl | rfl | rfl | rfl | rfl
  all_goals
    simp at hj
    subst hj
    simp only [Nat.zero_add]
    assumption

theorem keepTwo {W w' : World} {p g x0 x1 x2 x3 x4 x5 x6 x7 c0 c1 c2 c3 c4 c5 c6 c7 : Nat} (hp : Cells8 W p x0 x1 x2 x3 x4 x5 x6 x7) (hc : Cells8 W g c0 c1 c2 c3 c4 c5 c6 c7) (hp0 : p < W.heap.size) (hg0 : g < W.heap.size) (hb : Below W.heap.size W w') :
    w'.cell? ⟨p, 0, none⟩ = some (.int .u8 (x0 : Int)) ∧ w'.cell? ⟨p, 1, none⟩ = some (.int .u8 (x1 : Int)) ∧ w'.cell? ⟨p, 2, none⟩ = some (.int .u8 (x2 : Int)) ∧ w'.cell? ⟨p, 3, none⟩ = some (.int .u8 (x3 : Int)) ∧ w'.cell? ⟨p, 4, none⟩ = some (.int .u8 (x4 : Int)) ∧ w'.cell? ⟨p, 5, none⟩ = some (.int .u8 (x5 : Int)) ∧ w'.cell? ⟨p, 6, none⟩ = some (.int .u8 (x6 : Int)) ∧ w'.cell? ⟨p, 7, none⟩ = some (.int .u8 (x7 : Int)) ∧ w'.cell? ⟨g, 0, none⟩ = some (.int .u8 (c0 : Int)) ∧ w'.cell? ⟨g, 1, none⟩ = some (.int .u8 (c1 : Int)) ∧ w'.cell? ⟨g, 2, none⟩ = some (.int .u8 (c2 : Int)) ∧ w'.cell? ⟨g, 3, none⟩ = some (.int .u8 (c3 : Int)) ∧ w'.cell? ⟨g, 4, none⟩ = some (.int .u8 (c4 : Int)) ∧ w'.cell? ⟨g, 5, none⟩ = some (.int .u8 (c5 : Int)) ∧ w'.cell? ⟨g, 6, none⟩ = some (.int .u8 (c6 : Int)) ∧ w'.cell? ⟨g, 7, none⟩ = some (.int .u8 (c7 : Int)) := by
  obtain ⟨p0, p1, p2, p3, p4, p5, p6, p7⟩ := hp.keep hb hp0
  exact ⟨p0, p1, p2, p3, p4, p5, p6, p7, hc.keep hb hg0⟩

set_option maxRecDepth 100000 in
set_option maxHeartbeats 4000000 in
theorem numOrder_walk (a b : Int) (c0 c1 c2 c3 c4 c5 c6 c7 : Nat) (w : World) (ha : (Lit.int .i64 a).wf = true) (hb : (Lit.int .i64 b).wf = true) (hc : ∀ x ∈ [c0, c1, c2, c3, c4, c5, c6, c7], x < 256) :
    Calls Try.prog 7 #[.int .i64 a, .int .i64 b, aggB c0 c1 c2 c3 c4 c5 c6 c7] w fun e w' => e = .returned (.bool true) ∧ Below w.heap.size w w' := by
  obtain ⟨ha1, ha2⟩ := wf64 ha
  obtain ⟨hb1, hb2⟩ := wf64 hb
  obtain ⟨x0, x1, x2, x3, x4, x5, x6, x7, hx⟩ : ∃ x0 x1 x2 x3 x4 x5 x6 x7, bigL (place a) = [x0, x1, x2, x3, x4, x5, x6, x7] := ⟨_, _, _, _, _, _, _, _, rfl⟩
  obtain ⟨y0, y1, y2, y3, y4, y5, y6, y7, hy⟩ : ∃ x0 x1 x2 x3 x4 x5 x6 x7, bigL (place b) = [x0, x1, x2, x3, x4, x5, x6, x7] := ⟨_, _, _, _, _, _, _, _, rfl⟩
  have HX := Lib.hid hx
  have HY := Lib.hid hy
  have HA := Lib.hid (And.intro ha1 ha2)
  have HB := Lib.hid (And.intro hb1 hb2)
  have HC2 := Lib.hid hc
  clear ha hb hc ha1 ha2 hb1 hb2 hx hy
  unfold aggB
  go_enter Try.func7, Try.ntmps7
  go_wp2_with fail
  refine (alive1 _).mono ?_
  rintro e w1 ⟨rfl, hb1⟩
  have HG1 : Hid (w.heap.size < w1.heap.size) := by have := hb1.size; show _ < _; simp at this; omega
  have HC1 : Hid (Cells8 w1 w.heap.size c0 c1 c2 c3 c4 c5 c6 c7) := by
    refine Cells8.keep ?_ hb1 (by simp)
    unfold Cells8
    simp
  have HX1 : Hid (Below w.heap.size w w1) := ((Below.refl _ _).alloc (Nat.le_refl _) _).trans (hb1.mono (by simp))
  clear hb1
  go_wp2_with fail
  refine (big_named a _ HA.out.1 HA.out.2 x0 x1 x2 x3 x4 x5 x6 x7 HX).mono ?_
  rintro e w2 ⟨rfl, o2, rfl⟩
  go_wp2_with fail
  refine (big_named b _ HB.out.1 HB.out.2 y0 y1 y2 y3 y4 y5 y6 y7 HY).mono ?_
  rintro e w3 ⟨rfl, o3, rfl⟩
  unfold aggB
  go_wp2_with fail
  obtain ⟨W, hW⟩ : ∃ W, W = ((((w1.alloc o2).alloc o3).alloc (Obj.cells #[Value.int IntKind.u8 ↑x0, Value.int IntKind.u8 ↑x1, Value.int IntKind.u8 ↑x2, Value.int IntKind.u8 ↑x3, Value.int IntKind.u8 ↑x4, Value.int IntKind.u8 ↑x5, Value.int IntKind.u8 ↑x6, Value.int IntKind.u8 ↑x7] 50)).alloc (Obj.cells #[Value.int IntKind.u8 ↑y0, Value.int IntKind.u8 ↑y1, Value.int IntKind.u8 ↑y2, Value.int IntKind.u8 ↑y3, Value.int IntKind.u8 ↑y4, Value.int IntKind.u8 ↑y5, Value.int IntKind.u8 ↑y6, Value.int IntKind.u8 ↑y7] 50)) := ⟨_, rfl⟩
  rw [← hW]
  have hsz : W.heap.size = w1.heap.size + 1 + 1 + 1 + 1 := by rw [hW]; simp
  have HP : Hid (Cells8 W (w1.heap.size + 1 + 1) x0 x1 x2 x3 x4 x5 x6 x7) := by
    rw [hW]
    exact ⟨by go_cell, by go_cell, by go_cell, by go_cell, by go_cell, by go_cell, by go_cell, by go_cell⟩
  have HQ : Hid (Cells8 W (w1.heap.size + 1 + 1 + 1) y0 y1 y2 y3 y4 y5 y6 y7) := by
    rw [hW]
    exact ⟨by go_cell, by go_cell, by go_cell, by go_cell, by go_cell, by go_cell, by go_cell, by go_cell⟩
  have hb1 : Below w1.heap.size w1 W := by
    rw [hW]
    exact ((((Below.refl _ _).alloc (Nat.le_refl _) _).alloc (by simp) _).alloc (by simp; omega) _).alloc (by simp; omega) _
  have HC : Hid (Cells8 W w.heap.size c0 c1 c2 c3 c4 c5 c6 c7) := HC1.out.keep hb1 HG1.out
  have HXW : Hid (Below w.heap.size w W) := HX1.out.trans (hb1.mono HX1.out.size)
  have hg0 : w.heap.size < W.heap.size := by have := HG1.out; omega
  obtain ⟨g, hg⟩ : ∃ g, g = w.heap.size := ⟨_, rfl⟩
  obtain ⟨p, hp⟩ : ∃ p, p = w1.heap.size + 1 + 1 := ⟨_, rfl⟩
  rw [← hp] at HP HQ ⊢
  rw [← hg] at HC hg0 ⊢
  have hp0 : p < W.heap.size := by omega
  have hq0 : p + 1 < W.heap.size := by omega
  have hx256 : ∀ x ∈ [x0, x1, x2, x3, x4, x5, x6, x7], x < 256 := by rw [← HX.out]; exact bigL_lt _
  have hy256 : ∀ x ∈ [y0, y1, y2, y3, y4, y5, y6, y7], x < 256 := by rw [← HY.out]; exact bigL_lt _
  have HX2 := Lib.hid hx256
  have HY2 := Lib.hid hy256
  obtain ⟨vc, hvc⟩ : ∃ vc, (val [c0, c1, c2, c3, c4, c5, c6, c7] : Nat) - 9223372036854775808 = (vc : Int) := ⟨_, rfl⟩
  have HVC := Lib.hid hvc
  have heq : ∀ W, (Op.equalIn 10000 50 (.agg #[.int .u8 (c0 : Int), .int .u8 (c1 : Int), .int .u8 (c2 : Int), .int .u8 (c3 : Int), .int .u8 (c4 : Int), .int .u8 (c5 : Int), .int .u8 (c6 : Int), .int .u8 (c7 : Int)]) (.agg #[.int .u8 (c0 : Int), .int .u8 (c1 : Int), .int .u8 (c2 : Int), .int .u8 (c3 : Int), .int .u8 (c4 : Int), .int .u8 (c5 : Int), .int .u8 (c6 : Int), .int .u8 (c7 : Int)])).run Try.prog W = .ok true W := fun W => run_same8 W c0 c1 c2 c3 c4 c5 c6 c7
  clear hb1 HC1 HG1 HX1 hW hsz hp hg hx256 hy256 hvc
  have tok1 : True := trivial
  go_region_held3 (fun w' => w'.cell? ⟨p, 0, none⟩ = some (.int .u8 (x0 : Int)) ∧ w'.cell? ⟨p, 1, none⟩ = some (.int .u8 (x1 : Int)) ∧ w'.cell? ⟨p, 2, none⟩ = some (.int .u8 (x2 : Int)) ∧ w'.cell? ⟨p, 3, none⟩ = some (.int .u8 (x3 : Int)) ∧ w'.cell? ⟨p, 4, none⟩ = some (.int .u8 (x4 : Int)) ∧ w'.cell? ⟨p, 5, none⟩ = some (.int .u8 (x5 : Int)) ∧ w'.cell? ⟨p, 6, none⟩ = some (.int .u8 (x6 : Int)) ∧ w'.cell? ⟨p, 7, none⟩ = some (.int .u8 (x7 : Int)) ∧ w'.cell? ⟨g, 0, none⟩ = some (.int .u8 (c0 : Int)) ∧ w'.cell? ⟨g, 1, none⟩ = some (.int .u8 (c1 : Int)) ∧ w'.cell? ⟨g, 2, none⟩ = some (.int .u8 (c2 : Int)) ∧ w'.cell? ⟨g, 3, none⟩ = some (.int .u8 (c3 : Int)) ∧ w'.cell? ⟨g, 4, none⟩ = some (.int .u8 (c4 : Int)) ∧ w'.cell? ⟨g, 5, none⟩ = some (.int .u8 (c5 : Int)) ∧ w'.cell? ⟨g, 6, none⟩ = some (.int .u8 (c6 : Int)) ∧ w'.cell? ⟨g, 7, none⟩ = some (.int .u8 (c7 : Int)))
    ((refine keepTwo HP.out HC.out hp0 hg0 ?_; go_grown))
    (first
      | (go_at_call 33; refine (rbig_any a _ HA.out.1 HA.out.2 (place a) (Lib.hid rfl)).mono ?_; rintro e w4 ⟨v4, rfl, ho4, hb4⟩; have HV4 := Lib.hid (ho4.rb (B' := w4.heap.size) (Nat.le_refl _)); rw [HX.out] at HV4; have hB4 : Below W.heap.size W w4 := (by refine Below.trans ?_ (hb4.mono (by first | exact Nat.le_refl _ | simp)); go_grown); have hS4 := hB4.size; have hp4 : p < w4.heap.size := (by omega); clear ho4 hb4)
      | (go_at_call 30; refine (same_yes _ v4 [x0, x1, x2, x3, x4, x5, x6, x7] _ w4.heap.size ((HP.out.keep (B := W.heap.size) (by go_grown) hp0).rb hp4 HX2.out rfl) (HV4.out.below (by go_grown))).mono ?_; rintro e w5 ⟨rfl, hn⟩; have hB5 : Below W.heap.size W w5 := (by obtain ⟨n, rfl⟩ := hn; exact below_drewN' (by go_grown) n); have hS5 := hB5.size; clear hn)
      | (go_at_call 34; have _t := tok1; refine (unbig_named a _ HA.out.1 HA.out.2 x0 x1 x2 x3 x4 x5 x6 x7 HX).mono ?_; rintro e w6 ⟨rfl, oa, rfl⟩; clear tok1 _t)
      | (go_at_call 34; refine (unbig_val c0 c1 c2 c3 c4 c5 c6 c7 _ HC2.out vc HVC).mono ?_; rintro e w6 ⟨rfl, ob, rfl⟩)
      | (go_at_call 32; refine (big_back c0 c1 c2 c3 c4 c5 c6 c7 _ HC2.out vc HVC.out).mono ?_; rintro e w6 ⟨rfl, od, rfl⟩; unfold aggB))
  rename_i hkeep
  clear hkeep heq
  have hB6 : Below W.heap.size W (((w5.alloc oa).alloc ob).alloc od) := by go_grown
  generalize ((w5.alloc oa).alloc ob).alloc od = W6 at hB6 ⊢
  have hB6' : Below w.heap.size w W6 := HXW.out.trans (hB6.mono HXW.out.size)
  have HP6 := Lib.hid (HP.out.keep hB6 hp0)
  have HQ6 := Lib.hid (HQ.out.keep hB6 hq0)
  have hp6 : p < W6.heap.size := by have := hB6.size; omega
  have hq6 : p + 1 < W6.heap.size := by have := hB6.size; omega
  have H6 := Lib.hid hB6'
  clear hB6 hB6' HP HQ HC HXW hB5 hS5 hp0 hq0 hg0 HVC hB4 hS4 hp4 HV4
  obtain ⟨r, hr⟩ : ∃ r, r = ordI (val [x0, x1, x2, x3, x4, x5, x6, x7]) (val [y0, y1, y2, y3, y4, y5, y6, y7]) := ⟨_, rfl⟩
  have HR := Lib.hid hr
  have hcase : (a < b ∧ r = -1) ∨ (a = b ∧ r = 0) ∨ (b < a ∧ r = 1) := by
    have h := hr
    rw [← HX.out, ← HY.out, val_bigL _ (place_lt a HA.out.1 HA.out.2), val_bigL _ (place_lt b HB.out.1 HB.out.2)] at h
    have h1 := place_cast a HA.out.1
    have h2 := place_cast b HB.out.1
    unfold ordI at h
    split at h
    · omega
    · split at h <;> omega
  have HCASE := Lib.hid hcase
  clear hr hcase
  go_wp2_with fail
  go_region_held3 (fun _ => True) (exact trivial)
    (first
      | (go_at_call 35; refine (order_any _ _ [x0, x1, x2, x3, x4, x5, x6, x7] [y0, y1, y2, y3, y4, y5, y6, y7] _ W6.heap.size ((HP6.out.keep (B := W6.heap.size) (by go_grown) hp6).rb hp6 HX2.out rfl) ((HQ6.out.keep (B := W6.heap.size) (by go_grown) hq6).rb hq6 HY2.out rfl) rfl r HR.out).mono ?_; rintro e w7 ⟨rfl, hn⟩; have hB7 : Below W6.heap.size W6 w7 := (by obtain ⟨n, rfl⟩ := hn; exact below_drewN' (by go_grown) n); clear hn))
  have HB7 := Lib.hid hB7
  clear hB7
  rcases HCASE.out with ⟨h, rfl⟩ | ⟨h, rfl⟩ | ⟨h, rfl⟩
  all_goals
    clear HCASE HR
    go_wp2
    go_ret
    exact ⟨rfl, H6.out.trans (HB7.out.mono H6.out.size)⟩
end Go.Proofs.Ytaboknjokdgjeaa
