/-
  The walk of tell.
-/
import Derived.Test.YtlakcldgolpaiaaEP7
namespace Go.Proofs.Ytlakcldgolpaiaa
open Go.RowKit
set_option linter.unusedVariables false

set_option maxRecDepth 100000 in
set_option maxHeartbeats 4000000 in
theorem tell_any (w : World) (g B : Nat) (sv : Value) (nb n cap : Nat) (N : Nodes SV) (hM : Mem w g B sv nb n cap N) (hn : n ≤ 65537) (a : Nat) (ha : a < n) (hl : (N a).left < n) (hr : (N a).right < n) (hla : (N a).left ≠ a) (hra : (N a).right ≠ a) (hs : (N (N a).left).size + (N (N a).right).size ≤ 200000) :
    Calls Try.prog 72 #[.pointer (some ⟨g, 0, none⟩), .int .i64 (a : Int)] w fun e w' => e = .returned (.tuple #[]) ∧ Mem w' g B sv nb n cap (retell N a) ∧ Mod (fun k => k = nb) w w' := by
  obtain ⟨l, hl0⟩ : ∃ l, l = (N a).left := ⟨_, rfl⟩
  obtain ⟨r, hr0⟩ : ∃ r, r = (N a).right := ⟨_, rfl⟩
  obtain ⟨sl, hsl⟩ : ∃ s, s = (N l).size := ⟨_, rfl⟩
  obtain ⟨sr, hsr⟩ : ∃ s, s = (N r).size := ⟨_, rfl⟩
  obtain ⟨o, ho⟩ : ∃ o, o = (N a).own := ⟨_, rfl⟩
  rw [← hl0] at hl hla hs
  rw [← hr0] at hr hra hs
  rw [← hsl, ← hsr] at hs
  obtain ⟨w1, hw1⟩ : ∃ w1, w1 = w.drew := ⟨_, rfl⟩
  have b0 : w.cell? ⟨g, 1, none⟩ = _ := hM.blk.cell 1
  have HM1 : Hid (Mem w1 g B sv nb n cap N) := Lib.hid (by rw [hw1]; exact hM.drew)
  have HW1 : Hid (Mod (fun k => k = nb) w w1) := Lib.hid (by rw [hw1]; exact (Mod.refl _ _).drew)
  have b1 : w1.cell? ⟨g, 1, none⟩ = _ := HM1.out.blk.cell 1
  obtain ⟨-, -, -, -, -, -, -, -, -, a7, a8⟩ := HM1.out.cells ha
  rw [← hl0] at a7
  rw [← hr0] at a8
  obtain ⟨-, -, -, -, -, -, l4, -⟩ := HM1.out.cells hl
  obtain ⟨-, -, -, -, -, -, r4, -⟩ := HM1.out.cells hr
  rw [← hsl] at l4
  rw [← hsr] at r4
  have hf4 := HM1.out.frozen (a * 11 + 6)
  have hw3 : IntKind.i64.wrap ((sl : Int) + 1) = (sl : Int) + 1 := by rw [IntKind.wrap_i64]; omega
  have hw4 : IntKind.i64.wrap ((sl : Int) + 1 + (sr : Int)) = (sl : Int) + 1 + (sr : Int) := by rw [IntKind.wrap_i64]; omega
  obtain ⟨a4v, a4⟩ : ∃ v, w1.cell? ⟨nb, a * 11 + 6, none⟩ = some v := ⟨_, (HM1.out.cells ha).2.2.2.2.2.2.1⟩
  have HE : Hid (l = (N a).left ∧ r = (N a).right ∧ sl = (N l).size ∧ sr = (N r).size ∧ o = (N a).own) := Lib.hid ⟨hl0, hr0, hsl, hsr, ho⟩
  clear hM hl0 hr0 hsl hsr ho
  go_enter Try.func72, Try.ntmps72
  go_wp2_with fail
  refine still_tail_at 27 w1 hw1 (by kernel_rfl) (by kernel_rfl) ?_
  clear hw1
  simp only [List.take_succ_cons, List.take_zero, List.drop_succ_cons, List.drop_zero]
  iterate 27 still_step
  try refine wpStill_nil ?_
  go_upto_region 2 with fail
  obtain ⟨w2, hw2⟩ : ∃ w2, w2 = w1.setCell ⟨nb, a * 11 + 6, none⟩ (.int .i64 ((sl : Int) + 1 + (sr : Int))) := ⟨_, rfl⟩
  rw [← hw2]
  obtain ⟨HM2, HW2⟩ : Hid (Mem w2 g B sv nb n cap (upd N a { N a with size := sl + 1 + sr })) ∧ Hid (Mod (fun k => k = nb) w w2) := by
    have := HM1.out.store (W := w) ha 6 (by omega) { N a with size := sl + 1 + sr } (.int .i64 ((sl : Int) + 1 + (sr : Int))) (by simp [encNd]) HW1.out
    rw [← hw2] at this
    exact ⟨Lib.hid this.1, Lib.hid this.2⟩
  clear hw2 b1 a7 a8 l4 r4 hf4 a4 hw3 hw4
  obtain ⟨a0, a1, a1x, -, -, -, -, -, -, a7, -⟩ := HM2.out.cells ha
  rw [upd_self] at a0 a1 a1x a7
  dsimp only at a0 a1 a1x a7
  obtain ⟨e1, e2, e3, e4, e5⟩ := HE.out
  rw [← e5] at a0 a1 a1x
  rw [← e1] at a7
  have f2 := HM2.out.frozen (a * 11 + 3)
  have f3 := HM2.out.frozen (a * 11 + 4)
  have f4x := HM2.out.frozen (a * 11 + 5)
  obtain ⟨v2, a2⟩ : ∃ v, w2.cell? ⟨nb, a * 11 + 3, none⟩ = some v := ⟨_, (HM2.out.cells ha).2.2.2.1⟩
  obtain ⟨v3, a3⟩ : ∃ v, w2.cell? ⟨nb, a * 11 + 4, none⟩ = some v := ⟨_, (HM2.out.cells ha).2.2.2.2.1⟩
  obtain ⟨v4, a3x⟩ : ∃ v, w2.cell? ⟨nb, a * 11 + 5, none⟩ = some v := ⟨_, (HM2.out.cells ha).2.2.2.2.2.1⟩
  clear e1 e2 e3 e4 e5
  go_upto_region 3 with fail
  obtain ⟨w3, hw3⟩ : ∃ w3, w3 = ((w2.setCell ⟨nb, a * 11 + 3, none⟩ (.int .i64 o.n)).setCell ⟨nb, a * 11 + 3 + 1, none⟩ (.int .i64 o.m)).setCell ⟨nb, a * 11 + 3 + 2, none⟩ (.int .i64 o.e) := ⟨_, rfl⟩
  rw [← hw3]
  obtain ⟨HM3, HW3⟩ : Hid (Mem w3 g B sv nb n cap (upd N a { N a with size := sl + 1 + sr, sum := o })) ∧ Hid (Mod (fun k => k = nb) w w3) := by
    have h1 := HM2.out.store (W := w) ha 3 (by omega) { N a with size := sl + 1 + sr, sum := ⟨o.n, (N a).sum.m, (N a).sum.e⟩ } (.int .i64 o.n) (by rw [upd_self]; simp [encNd]) HW2.out
    rw [upd_upd] at h1
    have h2 := h1.1.store (W := w) ha 4 (by omega) { N a with size := sl + 1 + sr, sum := ⟨o.n, o.m, (N a).sum.e⟩ } (.int .i64 o.m) (by rw [upd_self]; simp [encNd]) h1.2
    rw [upd_upd] at h2
    have h3 := h2.1.store (W := w) ha 5 (by omega) { N a with size := sl + 1 + sr, sum := o } (.int .i64 o.e) (by rw [upd_self]; simp [encNd]) h2.2
    rw [upd_upd] at h3
    rw [hw3]
    exact ⟨Lib.hid h3.1, Lib.hid h3.2⟩
  clear hw3 a0 a1 a1x a7 f2 f3 f4x a2 a3 a3x HM2 HW2
  obtain ⟨-, -, -, -, -, -, -, -, -, a7, -⟩ := HM3.out.cells ha
  rw [upd_self] at a7
  dsimp only at a7
  rw [← HE.out.1] at a7
  obtain ⟨s1, hs1⟩ : ∃ s1, s1 = if l = 0 then o else SV.plus (N l).sum o := ⟨_, rfl⟩
  have HS1 := Lib.hid hs1
  clear hs1
  go_upto_if 49 with fail
  go_cut [45] from 45 (fun s45 wx => Hid (Mem wx g B sv nb n cap (upd N a { N a with size := sl + 1 + sr, sum := s1 })) ∧ Hid (Mod (fun k => k = nb) w wx))
  case first =>
    by_cases hl0 : l = 0
    · have hs1 : s1 = o := by rw [HS1.out, if_pos hl0]
      have HS2 := Lib.hid hs1
      subst hl0
      clear hs1
      go_wp2_with fail
      go_meet
      case rel => exact ⟨by rw [HS2.out]; exact HM3, HW3⟩
    · have hd : ((l : Int) != 0) = true := by simp; omega
      have hs1 : s1 = SV.plus (N l).sum o := by rw [HS1.out, if_neg hl0]
      have HS2 := Lib.hid hs1
      clear hs1
      go_upto_region 4 with fail
      obtain ⟨ls, hls⟩ : ∃ ls, ls = (N l).sum := ⟨_, rfl⟩
      have b3 : w3.cell? ⟨g, 1, none⟩ = _ := HM3.out.blk.cell 1
      obtain ⟨-, -, -, l2, l3, l3x, -⟩ := HM3.out.cells hl
      rw [upd_ne _ _ hla, ← hls] at l2 l3 l3x
      obtain ⟨-, -, -, a2, a3, a3x, -⟩ := HM3.out.cells ha
      rw [upd_self] at a2 a3 a3x
      dsimp only at a2 a3 a3x
      have HX : Hid (∀ w4, Below w3.drew.heap.size w3.drew w4 → w4.cell? ⟨nb, a * 11 + 3, none⟩ = some (.int .i64 o.n) ∧ w4.cell? ⟨nb, a * 11 + 4, none⟩ = some (.int .i64 o.m) ∧ w4.cell? ⟨nb, a * 11 + 5, none⟩ = some (.int .i64 o.e) ∧ w4.frozen? ⟨nb, a * 11 + 3, none⟩ = false ∧ w4.frozen? ⟨nb, a * 11 + 4, none⟩ = false ∧ w4.frozen? ⟨nb, a * 11 + 5, none⟩ = false ∧
          Hid (Mem (((w4.setCell ⟨nb, a * 11 + 3, none⟩ (.int .i64 s1.n)).setCell ⟨nb, a * 11 + 3 + 1, none⟩ (.int .i64 s1.m)).setCell ⟨nb, a * 11 + 3 + 2, none⟩ (.int .i64 s1.e)) g B sv nb n cap (upd N a { N a with size := sl + 1 + sr, sum := s1 }) ∧ Mod (fun k => k = nb) w (((w4.setCell ⟨nb, a * 11 + 3, none⟩ (.int .i64 s1.n)).setCell ⟨nb, a * 11 + 3 + 1, none⟩ (.int .i64 s1.m)).setCell ⟨nb, a * 11 + 3 + 2, none⟩ (.int .i64 s1.e)))) := Lib.hid (fun w4 hb => by
        have hm := HM3.out.drew.below hb
        have hw : Mod (fun k => k = nb) w w4 := (HW3.out.drew).trans' (Mod.of_below hb _)
        obtain ⟨-, -, -, x2, x3, x3x, -⟩ := hm.cells ha
        rw [upd_self] at x2 x3 x3x
        refine ⟨x2, x3, x3x, hm.frozen _, hm.frozen _, hm.frozen _, Lib.hid ?_⟩
        have h1 := hm.store (W := w) ha 3 (by omega) { N a with size := sl + 1 + sr, sum := ⟨s1.n, o.m, o.e⟩ } (.int .i64 s1.n) (by rw [upd_self]; simp [encNd]) hw
        rw [upd_upd] at h1
        have h2 := h1.1.store (W := w) ha 4 (by omega) { N a with size := sl + 1 + sr, sum := ⟨s1.n, s1.m, o.e⟩ } (.int .i64 s1.m) (by rw [upd_self]; simp [encNd]) h1.2
        rw [upd_upd] at h2
        have h3 := h2.1.store (W := w) ha 5 (by omega) { N a with size := sl + 1 + sr, sum := s1 } (.int .i64 s1.e) (by rw [upd_self]; simp [encNd]) h2.2
        rw [upd_upd] at h3
        exact h3)
      have hcall := fun w => plus_any ls o w
      rw [hls, ← HS2.out, ← hls] at hcall
      unfold SV.v at hcall
      have HC := Lib.hid hcall
      clear hcall hls
      go_region_law (first
        | (go_simp; go_at_call 84; refine (HC.out _).mono ?_; rintro e w4 ⟨rfl, hb4⟩; obtain ⟨x2, x3, x3x, x4, x5, x6, HX4⟩ := HX.out w4 hb4; clear hb4))
      all_goals (
        go_wp2_with fail
        go_meet
        case rel => exact ⟨Lib.hid HX4.out.1, Lib.hid HX4.out.2⟩)
  case rest =>
    obtain ⟨HM4, HW4⟩ := hcut
    clear HM3 HW3 a7
    have HF : Hid (retell N a = upd N a { N a with size := sl + 1 + sr, sum := if r = 0 then s1 else SV.plus s1 (N r).sum }) := Lib.hid (by
      obtain ⟨e1, e2, e3, e4, e5⟩ := HE.out
      unfold retell tellSum
      rw [← e1, ← e2, ← e3, ← e4, ← e5, HS1.out]
      by_cases h1 : r = 0 <;> by_cases h2 : l = 0 <;> simp [h1, h2] <;> rfl)
    obtain ⟨-, -, -, -, -, -, -, -, -, -, a8⟩ := HM4.out.cells ha
    rw [upd_self] at a8
    dsimp only at a8
    rw [← HE.out.2.1] at a8
    by_cases hr0 : r = 0
    · subst hr0
      go_wp2_with fail
      go_end0
      exact ⟨rfl, by rw [HF.out]; simpa using HM4.out, HW4.out⟩
    · have hd : ((r : Int) != 0) = true := by simp; omega
      go_upto_region 6 with fail
      obtain ⟨w3, hw3⟩ : ∃ w3, w3 = wc := ⟨_, rfl⟩
      rw [← hw3] at HM4 HW4 a8 ⊢
      clear hw3
      obtain ⟨rs, hrs⟩ : ∃ rs, rs = (N r).sum := ⟨_, rfl⟩
      have b3 : w3.cell? ⟨g, 1, none⟩ = _ := HM4.out.blk.cell 1
      obtain ⟨-, -, -, r2, r3, r3x, -⟩ := HM4.out.cells hr
      rw [upd_ne _ _ hra, ← hrs] at r2 r3 r3x
      obtain ⟨-, -, -, a2, a3, a3x, -⟩ := HM4.out.cells ha
      rw [upd_self] at a2 a3 a3x
      dsimp only at a2 a3 a3x
      obtain ⟨s2, hs2⟩ : ∃ s2, s2 = SV.plus s1 rs := ⟨_, rfl⟩
      have HX : Hid (∀ w4, Below w3.drew.heap.size w3.drew w4 → w4.cell? ⟨nb, a * 11 + 3, none⟩ = some (.int .i64 s1.n) ∧ w4.cell? ⟨nb, a * 11 + 4, none⟩ = some (.int .i64 s1.m) ∧ w4.cell? ⟨nb, a * 11 + 5, none⟩ = some (.int .i64 s1.e) ∧ w4.frozen? ⟨nb, a * 11 + 3, none⟩ = false ∧ w4.frozen? ⟨nb, a * 11 + 4, none⟩ = false ∧ w4.frozen? ⟨nb, a * 11 + 5, none⟩ = false ∧
          Hid (Mem (((w4.setCell ⟨nb, a * 11 + 3, none⟩ (.int .i64 s2.n)).setCell ⟨nb, a * 11 + 3 + 1, none⟩ (.int .i64 s2.m)).setCell ⟨nb, a * 11 + 3 + 2, none⟩ (.int .i64 s2.e)) g B sv nb n cap (upd N a { N a with size := sl + 1 + sr, sum := s2 }) ∧ Mod (fun k => k = nb) w (((w4.setCell ⟨nb, a * 11 + 3, none⟩ (.int .i64 s2.n)).setCell ⟨nb, a * 11 + 3 + 1, none⟩ (.int .i64 s2.m)).setCell ⟨nb, a * 11 + 3 + 2, none⟩ (.int .i64 s2.e)))) := Lib.hid (fun w4 hb => by
        have hm := HM4.out.drew.below hb
        have hw : Mod (fun k => k = nb) w w4 := (HW4.out.drew).trans' (Mod.of_below hb _)
        obtain ⟨-, -, -, x2, x3, x3x, -⟩ := hm.cells ha
        rw [upd_self] at x2 x3 x3x
        refine ⟨x2, x3, x3x, hm.frozen _, hm.frozen _, hm.frozen _, Lib.hid ?_⟩
        have h1 := hm.store (W := w) ha 3 (by omega) { N a with size := sl + 1 + sr, sum := ⟨s2.n, s1.m, s1.e⟩ } (.int .i64 s2.n) (by rw [upd_self]; simp [encNd]) hw
        rw [upd_upd] at h1
        have h2 := h1.1.store (W := w) ha 4 (by omega) { N a with size := sl + 1 + sr, sum := ⟨s2.n, s2.m, s1.e⟩ } (.int .i64 s2.m) (by rw [upd_self]; simp [encNd]) h1.2
        rw [upd_upd] at h2
        have h3 := h2.1.store (W := w) ha 5 (by omega) { N a with size := sl + 1 + sr, sum := s2 } (.int .i64 s2.e) (by rw [upd_self]; simp [encNd]) h2.2
        rw [upd_upd] at h3
        exact h3)
      have hcall := fun w => plus_any s1 rs w
      rw [← hs2] at hcall
      unfold SV.v at hcall
      have HC := Lib.hid hcall
      have HS3 : Hid (s2 = SV.plus s1 (N r).sum) := Lib.hid (by rw [hs2, hrs])
      clear hcall hrs hs2
      go_region_law (first
        | (go_simp; go_at_call 84; refine (HC.out _).mono ?_; rintro e w4 ⟨rfl, hb4⟩; obtain ⟨x2, x3, x3x, x4, x5, x6, HX4⟩ := HX.out w4 hb4; clear hb4))
      all_goals (
        go_wp2_with fail
        go_end0
        exact ⟨rfl, by rw [HF.out, if_neg hr0, ← HS3.out]; exact HX4.out.1, HX4.out.2⟩)

end Go.Proofs.Ytlakcldgolpaiaa
