/-
  The walk of skeinlaw14's alive: the document's example.
-/
import Derived.Test.YtgahkloldpjnkaaMV14
namespace Go.Proofs.Ytgahkloldpjnkaa
open Go.RowKit Go.Maps
set_option linter.unusedVariables false

theorem rr_one (w : World) (r : Rf) (t : TypeId) (B : Nat) (hB : w.heap.size < B) : RR (w.alloc (.cells #[.bool r.fst, .int .i64 r.snd] t)) B (.slice (some ⟨w.heap.size, 0, none⟩) 1 1) [r] := by
  have hb := Blk.new w t #[.bool r.fst, .int .i64 r.snd]
  refine ⟨by simp, some ⟨w.heap.size, 0, none⟩, 1, rfl, by simp, by simp, .inr ⟨w.heap.size, 0, rfl, hB, fun i x hx j u hu => ?_⟩⟩
  match i, hx with
  | 0, hx =>
    simp at hx
    subst hx
    rw [show 0 + 0 * 2 + j = j by omega, hb.cell]
    simpa [encR] using hu

theorem i64_small (n : Int) (h0 : -1000000 ≤ n) (h1 : n ≤ 1000000) : I64 n := by unfold I64; omega

set_option maxRecDepth 100000 in
set_option maxHeartbeats 2000000 in
theorem alive_any (w : World) : Calls Try.prog 9 #[] w fun e w' => e = .returned (.bool true) ∧ Below w.heap.size w w' := by
  obtain ⟨a1, a2, a3, a4, a5, a6⟩ := ex_a
  obtain ⟨b1, b2, b3, b4, b5, b6⟩ := ex_b
  obtain ⟨c1, c2, c3, c4, c5, c6⟩ := ex_c
  obtain ⟨d1, d2, d3, d4, d5, d6, d7⟩ := ex_d
  have k1 : I64 7 := i64_small 7 (by omega) (by omega)
  go_enter Try.func9, Try.ntmps9
  go_wp2_with fail
  refine (bNew w.heap.size w (Nat.le_refl _) 4 (i64_small _ (by omega) (by omega))).mono ?_
  rintro e w1 ⟨rfl, h1, t1⟩
  obtain ⟨g, hg⟩ : ∃ g, g = w.heap.size + 2 := ⟨_, rfl⟩
  rw [← hg] at h1 ⊢
  have H1 := Lib.hid h1
  have T1 := Lib.hid t1
  clear h1 t1 hg
  go_wp2_with fail
  refine (bBegin w.heap.size w1 g ex0 H1.out T1.out.below.size (by rw [d1]; omega)).mono ?_
  rw [a1, a2]
  rintro e w2 ⟨rfl, h2, t2⟩
  have H2 : Hid (TbB w.heap.size w2 g ex1) := Lib.hid h2
  have T2 := Lib.hid (T1.out.trans t2)
  clear h2 t2
  go_wp2_with fail
  refine (bBegin w.heap.size w2 g ex1 H2.out T2.out.below.size (by rw [d2]; omega)).mono ?_
  rw [a3, a4]
  rintro e w3 ⟨rfl, h3, t3⟩
  have H3 : Hid (TbB w.heap.size w3 g ex2) := Lib.hid h3
  have T3 := Lib.hid (T2.out.trans t3)
  clear h3 t3
  go_wp2_with fail
  have r3 := rr_one w3 ⟨false, 7⟩ 62 (w3.heap.size + 1) (by omega)
  refine (bTouch w.heap.size _ g ex2 (H3.out.alloc _) (by have := T3.out.below.size; simp; omega) 1 (i64_small _ (by omega) (by omega)) _ [⟨false, 7⟩] (by simpa using r3) (by simpa using k1) (by rw [d4]; simp)).mono ?_
  rw [a5]
  rintro e w4 ⟨rfl, h4, t4⟩
  have H4 : Hid (TbB w.heap.size w4 g ex3) := Lib.hid h4
  have T4 := Lib.hid ((T3.out.alloc (Nat.le_refl _) _).trans t4)
  clear h4 t4 r3
  go_wp2_with fail
  have r4 := rr_one w4 ⟨false, 7⟩ 62 (w4.heap.size + 1) (by omega)
  refine (bTouch w.heap.size _ g ex3 (H4.out.alloc _) (by have := T4.out.below.size; simp; omega) 2 (i64_small _ (by omega) (by omega)) _ [⟨false, 7⟩] (by simpa using r4) (by simpa using k1) (by rw [d5]; simp)).mono ?_
  rw [a6]
  rintro e w5 ⟨rfl, h5, t5⟩
  have H5 : Hid (TbB w.heap.size w5 g ex4) := Lib.hid h5
  have T5 := Lib.hid ((T4.out.alloc (Nat.le_refl _) _).trans t5)
  clear h5 t5 r4
  go_wp2_with fail
  refine (bCommit w.heap.size w5 g ex4 H5.out T5.out.below.size 2 (i64_small _ (by omega) (by omega)) (by rw [d6]; omega)).mono ?_
  rw [b1, b2]
  rintro e w6 ⟨rfl, h6, t6⟩
  have H6 : Hid (TbB w.heap.size w6 g ex5) := Lib.hid h6
  have T6 := Lib.hid (T5.out.trans t6)
  clear h6 t6
  go_wp2_with fail
  refine (bCommit w.heap.size w6 g ex5 H6.out T6.out.below.size 1 (i64_small _ (by omega) (by omega)) (by rw [d7]; omega)).mono ?_
  rw [b3, b4]
  rintro e w7 ⟨rfl, h7, t7⟩
  have H7 : Hid (TbB w.heap.size w7 g ex6) := Lib.hid h7
  have T7 := Lib.hid (T6.out.trans t7)
  clear h7 t7
  go_wp2_with fail
  refine (bBegin w.heap.size w7 g ex6 H7.out T7.out.below.size (by rw [d3]; omega)).mono ?_
  rw [b5, b6]
  rintro e w8 ⟨rfl, h8, t8⟩
  have H8 : Hid (TbB w.heap.size w8 g ex7) := Lib.hid h8
  have T8 := Lib.hid (T7.out.trans t8)
  clear h8 t8
  go_wp2_with fail
  refine (bStart w.heap.size w8 g ex7 H8.out 3 (i64_small _ (by omega) (by omega))).mono ?_
  rw [c1, c2]
  rintro e w9 ⟨rfl, h9⟩
  have H9 := Lib.hid (H8.out.below h9)
  have T9 := Lib.hid (T8.out.trans (Tame.of_below h9 T8.out.below.size))
  clear h9
  go_wp2_with fail
  refine (bLast w.heap.size w9 g ex7 H9.out).mono ?_
  rw [c3]
  rintro e w10 ⟨rfl, rfl⟩
  go_wp2_with fail
  refine (bLive w.heap.size w10 g ex7 H9.out).mono ?_
  rintro e w11 ⟨v, rfl, h11, h12⟩
  obtain ⟨vA, vc, rfl, _, _, _, _⟩ := (h11.rk encI_len (Nat.le_refl _)).open_
  rw [c4]
  have H11 := Lib.hid (H9.out.below h12)
  have T11 := Lib.hid (T9.out.trans (Tame.of_below h12 T9.out.below.size))
  clear h11 h12
  go_wp2_with fail
  refine (bHorizon w.heap.size w11 g ex7 H11.out).mono ?_
  rw [c5]
  rintro e w12 ⟨rfl, h12⟩
  have H12 := Lib.hid (H11.out.below h12)
  have T12 := Lib.hid (T11.out.trans (Tame.of_below h12 T11.out.below.size))
  clear h12
  go_wp2_with fail
  refine (bTry w.heap.size w12 g ex7 H12.out 3 (i64_small _ (by omega) (by omega))).mono ?_
  rw [c6]
  rintro e w13 ⟨rfl, h13⟩
  have H13 := Lib.hid (H12.out.below h13)
  have T13 := Lib.hid (T12.out.trans (Tame.of_below h13 T12.out.below.size))
  clear h13
  go_wp2_with fail
  refine (bAbort w.heap.size w13 g ex7 H13.out T13.out.below.size 3 (i64_small _ (by omega) (by omega))).mono ?_
  rw [c2]
  rintro e w14 ⟨rfl, h14, t14⟩
  have T14 := Lib.hid (T13.out.trans t14)
  clear h14 t14
  go_wp2_with fail
  go_ret
  exact ⟨rfl, T14.out.below⟩

end Go.Proofs.Ytgahkloldpjnkaa
