/-
  The walk of skeinlaw15's alive: the document's example.
-/
import Derived.Test.YtbbfnbnjaiimgaaRP26
namespace Go.Proofs.Ytbbfnbnjaiimgaa
open Go.RowKit
set_option linter.unusedVariables false

theorem ri_two (w : World) (a b : Int) (t : TypeId) (B : Nat) (hB : w.heap.size < B) : RI (w.alloc (.cells #[.int .i64 a, .int .i64 b] t)) B (.slice (some ⟨w.heap.size, 0, none⟩) 2 2) [a, b] := by
  have hb := Blk.new w t #[.int .i64 a, .int .i64 b]
  refine ⟨by simp, some ⟨w.heap.size, 0, none⟩, 2, rfl, by simp, by simp, .inr ⟨w.heap.size, 0, rfl, hB, fun i x hx j u hu => ?_⟩⟩
  have hj : j = 0 := by
    have := (List.getElem?_eq_some_iff.1 hu).1
    rw [encI_len] at this
    omega
  subst hj
  rw [show 0 + i * 1 + 0 = i by omega, hb.cell]
  match i, hx with
  | 0, hx => simp at hx; subst hx; simpa [encI] using hu
  | 1, hx => simp at hx; subst hx; simpa [encI] using hu

theorem ri_three (w : World) (a b c : Int) (t : TypeId) (B : Nat) (hB : w.heap.size < B) : RI (w.alloc (.cells #[.int .i64 a, .int .i64 b, .int .i64 c] t)) B (.slice (some ⟨w.heap.size, 0, none⟩) 3 3) [a, b, c] := by
  have hb := Blk.new w t #[.int .i64 a, .int .i64 b, .int .i64 c]
  refine ⟨by simp, some ⟨w.heap.size, 0, none⟩, 3, rfl, by simp, by simp, .inr ⟨w.heap.size, 0, rfl, hB, fun i x hx j u hu => ?_⟩⟩
  have hj : j = 0 := by
    have := (List.getElem?_eq_some_iff.1 hu).1
    rw [encI_len] at this
    omega
  subst hj
  rw [show 0 + i * 1 + 0 = i by omega, hb.cell]
  match i, hx with
  | 0, hx => simp at hx; subst hx; simpa [encI] using hu
  | 1, hx => simp at hx; subst hx; simpa [encI] using hu
  | 2, hx => simp at hx; subst hx; simpa [encI] using hu

set_option maxRecDepth 100000 in
set_option maxHeartbeats 2000000 in
theorem alive_any (w : World) : Calls Try.prog 14 #[] w fun e w' => e = .returned (.bool true) ∧ Below w.heap.size w w' := by
  obtain ⟨a1, a2, a3, a4, a5, a6, a7, a8, b1, b2, b5, b8, b4, b6, c1, c2⟩ := ex_facts
  have b3 : ex5.errA 1 = 0 := b5
  have b7 : ex5.errA 2 = 0 := b8
  go_enter Try.func14, Try.ntmps14
  go_wp2_with fail
  refine (bNew _ _ [3, 1] (by simpa using ri_two w 3 1 3 (w.heap.size + 1) (by omega)) (fun _ => False) (fun _ h => h.elim)).mono ?_
  rintro e w1 ⟨g, rfl, ⟨S, h1, h1', h1q⟩, t1⟩
  have H1 : Hid (RpB w.heap.size (fun _ => False) w1 g RM.new) := Lib.hid ⟨S, h1, fun k hk => ⟨by have := (h1' k hk).1; simp at this; omega, fun h => h⟩, fun _ h => h.elim⟩
  have T1 : Hid (TameR w.heap.size (fun _ => False) w w1) := Lib.hid (TameR.of_below (((Below.refl w.heap.size w).alloc (Nat.le_refl _) _).trans (t1.mono (by simp))) (Nat.le_refl _))
  clear h1 h1' h1q t1
  go_wp2_with fail
  refine (bMake w.heap.size (fun _ => False) w1 g _ H1.out T1.out.size ⟨5, 0⟩).mono ?_
  rw [a1, a2]
  rintro e w2 ⟨rfl, h2, t2⟩
  have H2 := Lib.hid h2
  have T2 := Lib.hid (T1.out.trans t2)
  clear h2 t2
  go_wp2_with fail
  refine (bMake w.heap.size (fun _ => False) w2 g _ H2.out T2.out.size ⟨6, 0⟩).mono ?_
  rw [a3, a4]
  rintro e w3 ⟨rfl, h3, t3⟩
  have H3 := Lib.hid h3
  have T3 := Lib.hid (T2.out.trans t3)
  clear h3 t3
  go_wp2_with fail
  refine (bMake w.heap.size (fun _ => False) w3 g _ H3.out T3.out.size ⟨7, 1⟩).mono ?_
  rw [a5, a6]
  rintro e w4 ⟨rfl, h4, t4⟩
  have H4 : Hid (RpB w.heap.size (fun _ => False) w4 g ex3) := Lib.hid h4
  have T4 := Lib.hid (T3.out.trans t4)
  clear h4 t4
  go_wp2_with fail
  refine (bJoin w.heap.size (fun _ => False) w4 g _ H4.out T4.out.size 2 1).mono ?_
  rw [a7]
  rintro e w5 ⟨rfl, h5, t5⟩
  have H5 := Lib.hid h5
  have T5 := Lib.hid (T4.out.trans t5)
  clear h5 t5
  go_wp2_with fail
  refine (bJoin w.heap.size (fun _ => False) w5 g _ H5.out T5.out.size 1 3).mono ?_
  rw [a8]
  rintro e w6 ⟨rfl, h6, t6⟩
  have H6 : Hid (RpB w.heap.size (fun _ => False) w6 g ex5) := Lib.hid h6
  have T6 := Lib.hid (T5.out.trans t6)
  clear h6 t6
  go_wp2_with fail
  refine (bList w.heap.size (fun _ => False) w6 g _ H6.out 3).mono ?_
  rw [b1, b2]
  rintro e w7 ⟨v, rfl, hl, t7⟩
  obtain ⟨vA, vc, hve, _, _, _, _⟩ := (hl.rk encI_len (Nat.le_refl _)).open_
  rw [show ([2, 1, 3].map natI : List Int) = [2, 1, 3] by rfl] at hl hve
  simp only [List.length_cons, List.length_nil, Nat.zero_add] at hve
  subst hve
  have L7 := Lib.hid hl
  have H7 := Lib.hid (H6.out.below t7)
  have T7 := Lib.hid (T6.out.trans (TameR.of_below t7 T6.out.size))
  have B7 := Lib.hid t7
  clear hl t7
  go_wp2_with fail
  refine (bAll w.heap.size (fun _ => False) w7 g _ H7.out 1).mono ?_
  rw [b3, ex_all, show (SV.v ⟨18, 1⟩ : Value) = .agg #[.int .i64 18, .int .i64 1] by rfl]
  rintro e w8 ⟨rfl, t8⟩
  have H8 := Lib.hid (H7.out.below t8)
  have L8 := Lib.hid (L7.out.below t8)
  have T8 := Lib.hid (T7.out.trans (TameR.of_below t8 T7.out.size))
  clear t8
  go_wp2_with fail
  obtain ⟨pb, hpb⟩ : ∃ p, p = w8.heap.size := ⟨_, rfl⟩
  rw [← hpb]
  have hbx : Below w8.heap.size w8 (w8.alloc (Obj.cells #[Value.int IntKind.i64 18, Value.int IntKind.i64 1] 27)) := (Below.refl w8.heap.size w8).alloc (Nat.le_refl _) _
  have hblk : Blk (w8.alloc (Obj.cells #[Value.int IntKind.i64 18, Value.int IntKind.i64 1] 27)) pb 27 #[Value.int IntKind.i64 18, Value.int IntKind.i64 1] := by rw [hpb]; exact Blk.new _ _ _
  obtain ⟨w9, h9⟩ : ∃ x, x = w8.alloc (Obj.cells #[Value.int IntKind.i64 18, Value.int IntKind.i64 1] 27) := ⟨_, rfl⟩
  rw [← h9] at hbx hblk ⊢
  have H9 := Lib.hid (H8.out.below hbx)
  have L9 := Lib.hid (L8.out.below hbx)
  have T9 := Lib.hid (T8.out.trans (TameR.of_below hbx T8.out.size))
  have P9 := Lib.hid hblk
  clear hbx hblk hpb h9
  refine (bIndex w.heap.size (fun _ => False) w9 g _ H9.out 1).mono ?_
  rw [b4, b5]
  rintro e w10 ⟨rfl, t10⟩
  have H10 := Lib.hid (H9.out.below t10)
  have L10 := Lib.hid (L9.out.below t10)
  have P10 := Lib.hid ((TameR.of_below (Q := fun _ => False) t10 (Nat.le_refl _)).blk (by decide) (by decide) P9.out)
  have T10 := Lib.hid (T9.out.trans (TameR.of_below t10 T9.out.size))
  clear t10
  go_wp2_with fail
  refine (bSeek w.heap.size (fun _ => False) w10 g _ H10.out ex_fit 2).mono ?_
  rw [b6, b7]
  rintro e w11 ⟨rfl, t11⟩
  have H11 := Lib.hid (H10.out.below t11)
  have L11 := Lib.hid (L10.out.below t11)
  have P11 := Lib.hid ((TameR.of_below (Q := fun _ => False) t11 (Nat.le_refl _)).blk (by decide) (by decide) P10.out)
  have T11 := Lib.hid (T10.out.trans (TameR.of_below t11 T10.out.size))
  clear t11
  go_wp2_with fail
  refine (bCut w.heap.size (fun _ => False) w11 g _ H11.out T11.out.size 1).mono ?_
  rw [b5]
  rintro e w12 ⟨rfl, h12, t12⟩
  have H12 := Lib.hid h12
  have L12 := Lib.hid (t12.row (by decide) (by decide) L11.out)
  have P12 := Lib.hid (t12.blk (by decide) (by decide) P11.out)
  have T12 := Lib.hid (T11.out.trans t12)
  clear h12 t12
  go_wp2_with fail
  refine (bList w.heap.size (fun _ => False) w12 g _ H12.out 2).mono ?_
  rw [c1, c2]
  rintro e w13 ⟨v2, rfl, hl, t13⟩
  obtain ⟨vB, vd, hve, _, _, _, _⟩ := (hl.rk encI_len (Nat.le_refl _)).open_
  rw [show ([2].map natI : List Int) = [2] by rfl] at hve
  simp only [List.length_cons, List.length_nil, Nat.zero_add] at hve
  subst hve
  have L13 := Lib.hid (L12.out.below t13)
  have P13 := Lib.hid ((TameR.of_below (Q := fun _ => False) t13 (Nat.le_refl _)).blk (by decide) (by decide) P12.out)
  have T13 := Lib.hid (T12.out.trans (TameR.of_below t13 T12.out.size))
  clear hl t13
  go_wp2_with fail
  refine (SameInts_yes _ _ [2, 1, 3] _ w13.heap.size (w13.heap.size + 1) ((L13.out.rk encI_len (Nat.le_refl _)).alloc (Nat.le_refl _) _) (ri_three w13 2 1 3 _ _ (by omega))).mono ?_
  rintro e w14 ⟨rfl, q, rfl⟩
  have c0 : ((w13.alloc (Obj.cells #[Value.int IntKind.i64 2, Value.int IntKind.i64 1, Value.int IntKind.i64 3] 3)).drewN q).cell? ⟨pb, 0, none⟩ = some (.int .i64 18) := by
    have := P13.out.alloc (Obj.cells #[Value.int IntKind.i64 2, Value.int IntKind.i64 1, Value.int IntKind.i64 3] 3)
    exact this.cell 0
  have hbx : Below w.heap.size w ((w13.alloc (Obj.cells #[Value.int IntKind.i64 2, Value.int IntKind.i64 1, Value.int IntKind.i64 3] 3)).drewN q) := below_drewN (T13.out.below.alloc T13.out.size _) q
  generalize ((w13.alloc (Obj.cells #[Value.int IntKind.i64 2, Value.int IntKind.i64 1, Value.int IntKind.i64 3] 3)).drewN q) = w14 at c0 hbx ⊢
  have HB := Lib.hid hbx
  clear hbx
  go_wp2_with fail
  go_ret
  exact ⟨rfl, HB.out⟩

end Go.Proofs.Ytbbfnbnjaiimgaa
