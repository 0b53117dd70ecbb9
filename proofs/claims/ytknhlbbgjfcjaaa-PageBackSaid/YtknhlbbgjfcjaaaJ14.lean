/-
  The walk of skeinlaw08's asks, the document's page being empty: the other calls; filled.
-/
import Derived.Test.YtknhlbbgjfcjaaaJ13
namespace Go.Proofs.Ytknhlbbgjfcjaaa
open Go.RowKit Go.Maps
set_option linter.unusedVariables false

theorem pageItem_no {w : World} {p B : Nat} {v : Value} {xs : List Sl} {m : PG} (h : PageAt w p B v xs m) {i : Int} (hi : m.isSlot i = false) : Calls Try.prog 36 #[.pointer (some ⟨p, 0, none⟩), .int .i64 i] w fun e w' => (∃ A n c f, e = .returned (.tuple #[.slice A n c, .int .i64 f]) ∧ f = 82 ∧ A = none ∧ n = 0 ∧ c = 0) ∧ Below w.heap.size w w' := by
  refine (pageItem_any w p B v xs m h i).mono ?_
  rintro e w' (⟨_, rfl, rfl⟩ | ⟨h1, _⟩)
  · exact ⟨⟨none, 0, 0, 82, rfl, rfl, rfl, rfl, rfl⟩, Below.refl _ _⟩
  · rw [hi] at h1; cases h1
theorem pageItem_yes {w : World} {p B : Nat} {v : Value} {xs : List Sl} {m : PG} (h : PageAt w p B v xs m) {i : Int} (hi : m.isSlot i = true) : Calls Try.prog 36 #[.pointer (some ⟨p, 0, none⟩), .int .i64 i] w fun e w' => (∃ A n c, e = .returned (.tuple #[.slice A n c, .int .i64 0]) ∧ OB w' w.heap.size (.slice A n c) (m.items.getD i.toNat []) ∧ n = (m.items.getD i.toNat []).length) ∧ Below w.heap.size w w' := by
  refine (pageItem_any w p B v xs m h i).mono ?_
  rintro e w' (⟨h1, _⟩ | ⟨_, v', rfl, ho, hb⟩)
  · rw [hi] at h1; cases h1
  · obtain ⟨A, c, rfl, _, _, _, _⟩ := ho.rbn.open_
    exact ⟨⟨A, _, c, rfl, ho, rfl⟩, hb⟩
theorem PgOut.eq {w w' : World} {p B : Nat} {v : Value} {xs : List Sl} {m m' : PG} (h : PageAt w' p B v xs m') (hs : PgStep w w' p v v) (hi : m'.items = m.items) : PgOut w w' p B v xs m m' := ⟨v, xs, h, hs, fun Q hq _ => by rw [hi]; exact hq⟩

set_option maxRecDepth 100000 in
set_option maxHeartbeats 1000000 in
theorem asks_remove (w : World) (p B : Nat) (v : Value) (xs : List Sl) (m : PG) (h : PageAt w p B v xs m) (kind i : Int) (dv : Value)  (m' : PG) (hm' : m' = if m.isSlot i = true then m.remove i.toNat else m) :
    Calls Try.prog 28 #[.pointer (some ⟨p, 0, none⟩), refP none 0 0, .agg #[.int .i64 3, .int .i64 i, dv]] w (AskOut w p B v xs m m') := by
  have HM' := Lib.hid hm'
  have HPG0 := Lib.hid h
  have hrl := h.rowlt
  have hplt := h.lt
  unfold refP
  obtain ⟨W0, hW0, hb1, hb2, hb3, hw0, hz0⟩ := three_laid w #[.int .i64 0, .int .u8 0, .int .u32 0, .slice none 0 0] #[.int .i64 3, .int .i64 i, dv] #[.int .i64 0, .int .u8 0, .int .u32 0, .slice none 0 0] 49 58 49
  have HP := Lib.hid (h.below hw0)
  have HW0 := Lib.hid hw0
  have HB1 := Lib.hid hb1
  have HB2 := Lib.hid hb2
  have HB3 := Lib.hid hb3
  have HRL := Lib.hid hrl
  have HWE := Lib.hid hW0
  have k20 : W0.cell? ⟨w.heap.size + 1, 0, none⟩ = some (.int .i64 3) := hb2.cell 0
  have k21 : W0.cell? ⟨w.heap.size + 1, 1, none⟩ = some (.int .i64 i) := hb2.cell 1
  obtain ⟨k10, k11, k12, k13⟩ := hb1.cells4
  clear h hb1 hb2 hb3 hw0 hrl hm' hW0
  go_enter Try.func28, Try.ntmps28
  rw [HWE.out] at k20 k21 k10 k11 k12 k13
  go_wp2_with fail
  obtain ⟨b1, hb1⟩ : ∃ b1, b1 = w.heap.size := ⟨_, rfl⟩
  obtain ⟨b2, hb2⟩ : ∃ b2, b2 = w.heap.size + 1 := ⟨_, rfl⟩
  obtain ⟨b3, hb3⟩ : ∃ b3, b3 = w.heap.size + 1 + 1 := ⟨_, rfl⟩
  rw [← HWE.out] at k20 k21 k10 k11 k12 k13 ⊢
  rw [← hb1] at HB1 k10 k11 k12 k13
  rw [← hb2] at HB2 k20 k21
  rw [show w.heap.size + 2 = b3 by omega] at HB3
  rw [← hb3, ← hb2, ← hb1]
  have hbb : p < b1 ∧ b1 < b2 ∧ b2 < b3 ∧ b3 < W0.heap.size := by omega
  have hnS : ∀ k, b1 ≤ k → ¬ (k = p ∨ v.ownBlock = some k) := fun k hk e => by have := HRL.out k e; omega
  have HNS := Lib.hid hnS
  have HB1E := Lib.hid hb1
  clear hb1 hb2 hb3 hnS
  refine (pageRemove_u HP.out i HM'.out).mono ?_
  rintro e4 w4 ⟨rfl, hout⟩
  obtain ⟨v4, xs4, hp4, hs4, hi4⟩ := hout
  have P1 := Lib.hid (HB1.out.mod hs4.mod (HNS.out b1 (by omega)))
  have P2 := Lib.hid (HB2.out.mod hs4.mod (HNS.out b2 (by omega)))
  have P3 := Lib.hid (HB3.out.mod hs4.mod (HNS.out b3 (by omega)))
  have HOUT : Hid (PgOut W0 w4 p B v xs m m') := ⟨v4, xs4, hp4, hs4, hi4⟩
  obtain ⟨fe, hfe⟩ : ∃ fe : Int, fe = if m.isSlot i = true then 0 else 82 := ⟨_, rfl⟩
  rw [← hfe]
  obtain ⟨c10, c11, c12, c13⟩ := P1.out.cells4
  have c21 : w4.cell? ⟨b2, 1, none⟩ = some (.int .i64 i) := P2.out.cell 1
  have hz4 := hs4.mod.size
  clear k10 k11 k12 k13 k20 k21 hp4 hs4 hi4 hfe
  go_wp2_with fail
  have hr := refRemove_any w4 i
  unfold refP at hr
  refine hr.mono ?_
  rintro e5 w5 ⟨rfl, hb5⟩
  have hz5 := hb5.size
  have q3 := P3.out.below hb5 P3.out.lt
  have r3 := q3.alloc (.cells #[.int .i64 0, .int .u8 0, .int .u32 0, .slice none 0 0] 49)
  have r4 := Blk.new w5 49 #[.int .i64 0, .int .u8 0, .int .u32 0, .slice none 0 0]
  obtain ⟨d0, d1, d2, d3⟩ := r3.cells4
  obtain ⟨x0, x1, x2, x3⟩ := r4.cells4
  have f0 := r3.frozen 0
  have f1 := r3.frozen 1
  have f2 := r3.frozen 2
  have f3 := r3.frozen 3
  have HB5 := Lib.hid hb5
  have R3 := Lib.hid r3
  clear c10 c11 c12 c13 c21 hr hb5 q3 r3 r4
  go_wp2_with fail
  have h9 := (((R3.out.set_ 0 (.int .i64 0)).set_ 1 (.int .u8 0)).set_ 2 (.int .u32 0)).set_ 3 (.slice none 0 0)
  have hmm : Mod (fun k => k = b3) w4 (((((w5.alloc (.cells #[.int .i64 0, .int .u8 0, .int .u32 0, .slice none 0 0] 49)).setCell ⟨b3, 0, none⟩ (.int .i64 0)).setCell ⟨b3, 1, none⟩ (.int .u8 0)).setCell ⟨b3, 2, none⟩ (.int .u32 0)).setCell ⟨b3, 3, none⟩ (.slice none 0 0)) :=
    (((((Mod.of_below HB5.out (fun k => k = b3)).alloc _).trans' mod_set).trans' mod_set).trans' mod_set).trans' mod_set
  have hfin := PgOut.around HPG0.out HW0.out HOUT.out hmm (fun k e => by have := HB1E.out; have e : k = b3 := e; omega)
  exact ret_pg8 Try.results28 rfl rfl h9 rfl ⟨⟨_, rfl⟩, hfin⟩

set_option maxRecDepth 100000 in
set_option maxHeartbeats 1000000 in
theorem asks_extra (w : World) (p B : Nat) (v : Value) (xs : List Sl) (m : PG) (h : PageAt w p B v xs m) (kind i : Int) (dv : Value)  (m' : PG) (hm' : m' = { m with extra := (i % 4294967296).toNat }) :
    Calls Try.prog 28 #[.pointer (some ⟨p, 0, none⟩), refP none 0 0, .agg #[.int .i64 5, .int .i64 i, dv]] w (AskOut w p B v xs m m') := by
  have HM' := Lib.hid hm'
  have HPG0 := Lib.hid h
  have hrl := h.rowlt
  have hplt := h.lt
  unfold refP
  obtain ⟨W0, hW0, hb1, hb2, hb3, hw0, hz0⟩ := three_laid w #[.int .i64 0, .int .u8 0, .int .u32 0, .slice none 0 0] #[.int .i64 5, .int .i64 i, dv] #[.int .i64 0, .int .u8 0, .int .u32 0, .slice none 0 0] 49 58 49
  have HP := Lib.hid (h.below hw0)
  have HW0 := Lib.hid hw0
  have HB1 := Lib.hid hb1
  have HB2 := Lib.hid hb2
  have HB3 := Lib.hid hb3
  have HRL := Lib.hid hrl
  have HWE := Lib.hid hW0
  have k20 : W0.cell? ⟨w.heap.size + 1, 0, none⟩ = some (.int .i64 5) := hb2.cell 0
  have k21 : W0.cell? ⟨w.heap.size + 1, 1, none⟩ = some (.int .i64 i) := hb2.cell 1
  obtain ⟨k10, k11, k12, k13⟩ := hb1.cells4
  clear h hb1 hb2 hb3 hw0 hrl hm' hW0
  go_enter Try.func28, Try.ntmps28
  rw [HWE.out] at k20 k21 k10 k11 k12 k13
  obtain ⟨xn, hxn⟩ : ∃ xn : Nat, xn = (i % 4294967296).toNat := ⟨_, rfl⟩
  have hwx : IntKind.u32.wrap i = (xn : Int) := by rw [IntKind.wrap_u32]; omega
  have hx32 : xn < 4294967296 := by omega
  rw [← hxn] at HM'
  clear hxn
  go_wp2_with fail
  obtain ⟨b1, hb1⟩ : ∃ b1, b1 = w.heap.size := ⟨_, rfl⟩
  obtain ⟨b2, hb2⟩ : ∃ b2, b2 = w.heap.size + 1 := ⟨_, rfl⟩
  obtain ⟨b3, hb3⟩ : ∃ b3, b3 = w.heap.size + 1 + 1 := ⟨_, rfl⟩
  rw [← HWE.out] at k20 k21 k10 k11 k12 k13 ⊢
  rw [← hb1] at HB1 k10 k11 k12 k13
  rw [← hb2] at HB2 k20 k21
  rw [show w.heap.size + 2 = b3 by omega] at HB3
  rw [← hb3, ← hb2, ← hb1]
  have hbb : p < b1 ∧ b1 < b2 ∧ b2 < b3 ∧ b3 < W0.heap.size := by omega
  have hnS : ∀ k, b1 ≤ k → ¬ (k = p ∨ v.ownBlock = some k) := fun k hk e => by have := HRL.out k e; omega
  have HNS := Lib.hid hnS
  have HB1E := Lib.hid hb1
  clear hb1 hb2 hb3 hnS
  refine (pageSetExtra_any W0 p B v xs m HP.out xn hx32).mono ?_
  rintro e4 w4 ⟨rfl, hp4, hs4⟩
  rw [← HM'.out] at hp4
  have P1 := Lib.hid (HB1.out.mod hs4.mod (HNS.out b1 (by omega)))
  have P2 := Lib.hid (HB2.out.mod hs4.mod (HNS.out b2 (by omega)))
  have P3 := Lib.hid (HB3.out.mod hs4.mod (HNS.out b3 (by omega)))
  have HOUT : Hid (PgOut W0 w4 p B v xs m m') := PgOut.eq hp4 hs4 (by rw [HM'.out])
  obtain ⟨c10, c11, c12, c13⟩ := P1.out.cells4
  have c21 : w4.cell? ⟨b2, 1, none⟩ = some (.int .i64 i) := P2.out.cell 1
  obtain ⟨d0, d1, d2, d3⟩ := P3.out.cells4
  have f12 := P1.out.frozen 2
  have f0 := P3.out.frozen 0
  have f1 := P3.out.frozen 1
  have f2 := P3.out.frozen 2
  have f3 := P3.out.frozen 3
  have hne1 : ¬ b3 = b1 := by omega
  have hne2 : ¬ b1 = b3 := by omega
  have hne3 : ¬ b2 = b1 := by omega
  have hne4 : ¬ b1 = b2 := by omega
  clear k10 k11 k12 k13 k20 k21 hp4 hs4
  go_wp2_with fail
  have h9 := ((((P3.out.far (p := ⟨b1, 2, none⟩) (by simpa using hne1) (.int .u32 (xn : Int))).set_ 0 (.int .i64 0)).set_ 1 (.int .u8 0)).set_ 2 (.int .u32 (xn : Int))).set_ 3 (.slice none 0 0)
  have hmm : Mod (fun k => k = b1 ∨ k = b3) w4 (((((w4.setCell ⟨b1, 2, none⟩ (.int .u32 (xn : Int))).setCell ⟨b3, 0, none⟩ (.int .i64 0)).setCell ⟨b3, 1, none⟩ (.int .u8 0)).setCell ⟨b3, 2, none⟩ (.int .u32 (xn : Int))).setCell ⟨b3, 3, none⟩ (.slice none 0 0)) :=
    (((((Mod.refl _ _).setCell (p := ⟨b1, 2, none⟩) (fun _ => .inl rfl) _).setCell (p := ⟨b3, 0, none⟩) (fun _ => .inr rfl) _).setCell (p := ⟨b3, 1, none⟩) (fun _ => .inr rfl) _).setCell (p := ⟨b3, 2, none⟩) (fun _ => .inr rfl) _).setCell (p := ⟨b3, 3, none⟩) (fun _ => .inr rfl) _
  have hfin := PgOut.around HPG0.out HW0.out HOUT.out hmm (fun k e => by have := HB1E.out; rcases e with e | e <;> omega)
  exact ret_pg8 Try.results28 rfl rfl h9 rfl ⟨⟨_, rfl⟩, hfin⟩

set_option maxRecDepth 100000 in
set_option maxHeartbeats 1000000 in
theorem asks_lsn (w : World) (p B : Nat) (v : Value) (xs : List Sl) (m : PG) (h : PageAt w p B v xs m) (kind i : Int) (dv : Value) (hi : i ≤ 9223372036854775807) (m' : PG) (hm' : m' = { m with lsn := max i 0 }) :
    Calls Try.prog 28 #[.pointer (some ⟨p, 0, none⟩), refP none 0 0, .agg #[.int .i64 6, .int .i64 i, dv]] w (AskOut w p B v xs m m') := by
  have HM' := Lib.hid hm'
  have HPG0 := Lib.hid h
  have hrl := h.rowlt
  have hplt := h.lt
  unfold refP
  obtain ⟨W0, hW0, hb1, hb2, hb3, hw0, hz0⟩ := three_laid w #[.int .i64 0, .int .u8 0, .int .u32 0, .slice none 0 0] #[.int .i64 6, .int .i64 i, dv] #[.int .i64 0, .int .u8 0, .int .u32 0, .slice none 0 0] 49 58 49
  have HP := Lib.hid (h.below hw0)
  have HW0 := Lib.hid hw0
  have HB1 := Lib.hid hb1
  have HB2 := Lib.hid hb2
  have HB3 := Lib.hid hb3
  have HRL := Lib.hid hrl
  have HWE := Lib.hid hW0
  have k20 : W0.cell? ⟨w.heap.size + 1, 0, none⟩ = some (.int .i64 6) := hb2.cell 0
  have k21 : W0.cell? ⟨w.heap.size + 1, 1, none⟩ = some (.int .i64 i) := hb2.cell 1
  obtain ⟨k10, k11, k12, k13⟩ := hb1.cells4
  clear h hb1 hb2 hb3 hw0 hrl hm' hW0
  go_enter Try.func28, Try.ntmps28
  rw [HWE.out] at k20 k21 k10 k11 k12 k13
  have hmax : ∀ W ty, (Builtin.max_ #[3, 3] ty #[.int .i64 i, .int .i64 0]).run Try.prog W = .ok (.int .i64 (max i 0)) W := by
    intro W ty
    have e : (if 0 > i then 0 else i) = max i 0 := by split <;> omega
    simp [Builtin.max_, Builtin.max2, List.foldlM]
    omega
  go_wp2_with fail
  obtain ⟨b1, hb1⟩ : ∃ b1, b1 = w.heap.size := ⟨_, rfl⟩
  obtain ⟨b2, hb2⟩ : ∃ b2, b2 = w.heap.size + 1 := ⟨_, rfl⟩
  obtain ⟨b3, hb3⟩ : ∃ b3, b3 = w.heap.size + 1 + 1 := ⟨_, rfl⟩
  rw [← HWE.out] at k20 k21 k10 k11 k12 k13 ⊢
  rw [← hb1] at HB1 k10 k11 k12 k13
  rw [← hb2] at HB2 k20 k21
  rw [show w.heap.size + 2 = b3 by omega] at HB3
  rw [← hb3, ← hb2, ← hb1]
  have hbb : p < b1 ∧ b1 < b2 ∧ b2 < b3 ∧ b3 < W0.heap.size := by omega
  have hnS : ∀ k, b1 ≤ k → ¬ (k = p ∨ v.ownBlock = some k) := fun k hk e => by have := HRL.out k e; omega
  have HNS := Lib.hid hnS
  have HB1E := Lib.hid hb1
  clear hb1 hb2 hb3 hnS
  refine (pageSetLSN_any W0 p B v xs m HP.out i hi).mono ?_
  rintro e4 w4 ⟨rfl, hp4, hs4⟩
  rw [← HM'.out] at hp4
  have P1 := Lib.hid (HB1.out.mod hs4.mod (HNS.out b1 (by omega)))
  have P2 := Lib.hid (HB2.out.mod hs4.mod (HNS.out b2 (by omega)))
  have P3 := Lib.hid (HB3.out.mod hs4.mod (HNS.out b3 (by omega)))
  have HOUT : Hid (PgOut W0 w4 p B v xs m m') := PgOut.eq hp4 hs4 (by rw [HM'.out])
  obtain ⟨c10, c11, c12, c13⟩ := P1.out.cells4
  have c21 : w4.cell? ⟨b2, 1, none⟩ = some (.int .i64 i) := P2.out.cell 1
  obtain ⟨d0, d1, d2, d3⟩ := P3.out.cells4
  have f12 := P1.out.frozen 0
  have f0 := P3.out.frozen 0
  have f1 := P3.out.frozen 1
  have f2 := P3.out.frozen 2
  have f3 := P3.out.frozen 3
  have hne1 : ¬ b3 = b1 := by omega
  have hne2 : ¬ b1 = b3 := by omega
  have hne3 : ¬ b2 = b1 := by omega
  have hne4 : ¬ b1 = b2 := by omega
  clear k10 k11 k12 k13 k20 k21 hp4 hs4
  go_wp2_with fail
  have h9 := ((((P3.out.far (p := ⟨b1, 0, none⟩) (by simpa using hne1) (.int .i64 (max i 0))).set_ 0 (.int .i64 (max i 0))).set_ 1 (.int .u8 0)).set_ 2 (.int .u32 0)).set_ 3 (.slice none 0 0)
  have hmm : Mod (fun k => k = b1 ∨ k = b3) w4 (((((w4.setCell ⟨b1, 0, none⟩ (.int .i64 (max i 0))).setCell ⟨b3, 0, none⟩ (.int .i64 (max i 0))).setCell ⟨b3, 1, none⟩ (.int .u8 0)).setCell ⟨b3, 2, none⟩ (.int .u32 0)).setCell ⟨b3, 3, none⟩ (.slice none 0 0)) :=
    (((((Mod.refl _ _).setCell (p := ⟨b1, 0, none⟩) (fun _ => .inl rfl) _).setCell (p := ⟨b3, 0, none⟩) (fun _ => .inr rfl) _).setCell (p := ⟨b3, 1, none⟩) (fun _ => .inr rfl) _).setCell (p := ⟨b3, 2, none⟩) (fun _ => .inr rfl) _).setCell (p := ⟨b3, 3, none⟩) (fun _ => .inr rfl) _
  have hfin := PgOut.around HPG0.out HW0.out HOUT.out hmm (fun k e => by have := HB1E.out; rcases e with e | e <;> omega)
  exact ret_pg8 Try.results28 rfl rfl h9 rfl ⟨⟨_, rfl⟩, hfin⟩

set_option maxRecDepth 100000 in
set_option maxHeartbeats 1000000 in
theorem asks_other (w : World) (p B : Nat) (v : Value) (xs : List Sl) (m : PG) (h : PageAt w p B v xs m) (kind i : Int) (dv : Value) (h1 : ¬ kind = 1) (h2 : ¬ kind = 2) (h3 : ¬ kind = 3) (h4 : ¬ kind = 4) (h5 : ¬ kind = 5) (h6 : ¬ kind = 6) (m' : PG) (hm' : m' = m) :
    Calls Try.prog 28 #[.pointer (some ⟨p, 0, none⟩), refP none 0 0, .agg #[.int .i64 kind, .int .i64 i, dv]] w (AskOut w p B v xs m m') := by
  have HM' := Lib.hid hm'
  have HPG0 := Lib.hid h
  have hrl := h.rowlt
  have hplt := h.lt
  unfold refP
  obtain ⟨W0, hW0, hb1, hb2, hb3, hw0, hz0⟩ := three_laid w #[.int .i64 0, .int .u8 0, .int .u32 0, .slice none 0 0] #[.int .i64 kind, .int .i64 i, dv] #[.int .i64 0, .int .u8 0, .int .u32 0, .slice none 0 0] 49 58 49
  have HP := Lib.hid (h.below hw0)
  have HW0 := Lib.hid hw0
  have HB1 := Lib.hid hb1
  have HB2 := Lib.hid hb2
  have HB3 := Lib.hid hb3
  have HRL := Lib.hid hrl
  have HWE := Lib.hid hW0
  have k20 : W0.cell? ⟨w.heap.size + 1, 0, none⟩ = some (.int .i64 kind) := hb2.cell 0
  have k21 : W0.cell? ⟨w.heap.size + 1, 1, none⟩ = some (.int .i64 i) := hb2.cell 1
  obtain ⟨k10, k11, k12, k13⟩ := hb1.cells4
  clear h hb1 hb2 hb3 hw0 hrl hm' hW0
  go_enter Try.func28, Try.ntmps28
  rw [HWE.out] at k20 k21 k10 k11 k12 k13
  have g1 : (kind == 1) = false := by simpa using h1
  have g2 : (kind == 2) = false := by simpa using h2
  have g3 : (kind == 3) = false := by simpa using h3
  have g4 : (kind == 4) = false := by simpa using h4
  have g5 : (kind == 5) = false := by simpa using h5
  have g6 : (kind == 6) = false := by simpa using h6
  have p1 : ¬ 1 = kind := fun e => h1 e.symm
  go_wp2_with fail
  refine bodyPost_ret (v := .tuple #[.agg #[.int .i64 0, .int .u8 0, .int .u32 0, .slice none 0 0], .bool true]) (by simp [results, Try.results28, go_sem]; try rfl) rfl ⟨⟨_, rfl⟩, ?_⟩
  rw [HM'.out]
  refine PgOut.same HPG0.out ?_
  go_grown

set_option maxRecDepth 100000 in
set_option maxHeartbeats 1000000 in
theorem asks_item_no (w : World) (p B : Nat) (v : Value) (xs : List Sl) (m : PG) (h : PageAt w p B v xs m) (kind i : Int) (dv : Value) (hs : m.isSlot i = false) (m' : PG) (hm' : m' = m) :
    Calls Try.prog 28 #[.pointer (some ⟨p, 0, none⟩), refP none 0 0, .agg #[.int .i64 4, .int .i64 i, dv]] w (AskOut w p B v xs m m') := by
  have HM' := Lib.hid hm'
  have HPG0 := Lib.hid h
  have hrl := h.rowlt
  have hplt := h.lt
  unfold refP
  obtain ⟨W0, hW0, hb1, hb2, hb3, hw0, hz0⟩ := three_laid w #[.int .i64 0, .int .u8 0, .int .u32 0, .slice none 0 0] #[.int .i64 4, .int .i64 i, dv] #[.int .i64 0, .int .u8 0, .int .u32 0, .slice none 0 0] 49 58 49
  have HP := Lib.hid (h.below hw0)
  have HW0 := Lib.hid hw0
  have HB1 := Lib.hid hb1
  have HB2 := Lib.hid hb2
  have HB3 := Lib.hid hb3
  have HRL := Lib.hid hrl
  have HWE := Lib.hid hW0
  have k20 : W0.cell? ⟨w.heap.size + 1, 0, none⟩ = some (.int .i64 4) := hb2.cell 0
  have k21 : W0.cell? ⟨w.heap.size + 1, 1, none⟩ = some (.int .i64 i) := hb2.cell 1
  obtain ⟨k10, k11, k12, k13⟩ := hb1.cells4
  clear h hb1 hb2 hb3 hw0 hrl hm' hW0
  go_enter Try.func28, Try.ntmps28
  rw [HWE.out] at k20 k21 k10 k11 k12 k13
  have HS := Lib.hid hs
  clear hs
  go_wp2_with fail
  obtain ⟨b1, hb1⟩ : ∃ b1, b1 = w.heap.size := ⟨_, rfl⟩
  obtain ⟨b2, hb2⟩ : ∃ b2, b2 = w.heap.size + 1 := ⟨_, rfl⟩
  obtain ⟨b3, hb3⟩ : ∃ b3, b3 = w.heap.size + 1 + 1 := ⟨_, rfl⟩
  rw [← HWE.out] at k20 k21 k10 k11 k12 k13 ⊢
  rw [← hb1] at HB1 k10 k11 k12 k13
  rw [← hb2] at HB2 k20 k21
  rw [show w.heap.size + 2 = b3 by omega] at HB3
  rw [← hb3, ← hb2, ← hb1]
  have hbb : p < b1 ∧ b1 < b2 ∧ b2 < b3 ∧ b3 < W0.heap.size := by omega
  have hnS : ∀ k, b1 ≤ k → ¬ (k = p ∨ v.ownBlock = some k) := fun k hk e => by have := HRL.out k e; omega
  have HNS := Lib.hid hnS
  have HB1E := Lib.hid hb1
  clear hb1 hb2 hb3 hnS
  refine (pageItem_no HP.out HS.out).mono ?_
  rintro e4 w4 ⟨⟨A4, n4, c4, f4, rfl, rfl, rfl, rfl, rfl⟩, hb4⟩
  have P1 := Lib.hid (HB1.out.below hb4 HB1.out.lt)
  have P2 := Lib.hid (HB2.out.below hb4 HB2.out.lt)
  have P3 := Lib.hid (HB3.out.below hb4 HB3.out.lt)
  have PP := Lib.hid (HP.out.below hb4)
  have c21 : w4.cell? ⟨b2, 1, none⟩ = some (.int .i64 i) := P2.out.cell 1
  have HB4 := Lib.hid hb4
  have hz4 := hb4.size
  clear k10 k11 k12 k13 k20 k21 hb4
  go_wp2_with fail
  refine (pageItem_no PP.out HS.out).mono ?_
  rintro e5 w5 ⟨⟨A5, n5, c5, f5, rfl, rfl, rfl, rfl, rfl⟩, hb5⟩
  have q1 := P1.out.below hb5 P1.out.lt
  have q2 := P2.out.below hb5 P2.out.lt
  have q3 := P3.out.below hb5 P3.out.lt
  have HB5 := Lib.hid hb5
  have Q3 := Lib.hid q3
  obtain ⟨c10, c11, c12, c13⟩ := q1.cells4
  have x21 : w5.cell? ⟨b2, 1, none⟩ = some (.int .i64 i) := q2.cell 1
  obtain ⟨d0, d1, d2, d3⟩ := q3.cells4
  have f0 := q3.frozen 0
  have f1 := q3.frozen 1
  have f2 := q3.frozen 2
  have f3 := q3.frozen 3
  clear c21 hb5 q1 q2 q3
  have hmm : Mod (fun k => k = b3) W0 ((((w5.setCell ⟨b3, 0, none⟩ (.int .i64 0)).setCell ⟨b3, 1, none⟩ (.int .u8 0)).setCell ⟨b3, 2, none⟩ (.int .u32 0)).setCell ⟨b3, 3, none⟩ (.slice none 0 0)) :=
    (((((Mod.of_below HB4.out (fun k => k = b3)).trans' (Mod.of_below HB5.out _)).trans' mod_set).trans' mod_set).trans' mod_set).trans' mod_set
  have hfin := PgOut.around HPG0.out HW0.out (PgOut.same HP.out (Below.refl _ _)) hmm (fun k e => by have := HB1E.out; have e : k = b3 := e; omega)
  have HFIN : Hid (PgOut w ((((w5.setCell ⟨b3, 0, none⟩ (.int .i64 0)).setCell ⟨b3, 1, none⟩ (.int .u8 0)).setCell ⟨b3, 2, none⟩ (.int .u32 0)).setCell ⟨b3, 3, none⟩ (.slice none 0 0)) p B v xs m m') := by
    show PgOut _ _ _ _ _ _ _ _
    rw [HM'.out]; exact hfin
  have h9 := (((Q3.out.set_ 0 (.int .i64 0)).set_ 1 (.int .u8 0)).set_ 2 (.int .u32 0)).set_ 3 (.slice none 0 0)
  have H9 := Lib.hid h9
  clear hfin hmm h9
  by_cases hi0 : i < 0
  · go_wp2_with fail
    exact ret_pg8 Try.results28 rfl rfl H9.out rfl ⟨⟨_, rfl⟩, HFIN.out⟩
  · have hi1 : 0 ≤ i := by omega
    go_wp2_with fail
    exact ret_pg8 Try.results28 rfl rfl H9.out rfl ⟨⟨_, rfl⟩, HFIN.out⟩

set_option maxRecDepth 100000 in
set_option maxHeartbeats 1000000 in
theorem asks_item_yes (w : World) (p B : Nat) (v : Value) (xs : List Sl) (m : PG) (h : PageAt w p B v xs m) (kind i : Int) (dv : Value) (hs : m.isSlot i = true) (m' : PG) (hm' : m' = m) :
    Calls Try.prog 28 #[.pointer (some ⟨p, 0, none⟩), refP none 0 0, .agg #[.int .i64 4, .int .i64 i, dv]] w (AskOut w p B v xs m m') := by
  have HM' := Lib.hid hm'
  have HPG0 := Lib.hid h
  have hrl := h.rowlt
  have hplt := h.lt
  unfold refP
  obtain ⟨W0, hW0, hb1, hb2, hb3, hw0, hz0⟩ := three_laid w #[.int .i64 0, .int .u8 0, .int .u32 0, .slice none 0 0] #[.int .i64 4, .int .i64 i, dv] #[.int .i64 0, .int .u8 0, .int .u32 0, .slice none 0 0] 49 58 49
  have HP := Lib.hid (h.below hw0)
  have HW0 := Lib.hid hw0
  have HB1 := Lib.hid hb1
  have HB2 := Lib.hid hb2
  have HB3 := Lib.hid hb3
  have HRL := Lib.hid hrl
  have HWE := Lib.hid hW0
  have k20 : W0.cell? ⟨w.heap.size + 1, 0, none⟩ = some (.int .i64 4) := hb2.cell 0
  have k21 : W0.cell? ⟨w.heap.size + 1, 1, none⟩ = some (.int .i64 i) := hb2.cell 1
  obtain ⟨k10, k11, k12, k13⟩ := hb1.cells4
  clear h hb1 hb2 hb3 hw0 hrl hm' hW0
  go_enter Try.func28, Try.ntmps28
  rw [HWE.out] at k20 k21 k10 k11 k12 k13
  have HS := Lib.hid hs
  clear hs
  go_wp2_with fail
  obtain ⟨b1, hb1⟩ : ∃ b1, b1 = w.heap.size := ⟨_, rfl⟩
  obtain ⟨b2, hb2⟩ : ∃ b2, b2 = w.heap.size + 1 := ⟨_, rfl⟩
  obtain ⟨b3, hb3⟩ : ∃ b3, b3 = w.heap.size + 1 + 1 := ⟨_, rfl⟩
  rw [← HWE.out] at k20 k21 k10 k11 k12 k13 ⊢
  rw [← hb1] at HB1 k10 k11 k12 k13
  rw [← hb2] at HB2 k20 k21
  rw [show w.heap.size + 2 = b3 by omega] at HB3
  rw [← hb3, ← hb2, ← hb1]
  have hbb : p < b1 ∧ b1 < b2 ∧ b2 < b3 ∧ b3 < W0.heap.size := by omega
  have hnS : ∀ k, b1 ≤ k → ¬ (k = p ∨ v.ownBlock = some k) := fun k hk e => by have := HRL.out k e; omega
  have HNS := Lib.hid hnS
  have HB1E := Lib.hid hb1
  clear hb1 hb2 hb3 hnS
  refine (pageItem_yes HP.out HS.out).mono ?_
  rintro e4 w4 ⟨⟨A4, n4, c4, rfl, -, -⟩, hb4⟩
  have P1 := Lib.hid (HB1.out.below hb4 HB1.out.lt)
  have P2 := Lib.hid (HB2.out.below hb4 HB2.out.lt)
  have P3 := Lib.hid (HB3.out.below hb4 HB3.out.lt)
  have PP := Lib.hid (HP.out.below hb4)
  have c21 : w4.cell? ⟨b2, 1, none⟩ = some (.int .i64 i) := P2.out.cell 1
  have HB4 := Lib.hid hb4
  have hz4 := hb4.size
  clear k10 k11 k12 k13 k20 k21 hb4
  go_wp2_with fail
  refine (pageItem_yes PP.out HS.out).mono ?_
  rintro e5 w5 ⟨⟨A5, n5, c5, rfl, -, -⟩, hb5⟩
  have q1 := P1.out.below hb5 P1.out.lt
  have q2 := P2.out.below hb5 P2.out.lt
  have q3 := P3.out.below hb5 P3.out.lt
  have HB5 := Lib.hid hb5
  have Q3 := Lib.hid q3
  obtain ⟨c10, c11, c12, c13⟩ := q1.cells4
  have x21 : w5.cell? ⟨b2, 1, none⟩ = some (.int .i64 i) := q2.cell 1
  obtain ⟨d0, d1, d2, d3⟩ := q3.cells4
  have f0 := q3.frozen 0
  have f1 := q3.frozen 1
  have f2 := q3.frozen 2
  have f3 := q3.frozen 3
  clear c21 hb5 q1 q2 q3
  have hmm : Mod (fun k => k = b3) W0 ((((w5.setCell ⟨b3, 0, none⟩ (.int .i64 0)).setCell ⟨b3, 1, none⟩ (.int .u8 0)).setCell ⟨b3, 2, none⟩ (.int .u32 0)).setCell ⟨b3, 3, none⟩ (.slice none 0 0)) :=
    (((((Mod.of_below HB4.out (fun k => k = b3)).trans' (Mod.of_below HB5.out _)).trans' mod_set).trans' mod_set).trans' mod_set).trans' mod_set
  have hfin := PgOut.around HPG0.out HW0.out (PgOut.same HP.out (Below.refl _ _)) hmm (fun k e => by have := HB1E.out; have e : k = b3 := e; omega)
  have HFIN : Hid (PgOut w ((((w5.setCell ⟨b3, 0, none⟩ (.int .i64 0)).setCell ⟨b3, 1, none⟩ (.int .u8 0)).setCell ⟨b3, 2, none⟩ (.int .u32 0)).setCell ⟨b3, 3, none⟩ (.slice none 0 0)) p B v xs m m') := by
    show PgOut _ _ _ _ _ _ _ _
    rw [HM'.out]; exact hfin
  have h9 := (((Q3.out.set_ 0 (.int .i64 0)).set_ 1 (.int .u8 0)).set_ 2 (.int .u32 0)).set_ 3 (.slice none 0 0)
  have H9 := Lib.hid h9
  clear hfin hmm h9
  by_cases hi0 : i < 0
  · go_wp2_with fail
    exact ret_pg8 Try.results28 rfl rfl H9.out rfl ⟨⟨_, rfl⟩, HFIN.out⟩
  · have hi1 : 0 ≤ i := by omega
    go_wp2_with fail
    exact ret_pg8 Try.results28 rfl rfl H9.out rfl ⟨⟨_, rfl⟩, HFIN.out⟩

theorem asks_any (w : World) (p B : Nat) (v : Value) (xs : List Sl) (m : PG) (h : PageAt w p B v xs m) (o : PgOp) (dv : Value) (hd : RB w w.heap.size dv o.data) (hoff : Off (fun k => k = p ∨ v.ownBlock = some k) dv o.data) (hl : o.data.length ≤ 140737488351232) (hi : o.i ≤ 9223372036854775807) :
    Calls Try.prog 28 #[.pointer (some ⟨p, 0, none⟩), refP none 0 0, .agg #[.int .i64 o.kind, .int .i64 o.i, dv]] w (AskOut w p B v xs m (m.run o)) := by
  obtain ⟨k, i, d⟩ := o
  dsimp only at *
  unfold PG.run
  dsimp only
  by_cases h1 : k = 1
  · subst h1; exact asks_insert w p B v xs m h i dv d hd hoff hl _ rfl
  by_cases h2 : k = 2
  · subst h2; exact asks_replace w p B v xs m h i dv d hd hoff hl _ rfl
  by_cases h3 : k = 3
  · subst h3; exact asks_remove w p B v xs m h 3 i dv _ rfl
  by_cases h5 : k = 5
  · subst h5; exact asks_extra w p B v xs m h 5 i dv _ rfl
  by_cases h6 : k = 6
  · subst h6; exact asks_lsn w p B v xs m h 6 i dv hi _ rfl
  rw [if_neg h1, if_neg h2, if_neg h3, if_neg h5, if_neg h6]
  by_cases h4 : k = 4
  · subst h4
    cases hs : m.isSlot i with
    | false => exact asks_item_no w p B v xs m h 4 i dv hs _ rfl
    | true => exact asks_item_yes w p B v xs m h 4 i dv hs _ rfl
  · exact asks_other w p B v xs m h k i dv h1 h2 h3 h4 h5 h6 _ rfl
end Go.Proofs.Ytknhlbbgjfcjaaa
