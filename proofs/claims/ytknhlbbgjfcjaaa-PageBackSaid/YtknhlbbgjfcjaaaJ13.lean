/-
  The walk of skeinlaw08's asks, the document's page being empty: what a call does to a page.
-/
import Derived.Test.YtknhlbbgjfcjaaaJ12
namespace Go.Proofs.Ytknhlbbgjfcjaaa
open Go.RowKit Go.Maps
set_option linter.unusedVariables false

/-- A call on a page, as the laws write it. -/
structure PgOp where
  kind : Int
  i : Int
  data : List Nat
def PG.run (m : PG) (o : PgOp) : PG :=
  if o.kind = 1 then (if m.insE o.i o.data = 0 then m.insert o.i.toNat o.data else m)
  else if o.kind = 2 then (if m.repE o.i o.data = 0 then m.replace o.i.toNat o.data else m)
  else if o.kind = 3 then (if m.isSlot o.i = true then m.remove o.i.toNat else m)
  else if o.kind = 5 then { m with extra := (o.i % 4294967296).toNat }
  else if o.kind = 6 then { m with lsn := max o.i 0 }
  else m
theorem intact_b {w : World} {B : Nat} {u v : Value} {b : List Nat} (hu : RB w B u (b ++ marks)) (hv : RB w B v b) : Calls Try.prog 16 #[u, v] w fun e w' => e = .returned (.bool true) ∧ Below w.heap.size w w' :=
  (intact_yes u v b w B hu hv).mono fun _ _ ⟨h1, n, h2⟩ => ⟨h1, by rw [h2]; exact below_drewN (Below.refl _ _) n⟩
def AskOut (w : World) (p B : Nat) (v : Value) (xs : List Sl) (m m' : PG) (e : Ending) (w' : World) : Prop := (∃ x, e = .returned x) ∧ PgOut w w' p B v xs m m'
/-- What a call leaves, and what is turned behind it in blocks laid since. -/
theorem PgOut.around {w w3 w4 w9 : World} {p B : Nat} {v : Value} {xs : List Sl} {m m' : PG} {S : Nat → Prop} (h : PageAt w p B v xs m) (hb : Below w.heap.size w w3) (h4 : PgOut w3 w4 p B v xs m m') (hm : Mod S w4 w9) (hs : ∀ k, S k → w.heap.size ≤ k ∧ k < w3.heap.size) : PgOut w w9 p B v xs m m' := by
  obtain ⟨v', xs', h1, h2, h3⟩ := h4
  have hz := hb.size
  have hp := h.lt
  have hit := (h3 (fun k => k < w.heap.size ∨ w3.heap.size ≤ k) (h.itemsIn.mono fun k hk => .inl hk) (fun k hk => .inr hk)).off (S := S) (fun k hk e => by have := hs k hk; rcases e with e | e <;> omega)
  have hown : ∀ b, v'.ownBlock = some b → ¬ S b := fun b hb' e => by
    have h5 := hs b e
    rcases h2.own with h6 | h6
    · rw [h6] at hb'; have := (h.row.lt b hb').2; omega
    · have := h6 b hb'; omega
  refine ⟨v', xs', h1.mod hm (fun e => by have := hs p e; omega) hown hit, ⟨?_, ?_⟩, fun Q hq hk => h3 Q hq fun k hk2 => hk k (by omega)⟩
  · exact ((Mod.of_below hb _).trans h2.mod (fun k _ e => e)).trans hm (fun k hk e => by have := hs k e; omega)
  · rcases h2.own with h6 | h6
    · exact .inl h6
    · exact .inr fun b hb' => by have := h6 b hb'; omega
theorem PageAt.rowlt {w : World} {p B : Nat} {v : Value} {xs : List Sl} {m : PG} (h : PageAt w p B v xs m) : ∀ k, (k = p ∨ v.ownBlock = some k) → k < w.heap.size := fun k e => by
  rcases e with rfl | e
  · exact h.lt
  · exact (h.row.lt k e).2
/-- Three structs laid ahead of a call. -/
theorem three_laid (w : World) (A C D : Array Value) (ta tc td : TypeId) : ∃ W, W = ((w.alloc (.cells A ta)).alloc (.cells C tc)).alloc (.cells D td) ∧ Blk W w.heap.size ta A ∧ Blk W (w.heap.size + 1) tc C ∧ Blk W (w.heap.size + 2) td D ∧ Below w.heap.size w W ∧ W.heap.size = w.heap.size + 3 := by
  have h1 := ((Blk.new w ta A).alloc (.cells C tc)).alloc (.cells D td)
  have h2 := (Blk.new (w.alloc (.cells A ta)) tc C).alloc (.cells D td)
  have h3 := Blk.new ((w.alloc (.cells A ta)).alloc (.cells C tc)) td D
  simp only [size_alloc_] at h2 h3
  exact ⟨_, rfl, h1, h2, h3, (((Below.refl _ w).alloc (Nat.le_refl _) _).alloc (by simp) _).alloc (by simp; omega) _, by simp⟩

set_option maxRecDepth 100000 in
set_option maxHeartbeats 4000000 in
theorem asks_insert (w : World) (p B : Nat) (v : Value) (xs : List Sl) (m : PG) (h : PageAt w p B v xs m) (i : Int) (dv : Value) (l : List Nat) (hd : RB w w.heap.size dv l) (hoff : Off (fun k => k = p ∨ v.ownBlock = some k) dv l) (hl : l.length ≤ 140737488351232) (m' : PG) (hm' : m' = if m.insE i l = 0 then m.insert i.toNat l else m) :
    Calls Try.prog 28 #[.pointer (some ⟨p, 0, none⟩), refP none 0 0, .agg #[.int .i64 1, .int .i64 i, dv]] w (AskOut w p B v xs m m') := by
  have HM' := Lib.hid hm'
  have HPG0 := Lib.hid h
  have HD0 := Lib.hid hd
  have HOFF := Lib.hid hoff
  obtain ⟨A, c, rfl, hc1, hc2, -, -⟩ := hd.open_
  have hrl := h.rowlt
  have hplt := h.lt
  unfold refP
  obtain ⟨W0, hW0, hb1, hb2, hb3, hw0, hz0⟩ := three_laid w #[.int .i64 0, .int .u8 0, .int .u32 0, .slice none 0 0] #[.int .i64 1, .int .i64 i, .slice A l.length c] #[.int .i64 0, .int .u8 0, .int .u32 0, .slice none 0 0] 49 58 49
  have HD := Lib.hid ((hd.below hw0).more hw0.size)
  have HP := Lib.hid (h.below hw0)
  have HW0 := Lib.hid hw0
  have HB1 := Lib.hid hb1
  have HB2 := Lib.hid hb2
  have HB3 := Lib.hid hb3
  have HRL := Lib.hid hrl
  have k0 : W0.cell? ⟨w.heap.size + 1, 0, none⟩ = some (.int .i64 1) := hb2.cell 0
  have k2 : W0.cell? ⟨w.heap.size + 1, 2, none⟩ = some (.slice A l.length c) := hb2.cell 2
  clear h hd hoff hb1 hb2 hb3 hw0 hrl hm'
  go_enter Try.func28, Try.ntmps28
  rw [hW0] at k0 k2
  go_wp2_with fail
  rw [← hW0] at k0 k2 ⊢
  refine (wide_any _ l W0 HD.out (by omega)).mono ?_
  rintro e w1 ⟨v1, rfl, ho1, hq1⟩
  obtain ⟨g, cap, rfl, hg1, hg2, hg3, hg4, -, -⟩ := ho1.form (by simp [marks])
  have hml : (l ++ marks).length = l.length + 64 := by simp [marks]
  rw [hml] at ho1 hg3 ⊢
  have M1 := Lib.hid (HB1.out.below hq1 HB1.out.lt)
  have M2 := Lib.hid (HB2.out.below hq1 HB2.out.lt)
  have M3 := Lib.hid (HB3.out.below hq1 HB3.out.lt)
  have MP := Lib.hid (HP.out.below hq1)
  have MD := Lib.hid ((HD.out.below hq1).more hq1.size)
  have MW := Lib.hid (HW0.out.trans (hq1.mono HW0.out.size))
  have HO1 := Lib.hid ho1
  have hz1 := hq1.size
  obtain ⟨b1, hb1⟩ : ∃ b1, b1 = w.heap.size := ⟨_, rfl⟩
  obtain ⟨b2, hb2⟩ : ∃ b2, b2 = w.heap.size + 1 := ⟨_, rfl⟩
  obtain ⟨b3, hb3⟩ : ∃ b3, b3 = w.heap.size + 1 + 1 := ⟨_, rfl⟩
  rw [← hb1] at M1
  rw [← hb2] at M2
  rw [show w.heap.size + 2 = b3 by omega] at M3
  rw [← hb3, ← hb2, ← hb1]
  obtain ⟨nb, hnb⟩ : ∃ nb, nb = w1.heap.size := ⟨_, rfl⟩
  have hbb : p < b1 ∧ b1 < b2 ∧ b2 < b3 ∧ b3 < g ∧ g < nb := by omega
  obtain ⟨w2, hw2⟩ : ∃ w2, w2 = w1.alloc (.cells #[.int .i64 0, .int .u8 0, .int .u32 0, .slice none 0 0] 49) := ⟨_, rfl⟩
  have hq2 : Below w1.heap.size w1 w2 := by rw [hw2]; exact (Below.refl _ _).alloc (Nat.le_refl _) _
  have N1 := Lib.hid (M1.out.below hq2 M1.out.lt)
  have N2 := Lib.hid (M2.out.below hq2 M2.out.lt)
  have N3 := Lib.hid (M3.out.below hq2 M3.out.lt)
  have N4 : Hid (Blk w2 nb 49 #[.int .i64 0, .int .u8 0, .int .u32 0, .slice none 0 0]) := by show Blk _ _ _ _; rw [hw2, hnb]; exact Blk.new _ _ _
  have NP := Lib.hid (MP.out.below hq2)
  have ND := Lib.hid ((MD.out.below hq2).more hq2.size)
  have NW := Lib.hid (MW.out.trans (hq2.mono MW.out.size))
  have NO : Hid (OB w2 W0.heap.size (.slice (some ⟨g, 0, none⟩) (l.length + 64) cap) (l ++ marks)) := Lib.hid (HO1.out.below hq2)
  obtain ⟨c10, c11, c12, c13⟩ := M1.out.cells4
  have e20 : w2.cell? ⟨b2, 0, none⟩ = some (.int .i64 1) := N2.out.cell 0
  obtain ⟨e40, e41, e42, e43⟩ := N4.out.cells4
  have f40 := N4.out.frozen 0
  have f41 := N4.out.frozen 1
  have f42 := N4.out.frozen 2
  have f43 := N4.out.frozen 3
  have hne1 : ¬ b2 = nb := by omega
  have hne2 : ¬ nb = b2 := by omega
  have HNB := Lib.hid hnb
  have HW2 := Lib.hid hw2
  have HB1E := Lib.hid hb1
  have HBB := Lib.hid hbb
  rw [hw2] at e20
  rw [hw2, hnb] at e40 e41 e42 e43 f40 f41 f42 f43
  rw [hnb] at hne1 hne2
  clear hq1 ho1 hW0 k0 k2 hq2 hb1 hb2 hb3 hnb hw2 hbb
  go_wp2_with fail
  obtain ⟨w3, hw3, O2, OP, OD, OO, OW, O1, O3, O4⟩ : ∃ w3, w3 = w2.drew ∧ Hid (Blk w3 b2 58 #[.int .i64 1, .int .i64 i, .slice A l.length c]) ∧ Hid (PageAt w3 p B v xs m) ∧ Hid (RB w3 w3.heap.size (.slice A l.length c) l) ∧ Hid (OB w3 W0.heap.size (.slice (some ⟨g, 0, none⟩) (l.length + 64) cap) (l ++ marks)) ∧ Hid (Below w.heap.size w w3) ∧ Hid (Blk w3 b1 49 #[.int .i64 0, .int .u8 0, .int .u32 0, .slice none 0 0]) ∧ Hid (Blk w3 b3 49 #[.int .i64 0, .int .u8 0, .int .u32 0, .slice none 0 0]) ∧ Hid (Blk w3 nb 49 #[.int .i64 0, .int .u8 0, .int .u32 0, .slice none 0 0]) :=
    ⟨_, rfl, N2.out.drew, NP.out.below (Below.refl _ _).drew, ND.out.drew, NO.out.drew, NW.out.drew, N1.out.drew, N3.out.drew, N4.out.drew⟩
  rw [← HW2.out, ← HNB.out]
  have k31 : w3.cell? ⟨b2, 1, none⟩ = some (.int .i64 i) := O2.out.cell 1
  have k32 : w3.cell? ⟨b2, 2, none⟩ = some (.slice A l.length c) := O2.out.cell 2
  have hlc : (l.length : Int) ≤ (cap : Int) := by omega
  refine still_tail_at 8 w3 hw3 (by kernel_rfl) (by kernel_rfl) ?_
  clear hw3 c10 c11 c12 c13 e20 e40 e41 e42 e43 f40 f41 f42 f43 hne1 hne2 M1 M2 M3 MP MD MW N1 N2 N3 N4 NP ND NW NO
  simp only [List.take_succ_cons, List.take_zero, List.drop_succ_cons, List.drop_zero]
  iterate 8 still_step
  refine wpStill_nil ?_
  go_wp2_with fail
  have hpre : RB w3 w3.heap.size (.slice (some ⟨g, 0, none⟩) l.length cap) l := by
    have h1 := OO.out.rbn.sub (lo := 0) (m := l.length) (c' := cap) (by omega) (by omega) (by omega)
    rw [List.drop_zero, List.take_left] at h1
    exact h1
  refine (pageInsert_u OP.out i hpre HM'.out).mono ?_
  rintro e4 w4 ⟨rfl, hout⟩
  obtain ⟨v4, xs4, hp4, hs4, hi4⟩ := hout
  have hbb := HBB.out
  have hb1e := HB1E.out
  have hnS : ∀ k, b1 ≤ k → ¬ (k = p ∨ v.ownBlock = some k) := fun k hk e => by have := HRL.out k e; omega
  have P1 := Lib.hid (O1.out.mod hs4.mod (hnS b1 (by omega)))
  have P2 := Lib.hid (O2.out.mod hs4.mod (hnS b2 (by omega)))
  have P3 := Lib.hid (O3.out.mod hs4.mod (hnS b3 (by omega)))
  have P4 := Lib.hid (O4.out.mod hs4.mod (hnS nb (by omega)))
  have PD := Lib.hid (OD.out.mod hs4.mod HOFF.out)
  have PO := Lib.hid (OO.out.mod hs4.mod (fun b hb e => hnS g (by omega) (by injection hb with hb; simp at hb; subst hb; exact e)))
  have HOUT : Hid (PgOut w3 w4 p B v xs m m') := ⟨v4, xs4, hp4, hs4, hi4⟩
  obtain ⟨c10, c11, c12, c13⟩ := P1.out.cells4
  have c21 : w4.cell? ⟨b2, 1, none⟩ = some (.int .i64 i) := P2.out.cell 1
  have c22 : w4.cell? ⟨b2, 2, none⟩ = some (.slice A l.length c) := P2.out.cell 2
  obtain ⟨fe, hfe⟩ : ∃ fe, fe = m.insE i l := ⟨_, rfl⟩
  rw [← hfe]
  have hz4 := hs4.mod.size
  clear hpre k31 k32 hlc hp4 hs4 hi4 hfe hb1e
  go_wp2_with fail
  have hr := refInsert_any w4 i (.slice A l.length c) l PD.out
  unfold refP at hr
  refine hr.mono ?_
  rintro e5 w5 ⟨A5, n5, c5, f5, rfl, hb5⟩
  have hz5 := hb5.size
  have Q2 := Lib.hid (P2.out.below hb5 P2.out.lt)
  have Q3 := Lib.hid (P3.out.below hb5 P3.out.lt)
  have q4 := P4.out.below hb5 P4.out.lt
  have QD := Lib.hid ((PD.out.below hb5).more hb5.size)
  have QO := Lib.hid (PO.out.below hb5)
  have HB5 := Lib.hid hb5
  obtain ⟨d0, d1, d2, d3⟩ := q4.cells4
  have f0 := q4.frozen 0
  have f1 := q4.frozen 1
  have f2 := q4.frozen 2
  have f3 := q4.frozen 3
  have r22 : w5.cell? ⟨b2, 2, none⟩ = some (.slice A l.length c) := Q2.out.cell 2
  have hne1 : ¬ b2 = nb := by omega
  have hne2 : ¬ nb = b2 := by omega
  have Q4 := Lib.hid q4
  have HNS := Lib.hid hnS
  clear c10 c11 c12 c13 c21 c22 hr hb5 q4 hnS
  go_wp2_with fail
  obtain ⟨w6, hw6⟩ : ∃ w6, w6 = (((w5.setCell ⟨nb, 0, none⟩ (.int .i64 0)).setCell ⟨nb, 1, none⟩ (.int .u8 0)).setCell ⟨nb, 2, none⟩ (.int .u32 0)).setCell ⟨nb, 3, none⟩ (.slice A5 n5 c5) := ⟨_, rfl⟩
  have hm6 : Mod (fun k => k = nb) w5 w6 := by rw [hw6]; exact ((mod_set.trans' mod_set).trans' mod_set).trans' mod_set
  have R4 : Hid (Blk w6 nb 49 #[.int .i64 0, .int .u8 0, .int .u32 0, .slice A5 n5 c5]) := by
    have h1 := (((Q4.out.set_ 0 (.int .i64 0)).set_ 1 (.int .u8 0)).set_ 2 (.int .u32 0)).set_ 3 (.slice A5 n5 c5)
    rw [← hw6] at h1
    exact h1
  have R3 := Lib.hid (Q3.out.mod hm6 (by show ¬ b3 = nb; omega))
  have hb1e := HB1E.out
  have RD := Lib.hid (QD.out.mod hm6 (HD0.out.off (S := fun k => k = nb) fun k hk e => by have e : k = nb := e; omega))
  have RO := Lib.hid (QO.out.mod hm6 (fun b hb e => by have e : b = nb := e; injection hb with hb; simp at hb; omega))
  have HM6 := Lib.hid hm6
  rw [← hw6]
  clear hw6 hm6 hb1e
  refine (intact_b RO.out.rbn RD.out).mono ?_
  rintro e7 w7 ⟨rfl, hq7⟩
  have S3 := Lib.hid (R3.out.below hq7 R3.out.lt)
  have S4 := Lib.hid (R4.out.below hq7 R4.out.lt)
  have SO := Lib.hid (RO.out.below hq7)
  have HQ7 := Lib.hid hq7
  clear hq7 d0 d1 d2 d3 f0 f1 f2 f3 r22
  go_wp2_with fail
  refine (spoil_any _ (l ++ marks) w7 W0.heap.size SO.out).mono ?_
  rintro e8 w8 ⟨rfl, ho8, hgr⟩
  have t3 := S3.out.grown hgr (fun e => by injection e with e; simp at e; omega)
  have t4 := S4.out.grown hgr (fun e => by injection e with e; simp at e; omega)
  obtain ⟨d0, d1, d2, d3⟩ := t4.cells4
  obtain ⟨x0, x1, x2, x3⟩ := t3.cells4
  have f0 := t3.frozen 0
  have f1 := t3.frozen 1
  have f2 := t3.frozen 2
  have f3 := t3.frozen 3
  have T3 := Lib.hid t3
  have HGR := Lib.hid hgr
  clear ho8 hgr t3 t4
  go_wp2_with fail
  have h9 := (((T3.out.set_ 0 (.int .i64 0)).set_ 1 (.int .u8 0)).set_ 2 (.int .u32 0)).set_ 3 (.slice A5 n5 c5)
  have hm9 : Mod (fun k => k = b3) w8 ((((w8.setCell ⟨b3, 0, none⟩ (.int .i64 0)).setCell ⟨b3, 1, none⟩ (.int .u8 0)).setCell ⟨b3, 2, none⟩ (.int .u32 0)).setCell ⟨b3, 3, none⟩ (.slice A5 n5 c5)) := ((mod_set.trans' mod_set).trans' mod_set).trans' mod_set
  have hmm : Mod (fun k => k = nb ∨ k = g ∨ k = b3) w4 ((((w8.setCell ⟨b3, 0, none⟩ (.int .i64 0)).setCell ⟨b3, 1, none⟩ (.int .u8 0)).setCell ⟨b3, 2, none⟩ (.int .u32 0)).setCell ⟨b3, 3, none⟩ (.slice A5 n5 c5)) :=
    ((((Mod.of_below HB5.out _).trans' (HM6.out.mono fun k _ e => .inl e)).trans' (Mod.of_below HQ7.out _)).trans' ((Mod.of_grown HGR.out).mono fun k _ e => by injection e with e; simp at e; exact .inr (.inl e))).trans' (hm9.mono fun k _ e => .inr (.inr e))
  have hfin := PgOut.around HPG0.out OW.out HOUT.out hmm (fun k e => by have := HB1E.out; have := O4.out.lt; rcases e with e | e | e <;> omega)
  exact ret_pg8 Try.results28 rfl rfl h9 rfl ⟨⟨_, rfl⟩, hfin⟩

set_option maxRecDepth 100000 in
set_option maxHeartbeats 4000000 in
theorem asks_replace (w : World) (p B : Nat) (v : Value) (xs : List Sl) (m : PG) (h : PageAt w p B v xs m) (i : Int) (dv : Value) (l : List Nat) (hd : RB w w.heap.size dv l) (hoff : Off (fun k => k = p ∨ v.ownBlock = some k) dv l) (hl : l.length ≤ 140737488351232) (m' : PG) (hm' : m' = if m.repE i l = 0 then m.replace i.toNat l else m) :
    Calls Try.prog 28 #[.pointer (some ⟨p, 0, none⟩), refP none 0 0, .agg #[.int .i64 2, .int .i64 i, dv]] w (AskOut w p B v xs m m') := by
  have HM' := Lib.hid hm'
  have HPG0 := Lib.hid h
  have HD0 := Lib.hid hd
  have HOFF := Lib.hid hoff
  obtain ⟨A, c, rfl, hc1, hc2, -, -⟩ := hd.open_
  have hrl := h.rowlt
  have hplt := h.lt
  unfold refP
  obtain ⟨W0, hW0, hb1, hb2, hb3, hw0, hz0⟩ := three_laid w #[.int .i64 0, .int .u8 0, .int .u32 0, .slice none 0 0] #[.int .i64 2, .int .i64 i, .slice A l.length c] #[.int .i64 0, .int .u8 0, .int .u32 0, .slice none 0 0] 49 58 49
  have HD := Lib.hid ((hd.below hw0).more hw0.size)
  have HP := Lib.hid (h.below hw0)
  have HW0 := Lib.hid hw0
  have HB1 := Lib.hid hb1
  have HB2 := Lib.hid hb2
  have HB3 := Lib.hid hb3
  have HRL := Lib.hid hrl
  have k0 : W0.cell? ⟨w.heap.size + 1, 0, none⟩ = some (.int .i64 2) := hb2.cell 0
  have k2 : W0.cell? ⟨w.heap.size + 1, 2, none⟩ = some (.slice A l.length c) := hb2.cell 2
  clear h hd hoff hb1 hb2 hb3 hw0 hrl hm'
  go_enter Try.func28, Try.ntmps28
  rw [hW0] at k0 k2
  go_wp2_with fail
  rw [← hW0] at k0 k2 ⊢
  refine (wide_any _ l W0 HD.out (by omega)).mono ?_
  rintro e w1 ⟨v1, rfl, ho1, hq1⟩
  obtain ⟨g, cap, rfl, hg1, hg2, hg3, hg4, -, -⟩ := ho1.form (by simp [marks])
  have hml : (l ++ marks).length = l.length + 64 := by simp [marks]
  rw [hml] at ho1 hg3 ⊢
  have M1 := Lib.hid (HB1.out.below hq1 HB1.out.lt)
  have M2 := Lib.hid (HB2.out.below hq1 HB2.out.lt)
  have M3 := Lib.hid (HB3.out.below hq1 HB3.out.lt)
  have MP := Lib.hid (HP.out.below hq1)
  have MD := Lib.hid ((HD.out.below hq1).more hq1.size)
  have MW := Lib.hid (HW0.out.trans (hq1.mono HW0.out.size))
  have HO1 := Lib.hid ho1
  have hz1 := hq1.size
  obtain ⟨b1, hb1⟩ : ∃ b1, b1 = w.heap.size := ⟨_, rfl⟩
  obtain ⟨b2, hb2⟩ : ∃ b2, b2 = w.heap.size + 1 := ⟨_, rfl⟩
  obtain ⟨b3, hb3⟩ : ∃ b3, b3 = w.heap.size + 1 + 1 := ⟨_, rfl⟩
  rw [← hb1] at M1
  rw [← hb2] at M2
  rw [show w.heap.size + 2 = b3 by omega] at M3
  rw [← hb3, ← hb2, ← hb1]
  obtain ⟨nb, hnb⟩ : ∃ nb, nb = w1.heap.size := ⟨_, rfl⟩
  have hbb : p < b1 ∧ b1 < b2 ∧ b2 < b3 ∧ b3 < g ∧ g < nb := by omega
  obtain ⟨w2, hw2⟩ : ∃ w2, w2 = w1.alloc (.cells #[.int .i64 0, .int .u8 0, .int .u32 0, .slice none 0 0] 49) := ⟨_, rfl⟩
  have hq2 : Below w1.heap.size w1 w2 := by rw [hw2]; exact (Below.refl _ _).alloc (Nat.le_refl _) _
  have N1 := Lib.hid (M1.out.below hq2 M1.out.lt)
  have N2 := Lib.hid (M2.out.below hq2 M2.out.lt)
  have N3 := Lib.hid (M3.out.below hq2 M3.out.lt)
  have N4 : Hid (Blk w2 nb 49 #[.int .i64 0, .int .u8 0, .int .u32 0, .slice none 0 0]) := by show Blk _ _ _ _; rw [hw2, hnb]; exact Blk.new _ _ _
  have NP := Lib.hid (MP.out.below hq2)
  have ND := Lib.hid ((MD.out.below hq2).more hq2.size)
  have NW := Lib.hid (MW.out.trans (hq2.mono MW.out.size))
  have NO : Hid (OB w2 W0.heap.size (.slice (some ⟨g, 0, none⟩) (l.length + 64) cap) (l ++ marks)) := Lib.hid (HO1.out.below hq2)
  obtain ⟨c10, c11, c12, c13⟩ := M1.out.cells4
  have e20 : w2.cell? ⟨b2, 0, none⟩ = some (.int .i64 2) := N2.out.cell 0
  obtain ⟨e40, e41, e42, e43⟩ := N4.out.cells4
  have f40 := N4.out.frozen 0
  have f41 := N4.out.frozen 1
  have f42 := N4.out.frozen 2
  have f43 := N4.out.frozen 3
  have hne1 : ¬ b2 = nb := by omega
  have hne2 : ¬ nb = b2 := by omega
  have HNB := Lib.hid hnb
  have HW2 := Lib.hid hw2
  have HB1E := Lib.hid hb1
  have HBB := Lib.hid hbb
  rw [hw2] at e20
  rw [hw2, hnb] at e40 e41 e42 e43 f40 f41 f42 f43
  rw [hnb] at hne1 hne2
  clear hq1 ho1 hW0 k0 k2 hq2 hb1 hb2 hb3 hnb hw2 hbb
  go_wp2_with fail
  obtain ⟨w3, hw3, O2, OP, OD, OO, OW, O1, O3, O4⟩ : ∃ w3, w3 = w2.drew ∧ Hid (Blk w3 b2 58 #[.int .i64 2, .int .i64 i, .slice A l.length c]) ∧ Hid (PageAt w3 p B v xs m) ∧ Hid (RB w3 w3.heap.size (.slice A l.length c) l) ∧ Hid (OB w3 W0.heap.size (.slice (some ⟨g, 0, none⟩) (l.length + 64) cap) (l ++ marks)) ∧ Hid (Below w.heap.size w w3) ∧ Hid (Blk w3 b1 49 #[.int .i64 0, .int .u8 0, .int .u32 0, .slice none 0 0]) ∧ Hid (Blk w3 b3 49 #[.int .i64 0, .int .u8 0, .int .u32 0, .slice none 0 0]) ∧ Hid (Blk w3 nb 49 #[.int .i64 0, .int .u8 0, .int .u32 0, .slice none 0 0]) :=
    ⟨_, rfl, N2.out.drew, NP.out.below (Below.refl _ _).drew, ND.out.drew, NO.out.drew, NW.out.drew, N1.out.drew, N3.out.drew, N4.out.drew⟩
  rw [← HW2.out, ← HNB.out]
  have k31 : w3.cell? ⟨b2, 1, none⟩ = some (.int .i64 i) := O2.out.cell 1
  have k32 : w3.cell? ⟨b2, 2, none⟩ = some (.slice A l.length c) := O2.out.cell 2
  have hlc : (l.length : Int) ≤ (cap : Int) := by omega
  refine still_tail_at 8 w3 hw3 (by kernel_rfl) (by kernel_rfl) ?_
  clear hw3 c10 c11 c12 c13 e20 e40 e41 e42 e43 f40 f41 f42 f43 hne1 hne2 M1 M2 M3 MP MD MW N1 N2 N3 N4 NP ND NW NO
  simp only [List.take_succ_cons, List.take_zero, List.drop_succ_cons, List.drop_zero]
  iterate 8 still_step
  refine wpStill_nil ?_
  go_wp2_with fail
  have hpre : RB w3 w3.heap.size (.slice (some ⟨g, 0, none⟩) l.length cap) l := by
    have h1 := OO.out.rbn.sub (lo := 0) (m := l.length) (c' := cap) (by omega) (by omega) (by omega)
    rw [List.drop_zero, List.take_left] at h1
    exact h1
  refine (pageReplace_u OP.out i hpre HM'.out).mono ?_
  rintro e4 w4 ⟨rfl, hout⟩
  obtain ⟨v4, xs4, hp4, hs4, hi4⟩ := hout
  have hbb := HBB.out
  have hb1e := HB1E.out
  have hnS : ∀ k, b1 ≤ k → ¬ (k = p ∨ v.ownBlock = some k) := fun k hk e => by have := HRL.out k e; omega
  have P1 := Lib.hid (O1.out.mod hs4.mod (hnS b1 (by omega)))
  have P2 := Lib.hid (O2.out.mod hs4.mod (hnS b2 (by omega)))
  have P3 := Lib.hid (O3.out.mod hs4.mod (hnS b3 (by omega)))
  have P4 := Lib.hid (O4.out.mod hs4.mod (hnS nb (by omega)))
  have PD := Lib.hid (OD.out.mod hs4.mod HOFF.out)
  have PO := Lib.hid (OO.out.mod hs4.mod (fun b hb e => hnS g (by omega) (by injection hb with hb; simp at hb; subst hb; exact e)))
  have HOUT : Hid (PgOut w3 w4 p B v xs m m') := ⟨v4, xs4, hp4, hs4, hi4⟩
  obtain ⟨c10, c11, c12, c13⟩ := P1.out.cells4
  have c21 : w4.cell? ⟨b2, 1, none⟩ = some (.int .i64 i) := P2.out.cell 1
  have c22 : w4.cell? ⟨b2, 2, none⟩ = some (.slice A l.length c) := P2.out.cell 2
  obtain ⟨fe, hfe⟩ : ∃ fe, fe = m.repE i l := ⟨_, rfl⟩
  rw [← hfe]
  have hz4 := hs4.mod.size
  clear hpre k31 k32 hlc hp4 hs4 hi4 hfe hb1e
  go_wp2_with fail
  have hr := refReplace_any w4 i (.slice A l.length c)
  unfold refP at hr
  refine hr.mono ?_
  rintro e5 w5 ⟨rfl, hb5⟩
  have hz5 := hb5.size
  have Q2 := Lib.hid (P2.out.below hb5 P2.out.lt)
  have Q3 := Lib.hid (P3.out.below hb5 P3.out.lt)
  have q4 := P4.out.below hb5 P4.out.lt
  have QD := Lib.hid ((PD.out.below hb5).more hb5.size)
  have QO := Lib.hid (PO.out.below hb5)
  have HB5 := Lib.hid hb5
  obtain ⟨d0, d1, d2, d3⟩ := q4.cells4
  have f0 := q4.frozen 0
  have f1 := q4.frozen 1
  have f2 := q4.frozen 2
  have f3 := q4.frozen 3
  have r22 : w5.cell? ⟨b2, 2, none⟩ = some (.slice A l.length c) := Q2.out.cell 2
  have hne1 : ¬ b2 = nb := by omega
  have hne2 : ¬ nb = b2 := by omega
  have Q4 := Lib.hid q4
  have HNS := Lib.hid hnS
  clear c10 c11 c12 c13 c21 c22 hr hb5 q4 hnS
  go_wp2_with fail
  obtain ⟨w6, hw6⟩ : ∃ w6, w6 = (((w5.setCell ⟨nb, 0, none⟩ (.int .i64 0)).setCell ⟨nb, 1, none⟩ (.int .u8 0)).setCell ⟨nb, 2, none⟩ (.int .u32 0)).setCell ⟨nb, 3, none⟩ (.slice none 0 0) := ⟨_, rfl⟩
  have hm6 : Mod (fun k => k = nb) w5 w6 := by rw [hw6]; exact ((mod_set.trans' mod_set).trans' mod_set).trans' mod_set
  have R4 : Hid (Blk w6 nb 49 #[.int .i64 0, .int .u8 0, .int .u32 0, .slice none 0 0]) := by
    have h1 := (((Q4.out.set_ 0 (.int .i64 0)).set_ 1 (.int .u8 0)).set_ 2 (.int .u32 0)).set_ 3 (.slice none 0 0)
    rw [← hw6] at h1
    exact h1
  have R3 := Lib.hid (Q3.out.mod hm6 (by show ¬ b3 = nb; omega))
  have hb1e := HB1E.out
  have RD := Lib.hid (QD.out.mod hm6 (HD0.out.off (S := fun k => k = nb) fun k hk e => by have e : k = nb := e; omega))
  have RO := Lib.hid (QO.out.mod hm6 (fun b hb e => by have e : b = nb := e; injection hb with hb; simp at hb; omega))
  have HM6 := Lib.hid hm6
  rw [← hw6]
  clear hw6 hm6 hb1e
  refine (intact_b RO.out.rbn RD.out).mono ?_
  rintro e7 w7 ⟨rfl, hq7⟩
  have S3 := Lib.hid (R3.out.below hq7 R3.out.lt)
  have S4 := Lib.hid (R4.out.below hq7 R4.out.lt)
  have SO := Lib.hid (RO.out.below hq7)
  have HQ7 := Lib.hid hq7
  clear hq7 d0 d1 d2 d3 f0 f1 f2 f3 r22
  go_wp2_with fail
  refine (spoil_any _ (l ++ marks) w7 W0.heap.size SO.out).mono ?_
  rintro e8 w8 ⟨rfl, ho8, hgr⟩
  have t3 := S3.out.grown hgr (fun e => by injection e with e; simp at e; omega)
  have t4 := S4.out.grown hgr (fun e => by injection e with e; simp at e; omega)
  obtain ⟨d0, d1, d2, d3⟩ := t4.cells4
  obtain ⟨x0, x1, x2, x3⟩ := t3.cells4
  have f0 := t3.frozen 0
  have f1 := t3.frozen 1
  have f2 := t3.frozen 2
  have f3 := t3.frozen 3
  have T3 := Lib.hid t3
  have HGR := Lib.hid hgr
  clear ho8 hgr t3 t4
  go_wp2_with fail
  have h9 := (((T3.out.set_ 0 (.int .i64 0)).set_ 1 (.int .u8 0)).set_ 2 (.int .u32 0)).set_ 3 (.slice none 0 0)
  have hm9 : Mod (fun k => k = b3) w8 ((((w8.setCell ⟨b3, 0, none⟩ (.int .i64 0)).setCell ⟨b3, 1, none⟩ (.int .u8 0)).setCell ⟨b3, 2, none⟩ (.int .u32 0)).setCell ⟨b3, 3, none⟩ (.slice none 0 0)) := ((mod_set.trans' mod_set).trans' mod_set).trans' mod_set
  have hmm : Mod (fun k => k = nb ∨ k = g ∨ k = b3) w4 ((((w8.setCell ⟨b3, 0, none⟩ (.int .i64 0)).setCell ⟨b3, 1, none⟩ (.int .u8 0)).setCell ⟨b3, 2, none⟩ (.int .u32 0)).setCell ⟨b3, 3, none⟩ (.slice none 0 0)) :=
    ((((Mod.of_below HB5.out _).trans' (HM6.out.mono fun k _ e => .inl e)).trans' (Mod.of_below HQ7.out _)).trans' ((Mod.of_grown HGR.out).mono fun k _ e => by injection e with e; simp at e; exact .inr (.inl e))).trans' (hm9.mono fun k _ e => .inr (.inr e))
  have hfin := PgOut.around HPG0.out OW.out HOUT.out hmm (fun k e => by have := HB1E.out; have := O4.out.lt; rcases e with e | e | e <;> omega)
  exact ret_pg8 Try.results28 rfl rfl h9 rfl ⟨⟨_, rfl⟩, hfin⟩

end Go.Proofs.Ytknhlbbgjfcjaaa
