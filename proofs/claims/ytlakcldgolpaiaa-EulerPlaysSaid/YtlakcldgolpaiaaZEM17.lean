/-
  The walk of EulerPlays.
-/
import Derived.Test.YtlakcldgolpaiaaZEM15
namespace Go.Proofs.Ytlakcldgolpaiaa
open Go.RowKit Go.Maps
set_option linter.unusedVariables false

/-- Both forests side by side, the document's in a box. -/
structure Pl (w wr : World) (f p : Nat) (F : FS) (d : DF) (a b c e : Value) : Prop where
  two : Two w wr f F d a b c e
  bes : Beside F d
  box : Blk wr p 31 #[a, b, c, e]
  lo : w.heap.size ≤ p
  oa : InQ (fun k => k ≠ p) a d.vs
  ob : InQ (fun k => k ≠ p) b d.es
  oc : InQ (fun k => k ≠ p) c d.mv
  oe : InQ (fun k => k ≠ p) e d.me

section

variable {w wr w' : World} {f p : Nat} {F F' : FS} {d d' : DF} {a b c e a' b' c' e' : Value}

theorem Pl.below (h : Pl w wr f p F d a b c e) (hb : Below wr.heap.size wr w') : Pl w w' f p F d a b c e := ⟨h.two.below hb, h.bes, h.box.below hb h.box.lt, h.lo, h.oa, h.ob, h.oc, h.oe⟩

theorem Pl.four (h : Pl w wr f p F d a b c e) : wr.cell? ⟨p, 0, none⟩ = some a ∧ wr.cell? ⟨p, 1, none⟩ = some b ∧ wr.cell? ⟨p, 2, none⟩ = some c ∧ wr.cell? ⟨p, 3, none⟩ = some e := ⟨h.box.cell 0, h.box.cell 1, h.box.cell 2, h.box.cell 3⟩

theorem Pl.good (h : Pl w wr f p F d a b c e) : F.Good := h.two.good

theorem Pl.fit (h : Pl w wr f p F d a b c e) : d.Fit ∧ d.mv.length ≤ 4096 ∧ d.me.length ≤ 4096 := h.bes.fit h.good

/-- Behind changes the new forest lies in the same box. -/
theorem Pl.turn (h : Pl w wr f p F d a b c e) (t : Two w w' f F' d' a' b' c' e') (s : Beside F' d') (k : Kept wr w') (o1 : OldNew wr a a') (o2 : OldNew wr b b') (o3 : OldNew wr c c') (o4 : OldNew wr e e') :
    Pl w ((((w'.setCell ⟨p, 0, none⟩ a').setCell ⟨p, 1, none⟩ b').setCell ⟨p, 2, none⟩ c').setCell ⟨p, 3, none⟩ e') f p F' d' a' b' c' e' := by
  have hb := k.blk h.box notF_D
  have lt := h.box.lt
  have q1 := off_keep h.oa h.two.doc.vs t.doc.vs o1 lt
  have q2 := off_keep h.ob h.two.doc.es t.doc.es o2 lt
  have q3 := off_keep h.oc h.two.doc.mv t.doc.mv o3 lt
  have q4 := off_keep h.oe h.two.doc.me t.doc.me o4 lt
  exact ⟨t.far4 hb notF_D h.lo q1 q2 q3 q4 _ _ _ _, s, (((hb.set_ 0 a').set_ 1 b').set_ 2 c').set_ 3 e', h.lo, q1, q2, q3, q4⟩

end

/-- What a region reads: the document's forest, a call of the script. -/
theorem boxO_of {w wr : World} {f p q : Nat} {F : FS} {d : DF} {a b c e : Value} {kd id u v : Int} {on : Bool} (h : Pl w wr f p F d a b c e) (ho : Blk wr q 33 #[.int .i64 kd, .int .i64 id, .int .i64 u, .int .i64 v, .bool on]) :
    wr.cell? ⟨p, 0, none⟩ = some a ∧ wr.cell? ⟨p, 1, none⟩ = some b ∧ wr.cell? ⟨p, 2, none⟩ = some c ∧ wr.cell? ⟨p, 3, none⟩ = some e ∧ wr.cell? ⟨q, 1, none⟩ = some (.int .i64 id) ∧ wr.cell? ⟨q, 2, none⟩ = some (.int .i64 u) ∧ wr.cell? ⟨q, 3, none⟩ = some (.int .i64 v) := ⟨h.box.cell 0, h.box.cell 1, h.box.cell 2, h.box.cell 3, ho.cell 1, ho.cell 2, ho.cell 3⟩

set_option maxRecDepth 100000 in
set_option maxHeartbeats 16000000 in
theorem eulerPlays_walk (w : World) (v0 : Value) (ss : List Int) (v1 : Value) (os : List OpE) (h0 : RI w w.heap.size v0 ss) (hs : ScrE w v1 os) :
    Calls Try.prog 3 #[v0, v1] w fun e w' => e = .returned (.bool true) ∧ Below w.heap.size w w' := by
  have hf := bNew w v0 ss h0 noQ noQ_lt
  obtain ⟨A0, c0, hv0, -, -, -, -⟩ := h0.open_
  obtain ⟨n0, hn0⟩ : ∃ n0, n0 = ss.length := ⟨_, rfl⟩
  rw [← hn0] at hv0
  subst hv0
  obtain ⟨A, c, rfl, hc1, hc2, hc3, HC⟩ := hs.rk.open_
  obtain ⟨n, hn⟩ : ∃ n, n = os.length := ⟨_, rfl⟩
  rw [← hn] at hc1 hc3 ⊢
  have HN := Lib.hid hn
  have HA := Lib.hid hs.at_
  have HF := Lib.hid hf
  clear h0 hs hn0 hn hf
  go_enter Try.func3, Try.ntmps3
  go_wp2_with fail
  refine HF.out.mono ?_
  rintro e w1 ⟨f, rfl, h1, b1⟩
  have H1 := Lib.hid h1
  have T1 := Lib.hid b1
  clear h1 b1
  go_wp2_with fail
  refine (alive_any w1).mono ?_
  rintro e w2 ⟨rfl, b2⟩
  have H2 := Lib.hid (H1.out.below b2)
  have T2 := Lib.hid (T1.out.trans (b2.mono T1.out.size))
  clear b2
  obtain ⟨W3, hW3⟩ : ∃ W3, W3 = w2.alloc (.cells #[.slice none 0 0, .slice none 0 0, .slice none 0 0, .slice none 0 0] 31) := ⟨_, rfl⟩
  obtain ⟨p, hp⟩ : ∃ p, p = w2.heap.size := ⟨_, rfl⟩
  have hb3 : Below w2.heap.size w2 W3 := by rw [hW3]; exact (Below.refl _ _).alloc (Nat.le_refl _) _
  have hpl : Pl w W3 f p FS.new ⟨[], [], [], []⟩ (.slice none 0 0) (.slice none 0 0) (.slice none 0 0) (.slice none 0 0) := by
    refine ⟨⟨noQ, H2.out.below hb3, T2.out.trans (hb3.mono T2.out.size), ⟨RK.nil _ _, RK.nil _ _, RK.nil _ _, RK.nil _ _⟩, fun h => absurd rfl h, fun h => absurd rfl h, fun h => absurd rfl h, fun h => absurd rfl h⟩, beside_new, by rw [hW3, hp]; exact Blk.new _ _ _, by rw [hp]; exact T2.out.size, fun h => absurd rfl h, fun h => absurd rfl h, fun h => absurd rfl h, fun h => absurd rfl h⟩
  have HW3 := Lib.hid hW3
  have HP := Lib.hid hp
  have PL := Lib.hid hpl
  clear hW3 hp hb3 hpl
  go_upto_region 5 with fail
  rw [← HW3.out]
  try simp only [← HP.out]
  clear HW3 HP
  go_wp2_with fail
  go_loopw [26] (fun i wr => ∃ (k : Nat) (F : FS) (d : DF) (X0 : Option Addr) (n0 m0 : Nat) (X1 : Option Addr) (n1 m1 : Nat) (X2 : Option Addr) (n2 m2 : Nat) (X3 : Option Addr) (n3 m3 : Nat), k ≤ n ∧ i = .int .i64 k ∧ Hid (Pl w wr f p F d (.slice X0 n0 m0) (.slice X1 n1 m1) (.slice X2 n2 m2) (.slice X3 n3 m3))) (fun i _ => n - (intOf i).toNat)
  case atStart => exact ⟨0, FS.new, _, _, _, _, _, _, _, _, _, _, _, _, _, Nat.zero_le _, rfl, PL⟩
  case round =>
    clear PL
    obtain ⟨k, F, d, X0, n0, m0, X1, n1, m1, X2, n2, m2, X3, n3, m3, hk, rfl, PR⟩ := hrel
    by_cases hkl : k < n
    · have hko : k < os.length := by have := HN.out; omega
      have LR := Lib.hid PR.out.two.low
      obtain ⟨b1, o1, rfl, hb, hx⟩ := HC.out k hko
      obtain ⟨hx1, hx2, hx3, hx4, hx5⟩ := cellOp hx
      have y1 := (LR.out.cell (p := ⟨b1, o1 + k * 5, none⟩) hb).trans hx1
      have y2 := (LR.out.cell (p := ⟨b1, o1 + k * 5 + 1, none⟩) hb).trans hx2
      have y3 := (LR.out.cell (p := ⟨b1, o1 + k * 5 + 2, none⟩) hb).trans hx3
      have y4 := (LR.out.cell (p := ⟨b1, o1 + k * 5 + 3, none⟩) hb).trans hx4
      have y5 := (LR.out.cell (p := ⟨b1, o1 + k * 5 + 4, none⟩) hb).trans hx5
      have HOP := Lib.hid (HA.out os[k] (List.getElem_mem hko))
      clear hx hx1 hx2 hx3 hx4 hx5
      obtain ⟨x, hx⟩ : ∃ x, x = os[k] := ⟨_, rfl⟩
      rw [← hx] at y1 y2 y3 y4 y5 HOP
      clear hx
      obtain ⟨kd, id, u, v, on⟩ := x
      dsimp only at y1 y2 y3 y4 y5
      have hkn : (k : Int) < (n : Int) := by omega
      have hkd : decide ((k : Int) < (n : Int)) = true := by simpa using hkl
      have HI : Hid (I64 id ∧ I64 u ∧ I64 v) := Lib.hid ⟨HOP.out.id, HOP.out.u, HOP.out.v⟩
      obtain ⟨W1, hW1⟩ : ∃ W1, W1 = wr.alloc (.cells #[.int .i64 kd, .int .i64 id, .int .i64 u, .int .i64 v, .bool on] 33) := ⟨_, rfl⟩
      obtain ⟨q, hq⟩ : ∃ q, q = wr.heap.size := ⟨_, rfl⟩
      have hbw : Below wr.heap.size wr W1 := by rw [hW1]; exact (Below.refl _ _).alloc (Nat.le_refl _) _
      have P1 := Lib.hid (PR.out.below hbw)
      have O1 : Hid (Blk W1 q 33 #[.int .i64 kd, .int .i64 id, .int .i64 u, .int .i64 v, .bool on]) := Lib.hid (by rw [hW1, hq]; exact Blk.new _ _ _)
      have NQ : Hid (q ≠ p) := Lib.hid (by have := PR.out.box.lt; omega)
      have HW1 := Lib.hid hW1
      have HQ := Lib.hid hq
      clear hW1 hq hbw
      go_upto_region 8 with fail
      rw [← HW1.out]
      try simp only [← HQ.out]
      clear y1 y2 y3 y4 y5 hb
      obtain ⟨c0, c1, c2, c3⟩ := P1.out.four
      have s0 := O1.out.cell 0
      have s1 := O1.out.cell 1
      have s2 := O1.out.cell 2
      have s3 := O1.out.cell 3
      have s4 := O1.out.cell 4
      go_wp2_with fail
      refine (changes_any w W1 f F d _ _ _ _ P1.out.two P1.out.bes kd id u v on HOP.out).mono ?_
      rintro r w2 ⟨a', b', c', e', d2, rfl, t2, s2', k2, u1, u2, u3, u4⟩
      obtain ⟨Y0, i0, j0, Y1, i1, j1, Y2, i2, j2, Y3, i3, j3, rfl, rfl, rfl, rfl⟩ := t2.doc.sl4
      obtain ⟨F2, hF2⟩ : ∃ F2, F2 = F.stepE ⟨kd, id, u, v, on⟩ := ⟨_, rfl⟩
      rw [← hF2] at t2 s2'
      clear hF2
      have hb2 : Below w2.heap.size w2 (w2.alloc (.cells #[.slice Y0 i0 j0, .slice Y1 i1 j1, .slice Y2 i2 j2, .slice Y3 i3 j3] 31)) := (Below.refl _ _).alloc (Nat.le_refl _) _
      obtain ⟨W2, hW2⟩ : ∃ W2, W2 = w2.alloc (.cells #[.slice Y0 i0 j0, .slice Y1 i1 j1, .slice Y2 i2 j2, .slice Y3 i3 j3] 31) := ⟨_, rfl⟩
      have kn : Blk W2 w2.heap.size 31 #[.slice Y0 i0 j0, .slice Y1 i1 j1, .slice Y2 i2 j2, .slice Y3 i3 j3] := by rw [hW2]; exact Blk.new _ _ _
      rw [← hW2] at hb2
      obtain ⟨q2, hq2⟩ : ∃ q2, q2 = w2.heap.size := ⟨_, rfl⟩
      rw [← hq2] at kn
      have kk := k2.trans (Kept.of_below hb2)
      have pn := P1.out.turn (t2.below hb2) s2' kk u1 u2 u3 u4
      have O2 := Lib.hid (kk.blk O1.out notF_O)
      obtain ⟨W4, hW4⟩ : ∃ W4, W4 = (((W2.setCell ⟨p, 0, none⟩ (.slice Y0 i0 j0)).setCell ⟨p, 1, none⟩ (.slice Y1 i1 j1)).setCell ⟨p, 2, none⟩ (.slice Y2 i2 j2)).setCell ⟨p, 3, none⟩ (.slice Y3 i3 j3) := ⟨_, rfl⟩
      rw [← hW4] at pn
      have PN := Lib.hid pn
      have hq4 : Blk W4 q 33 #[.int .i64 kd, .int .i64 id, .int .i64 u, .int .i64 v, .bool on] := by
        rw [hW4]
        exact (((O2.out.far (p := ⟨p, 0, none⟩) NQ.out _).far (p := ⟨p, 1, none⟩) NQ.out _).far (p := ⟨p, 2, none⟩) NQ.out _).far (p := ⟨p, 3, none⟩) NQ.out _
      have O4 := Lib.hid hq4
      have BP := Lib.hid (kk.blk P1.out.box notF_D)
      have HW2 := Lib.hid hW2
      have HQ2 := Lib.hid hq2
      have HW4 := Lib.hid hW4
      have g0 := kn.cell 0
      have g1 := kn.cell 1
      have g2 := kn.cell 2
      have g3 := kn.cell 3
      have z0 := BP.out.cell 0
      have z1 := BP.out.cell 1
      have z2 := BP.out.cell 2
      have z3 := BP.out.cell 3
      have f0 := BP.out.frozen 0
      have f1 := BP.out.frozen 1
      have f2 := BP.out.frozen 2
      have f3 := BP.out.frozen 3
      clear t2 s2' k2 u1 u2 u3 u4 hb2 kn kk pn hq4 hW2 hq2 hW4 c0 c1 c2 c3 s0 s1 s2 s3 s4
      go_upto_region 9 with fail
      rw [← HW2.out]
      try simp only [← HQ2.out]
      go_upto_region 10 with fail
      rw [← HW4.out]
      clear g0 g1 g2 g3 z0 z1 z2 z3 f0 f1 f2 f3
      obtain ⟨c0, c1, c2, c3⟩ := PN.out.four
      have s1 := O4.out.cell 1
      go_wp2_with fail
      refine (refEdge_any W4 _ _ _ _ d2 id PN.out.two.doc PN.out.fit.1).mono ?_
      rw [show decide (id ∈ Proofs.Ytlakcldgolpaiaa.ids d2.es) = decide (id ∈ Proofs.Ytlakcldgolpaiaa.ids F2.edges) from by rw [decide_eq_decide]; exact PN.out.bes.ids id]
      rintro r w5 ⟨⟨y, rfl⟩, b5⟩
      obtain ⟨ya, yb, yc⟩ := y
      simp only [edV]
      obtain ⟨W6, hW6⟩ : ∃ W6, W6 = w5.alloc (.cells #[.int .i64 ya, .int .i64 yb, .int .i64 yc, .int .i64 0] 37) := ⟨_, rfl⟩
      have hb6 : Below W4.heap.size W4 W6 := by rw [hW6]; exact b5.alloc b5.size _
      have P6 := Lib.hid (PN.out.below hb6)
      have O6 := Lib.hid (O4.out.below hb6 O4.out.lt)
      have HW6 := Lib.hid hW6
      clear b5 hW6 hb6 c0 c1 c2 c3 s1
      go_upto_region 11 with fail
      rw [← HW6.out]
      clear HW6
      obtain ⟨is, his⟩ : ∃ is, is = decide (id ∈ Proofs.Ytlakcldgolpaiaa.ids F2.edges) := ⟨_, rfl⟩
      rw [← his]
      have HLEN : Hid (∀ wx, Below W6.heap.size W6 wx → Calls Try.prog 12 #[.pointer (some ⟨f, 0, none⟩)] wx fun r w' => r = .returned (.int .i64 (i0 : Int)) ∧ w' = wx) := Lib.hid (fun wx hx => by
        have hl := tLen (P6.out.below hx).two
        have e1 : (F2.vs.length : Int) = (i0 : Int) := by
          have h1 := P6.out.bes.len P6.out.good
          obtain ⟨-, A', c', e', -⟩ := P6.out.two.doc.vs
          injection e' with _ e2 _
          omega
        rwa [e1] at hl)
      have HHAS : Hid (∀ wx, Below W6.heap.size W6 wx → Calls Try.prog 13 #[.pointer (some ⟨f, 0, none⟩), .int .i64 id] wx fun r w' => r = .returned (.bool is) ∧ Below wx.heap.size wx w') := Lib.hid (fun wx hx => by
        rw [his]
        exact tHas (P6.out.below hx).two id HI.out.1)
      have HTEL : Hid (∀ wx, Below W6.heap.size W6 wx → ∀ x y, I64 x → I64 y → Calls Try.prog 14 #[.pointer (some ⟨f, 0, none⟩), .agg #[.slice Y0 i0 j0, .slice Y1 i1 j1, .slice Y2 i2 j2, .slice Y3 i3 j3], .int .i64 x, .int .i64 y] wx fun r w' => r = .returned (.bool true) ∧ Below wx.heap.size wx w') := Lib.hid (fun wx hx x y hxx hyy => tells_any w wx f F2 d2 _ _ _ _ (P6.out.below hx).two P6.out.bes x y hxx hyy)
      have HD : Hid (Below W6.heap.size W6 W6.drew) := Lib.hid (Below.refl _ _).drew
      have HB : Hid (∀ wx, Below W6.heap.size W6 wx → wx.cell? ⟨p, 0, none⟩ = some (.slice Y0 i0 j0) ∧ wx.cell? ⟨p, 1, none⟩ = some (.slice Y1 i1 j1) ∧ wx.cell? ⟨p, 2, none⟩ = some (.slice Y2 i2 j2) ∧ wx.cell? ⟨p, 3, none⟩ = some (.slice Y3 i3 j3) ∧ wx.cell? ⟨q, 1, none⟩ = some (.int .i64 id) ∧ wx.cell? ⟨q, 2, none⟩ = some (.int .i64 u) ∧ wx.cell? ⟨q, 3, none⟩ = some (.int .i64 v)) := Lib.hid (fun wx hx => boxO_of (P6.out.below hx) (O6.out.below hx O6.out.lt))
      obtain ⟨c0, c1, c2, c3, s1, s2, s3⟩ := boxO_of P6.out O6.out
      have HU := HI.out.2.1
      have HV := HI.out.2.2
      clear his
      go_wp2_with fail
      (go_region_held3 (fun wx => wx.cell? ⟨p, 0, none⟩ = some (.slice Y0 i0 j0) ∧ wx.cell? ⟨p, 1, none⟩ = some (.slice Y1 i1 j1) ∧ wx.cell? ⟨p, 2, none⟩ = some (.slice Y2 i2 j2) ∧ wx.cell? ⟨p, 3, none⟩ = some (.slice Y3 i3 j3) ∧ wx.cell? ⟨q, 1, none⟩ = some (.int .i64 id) ∧ wx.cell? ⟨q, 2, none⟩ = some (.int .i64 u) ∧ wx.cell? ⟨q, 3, none⟩ = some (.int .i64 v)) (first | with_reducible exact HB.out _ HZ.out | with_reducible exact HB.out _ HD.out)
          (first | (go_at_call 12; refine (HLEN.out _ (by first | with_reducible exact HZ.out | with_reducible exact HD.out)).mono ?_; rintro r _ ⟨rfl, rfl⟩) | (go_at_call 13; refine (HHAS.out _ (by first | with_reducible exact HZ.out | with_reducible exact HD.out)).mono ?_; rintro r wz ⟨rfl, hbz⟩; have HZ := Lib.hid (bthen (by first | with_reducible exact HZ.out | with_reducible exact HD.out) hbz); clear hbz) | (go_at_call 14; refine (HTEL.out _ (by first | with_reducible exact HZ.out | with_reducible exact HD.out) _ _ (by first | with_reducible exact HU | with_reducible exact HV) (by first | with_reducible exact HV | with_reducible exact HU)).mono ?_; rintro r wz ⟨rfl, hbz⟩; have HZ := Lib.hid (bthen (by first | with_reducible exact HZ.out | with_reducible exact HD.out) hbz); clear hbz)))
      all_goals (
        have PZ := Lib.hid (P6.out.below HZ.out)
        clear c0 c1 c2 c3 s1 s2 s3
        go_wp2_with fail
        go_roundw
        case rel => exact ⟨k + 1, F2, d2, _, _, _, _, _, _, _, _, _, _, _, _, by omega, by go_num, PZ⟩
        case measure => simp [intOf]; omega)
    · obtain rfl : k = n := by omega
      have hkd : decide ((k : Int) < (k : Int)) = false := by simp
      have HR := Lib.hid PR.out.two.doc.vs
      obtain ⟨c0, c1, c2, c3⟩ := PR.out.four
      obtain ⟨A5, c5, he5, -, -, -, HCV⟩ := HR.out.open_
      injection he5 with he5 hel he6
      subst he5
      subst he6
      have HNV : Hid (n0 = d.vs.length) := Lib.hid hel
      have hn4 : n0 ≤ 4096 := by have := PR.out.fit.1.nv; omega
      clear hel
      go_wp2_with fail
      clear c0 c1 c2 c3
      go_loopw [89] (fun i wx => ∃ j : Nat, j ≤ n0 ∧ i = .int .i64 j ∧ Hid (Below wr.heap.size wr wx)) (fun i _ => n0 - (intOf i).toNat)
      case atStart => exact ⟨0, Nat.zero_le _, rfl, Lib.hid (Below.refl _ _)⟩
      case round =>
        obtain ⟨j, hj, rfl, HB⟩ := hrel
        by_cases hjl : j < n0
        · have hjv : j < d.vs.length := by have := HNV.out; omega
          have h0v : 0 < d.vs.length := by omega
          obtain ⟨bb, oo, rfl, hbb, hx⟩ := HCV.out j hjv
          obtain ⟨bb2, oo2, he2, hbb2, hx2⟩ := HCV.out 0 h0v
          injection he2 with he2
          injection he2 with he2 he3
          subst he2
          subst he3
          have y1 := (HB.out.cell (p := ⟨bb, oo + j, none⟩) hbb).trans (cellI hx)
          have y2 := (HB.out.cell (p := ⟨bb, oo + 0, none⟩) hbb).trans (cellI hx2)
          simp only [Nat.add_zero] at y2
          obtain ⟨x, hxx⟩ : ∃ x, x = d.vs[j] := ⟨_, rfl⟩
          obtain ⟨x0, hxx0⟩ : ∃ x, x = d.vs[0] := ⟨_, rfl⟩
          rw [← hxx] at y1
          rw [← hxx0] at y2
          have HX : I64 x := by
            have h1 := PR.out.good.vid x ((PR.out.bes.mem x).1 (by rw [hxx]; exact List.getElem_mem _))
            unfold I64; omega
          have HX0 : I64 x0 := by
            have h1 := PR.out.good.vid x0 ((PR.out.bes.mem x0).1 (by rw [hxx0]; exact List.getElem_mem _))
            unfold I64; omega
          have hjn : (j : Int) < (n0 : Int) := by omega
          have HJ := Lib.hid hjl
          have hjd : decide ((j : Int) < (n0 : Int)) = true := by simpa using hjl
          have h0n : (0 : Int) < (n0 : Int) := by omega
          have h0m : 0 < n0 := by omega
          clear hx hx2 hxx hxx0
          have PX := Lib.hid (PR.out.below HB.out)
          have HTEL : Hid (∀ wy, Below wr.heap.size wr wy → Calls Try.prog 14 #[.pointer (some ⟨f, 0, none⟩), .agg #[.slice (some ⟨bb, oo, none⟩) n0 m0, .slice X1 n1 m1, .slice X2 n2 m2, .slice X3 n3 m3], .int .i64 x, .int .i64 x0] wy fun r w' => r = .returned (.bool true) ∧ Below wy.heap.size wy w') := Lib.hid (fun wy hy => tells_any w wy f F d _ _ _ _ (PX.out.below hy).two PX.out.bes x x0 HX HX0)
          have hbl : bb < wr.heap.size := Nat.lt_of_lt_of_le hbb HB.out.size
          have HBX : Hid (∀ wy, Below wr.heap.size wr wy → wy.cell? ⟨p, 0, none⟩ = some (.slice (some ⟨bb, oo, none⟩) n0 m0) ∧ wy.cell? ⟨p, 1, none⟩ = some (.slice X1 n1 m1) ∧ wy.cell? ⟨p, 2, none⟩ = some (.slice X2 n2 m2) ∧ wy.cell? ⟨p, 3, none⟩ = some (.slice X3 n3 m3) ∧ wy.cell? ⟨bb, oo, none⟩ = some (.int .i64 x0)) := Lib.hid (fun wy hy => ⟨(PX.out.below hy).box.cell 0, (PX.out.below hy).box.cell 1, (PX.out.below hy).box.cell 2, (PX.out.below hy).box.cell 3, (hy.cell (p := ⟨bb, oo, none⟩) hbl).trans y2⟩)
          have HD : Hid (Below wr.heap.size wr wr.drew) := Lib.hid (Below.refl _ _).drew
          obtain ⟨c0, c1, c2, c3⟩ := PX.out.four
          clear hbb hbl
          go_wp2_with fail
          (go_region_held3 (fun wx => wx.cell? ⟨p, 0, none⟩ = some (.slice (some ⟨bb, oo, none⟩) n0 m0) ∧ wx.cell? ⟨p, 1, none⟩ = some (.slice X1 n1 m1) ∧ wx.cell? ⟨p, 2, none⟩ = some (.slice X2 n2 m2) ∧ wx.cell? ⟨p, 3, none⟩ = some (.slice X3 n3 m3) ∧ wx.cell? ⟨bb, oo, none⟩ = some (.int .i64 x0)) (first | with_reducible exact HBX.out _ HZ.out | with_reducible exact HBX.out _ HD.out)
            ((go_at_call 14; refine (HTEL.out _ (by first | with_reducible exact HZ.out | with_reducible exact HD.out)).mono ?_; rintro r wz ⟨rfl, hbz⟩; have HZ := Lib.hid (bthen (by first | with_reducible exact HZ.out | with_reducible exact HD.out) hbz); clear hbz)))
          all_goals (
            clear c0 c1 c2 c3 y1 y2
            go_wp2_with fail
            go_roundw
            case rel => exact ⟨j + 1, HJ.out, by go_num, Lib.hid (HB.out.trans (HZ.out.mono HB.out.size))⟩
            case measure => have := HJ.out; simp [intOf]; omega)
        · obtain rfl : j = n0 := by omega
          have hjd : decide ((j : Int) < (j : Int)) = false := by simp
          go_wp2_with fail
          go_ret
          exact ⟨rfl, PR.out.two.low.trans (HB.out.mono PR.out.two.low.size)⟩

end Go.Proofs.Ytlakcldgolpaiaa
