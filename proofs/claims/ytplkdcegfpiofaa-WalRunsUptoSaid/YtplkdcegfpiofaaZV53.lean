/-
  The walk of skeinlaw09's asks, Append, at an empty log and an empty disk of the document's.
-/
import Derived.Test.YtplkdcegfpiofaaZV47
import Derived.Test.YtplkdcegfpiofaaZH1
namespace Go.Proofs.Ytplkdcegfpiofaa
open Go.RowKit Go.Maps Go.Shelf
set_option linter.unusedVariables false


set_option maxRecDepth 100000 in
set_option maxHeartbeats 4000000 in
theorem asks_append (w : World) (p sb mb g B : Nat) (s : DS) (sv bv : Value) (m : LG) (h : WalAt w p sb mb none s g B sv bv m) (hcnt : m.count ≤ 1000) (data : List Nat) (n t : Int) (dA kA fA : Option Addr) (dn dc kn kc fn fc : Nat) (hd : RB w w.heap.size (.slice dA dn dc) data) (hoff : Off (OwnL g sv bv) (.slice dA dn dc) data) (hdl : data.length ≤ 140737488351232) :
    Calls Try.prog 36 #[.pointer (some ⟨g, 0, none⟩), .agg (logC false), .agg dskC, .agg #[.int .i64 1, .int .i64 n, .int .i64 t, .slice dA dn dc, .slice kA kn kc, .slice fA fn fc]] w fun e w' => (∃ v, e = .returned v) ∧ (∃ sv' bv', WalAt w' p sb mb none s g B sv' bv' (m.append n data).1) ∧ Mod (OwnL g sv bv) w w' := by
  obtain ⟨oc, hoc⟩ : ∃ oc : Array Value, oc = #[.int .i64 1, .int .i64 n, .int .i64 t, .slice dA dn dc, .slice kA kn kc, .slice fA fn fc] := ⟨_, rfl⟩
  obtain ⟨W0, hW0⟩ : ∃ W0, W0 = (((((w.alloc (.cells (logC false) 79)).alloc (.cells dskC 33)).alloc (.cells #[.int .i64 1, .int .i64 n, .int .i64 t, .slice dA dn dc, .slice kA kn kc, .slice fA fn fc] 77)).alloc (.cells (logC false) 79)).alloc (.cells dskC 33)) := ⟨_, rfl⟩
  have HA0 : Hid (Ask0 w W0 oc) := Lib.hid (by rw [hW0, hoc]; exact ask0 w _)
  have HB0 : Hid (Below w.heap.size w W0) := Lib.hid (by rw [hW0]; exact ask0_below w _)
  have HWA : Hid (WalAt W0 p sb mb none s g B sv bv m) := Lib.hid (h.below HB0.out)
  have HOW : Hid (∀ k, OwnW p sb mb g k → k < w.heap.size) := Lib.hid (fun k hk => by
    have h1 := h.dk.lt
    have h2 := h.lg.lt
    rcases hk with hk | hk
    · rcases hk with e | e | e <;> omega
    · omega)
  have HOP : Hid (p < w.heap.size ∧ sb < w.heap.size ∧ mb < w.heap.size) := Lib.hid ⟨h.dk.lt.1, h.dk.lt.2.1, h.dk.lt.2.2.1⟩
  have HOL : Hid (∀ k, OwnL g sv bv k → k < w.heap.size) := Lib.hid (fun k hk => (h.lg.own k hk).2)
  have HW0 := Lib.hid hW0
  have HOC := Lib.hid hoc
  have hdn : dn = data.length := by obtain ⟨_, _, e, _⟩ := hd.open_; injection e
  have HDN := Lib.hid hdn
  have HDL := Lib.hid hdl
  have HD0 : Hid (RB W0 W0.heap.size (.slice dA dn dc) data) := Lib.hid ((hd.below HB0.out).more HB0.out.size)
  have HOFF := Lib.hid hoff
  have HCNT := Lib.hid hcnt
  have hdl2 : dn ≤ 140737488351232 := by omega
  clear h hd hoff hdl hcnt hW0 hoc hdn
  go_enter Try.func36, Try.ntmps36
  go_wp2_with fail
  rw [← HW0.out]
  refine (wide_any _ data W0 HD0.out (by have := HDL.out; omega)).mono ?_
  rintro e w1 ⟨v1, rfl, ho1, hq1⟩
  obtain ⟨gw, cap, rfl, hg1, hg2, hg3, hg4, -, -⟩ := ho1.form (by simp [marks])
  have hml : (data ++ marks).length = dn + 64 := by rw [HDN.out]; simp [marks]
  rw [hml] at ho1 hg3 ⊢
  have HO1 := Lib.hid ho1
  have HW1 : Hid (WalAt w1 p sb mb none s g B sv bv m) := Lib.hid (HWA.out.below hq1)
  have HM1 : Hid (Mod (OwnL g sv bv) w w1) := Lib.hid (Mod.of_below (HB0.out.trans (hq1.mono HB0.out.size)) _)
  have HA1 : Hid (Ask0 w w1 oc) := Lib.hid (HA0.out.below hq1)
  have HD1 : Hid (RB w1 w1.heap.size (.slice dA dn dc) data) := Lib.hid ((HD0.out.below hq1).more hq1.size)
  have HRB : Hid (RB w1 w1.heap.size (.slice (some ⟨gw, 0, none⟩) dn cap) data) := Lib.hid (by
    have h1 := ho1.rbn.cutTo dn (by omega)
    have e : (data ++ marks).take dn = data := by rw [HDN.out]; simp
    rw [e] at h1
    exact h1)
  have HGW : Hid (¬ OwnL g sv bv gw ∧ w.heap.size + 5 ≤ gw) := Lib.hid ⟨fun hk => by have h1 := HOL.out gw hk; have h2 := HB0.out.size; omega, by have := HA0.out.size; omega⟩
  have hcap : dn ≤ cap := by omega
  have HDG : Hid (Off (fun k => k = gw) (.slice dA dn dc) data) := Lib.hid (HD0.out.off (fun k hk e => by omega))
  have o0 : w1.cell? ⟨w.heap.size + 1 + 1, 0, none⟩ = some (.int .i64 1) := by have := HA1.out.bo.cell 0; rw [HOC.out] at this; exact this
  have o1 : w1.cell? ⟨w.heap.size + 1 + 1, 1, none⟩ = some (.int .i64 n) := by have := HA1.out.bo.cell 1; rw [HOC.out] at this; exact this
  have o2 : w1.cell? ⟨w.heap.size + 1 + 1, 2, none⟩ = some (.int .i64 t) := by have := HA1.out.bo.cell 2; rw [HOC.out] at this; exact this
  have o3 : w1.cell? ⟨w.heap.size + 1 + 1, 3, none⟩ = some (.slice dA dn dc) := by have := HA1.out.bo.cell 3; rw [HOC.out] at this; exact this
  have o4 : w1.cell? ⟨w.heap.size + 1 + 1, 4, none⟩ = some (.slice kA kn kc) := by have := HA1.out.bo.cell 4; rw [HOC.out] at this; exact this
  have o5 : w1.cell? ⟨w.heap.size + 1 + 1, 5, none⟩ = some (.slice fA fn fc) := by have := HA1.out.bo.cell 5; rw [HOC.out] at this; exact this
  clear ho1 hq1 hml hg1 hg2
  go_wp2_with fail
  go_region_law (first
    | (go_simp; go_at_call 26; refine (Append_own _ p sb mb g B none s sv bv m (HW1.out.below (below_drewN (Below.refl _ _) 1)) HCNT.out n _ data (HRB.out.drewN 1)).mono ?_; obtain ⟨ra, hra⟩ : ∃ ra, ra = m.append n data := ⟨_, rfl⟩; rw [← hra]; rintro e w2 ⟨rfl, ⟨sv2, bv2, hw2, ho2⟩, hm2⟩; obtain ⟨m2, a2, e2⟩ := ra; have HGW2 : Hid (¬ OwnL g sv2 bv2 gw) := Lib.hid (fun hk => by rcases ho2 gw hk with e | e; (exact HGW.out.1 e); (have h3 := HO1.out.lt gw rfl; simp at e; omega)); have HW2 : Hid (WalAt w2 p sb mb none s g B sv2 bv2 m2) := Lib.hid hw2; have HM2 : Hid (Mod (OwnL g sv bv) w w2) := Lib.hid (HM1.out.trans' (Mod.trans' (below_drewN (Below.refl _ _) 1 |> fun hb => Mod.of_below hb _) hm2)); have hmm : Mod (OwnL g sv bv) w1 w2 := (Mod.of_below (below_drewN (Below.refl _ _) 1) _).trans' hm2; have HA2 : Hid (Ask0 w w2 oc) := Lib.hid (HA1.out.mod hmm (fun k hk => .inl (HOL.out k hk))); have HO2 : Hid (OB w2 W0.heap.size (.slice (some ⟨gw, 0, none⟩) (dn + 64) cap) (data ++ marks)) := Lib.hid (HO1.out.mod hmm (fun b hb e => HGW.out.1 (by injection hb with hb; subst hb; exact e))); have HD2 : Hid (RB w2 w2.heap.size (.slice dA dn dc) data) := Lib.hid (HD1.out.mod hmm HOFF.out); have HMM2 : Hid ((m2, a2, e2) = m.append n data) := Lib.hid hra; clear hw2 hm2 hmm hra ho2))
  all_goals (
    have p0 : w2.cell? ⟨w.heap.size + 1 + 1, 0, none⟩ = some (.int .i64 1) := by have := HA2.out.bo.cell 0; rw [HOC.out] at this; exact this
    have p1 : w2.cell? ⟨w.heap.size + 1 + 1, 1, none⟩ = some (.int .i64 n) := by have := HA2.out.bo.cell 1; rw [HOC.out] at this; exact this
    have p2 : w2.cell? ⟨w.heap.size + 1 + 1, 2, none⟩ = some (.int .i64 t) := by have := HA2.out.bo.cell 2; rw [HOC.out] at this; exact this
    have p3 : w2.cell? ⟨w.heap.size + 1 + 1, 3, none⟩ = some (.slice dA dn dc) := by have := HA2.out.bo.cell 3; rw [HOC.out] at this; exact this
    have p4 : w2.cell? ⟨w.heap.size + 1 + 1, 4, none⟩ = some (.slice kA kn kc) := by have := HA2.out.bo.cell 4; rw [HOC.out] at this; exact this
    have p5 : w2.cell? ⟨w.heap.size + 1 + 1, 5, none⟩ = some (.slice fA fn fc) := by have := HA2.out.bo.cell 5; rw [HOC.out] at this; exact this
    clear o0 o1 o2 o3 o4 o5
    go_wp2_with fail
    refine (intact_yes _ _ data w2 w2.heap.size HO2.out.rbn HD2.out).mono ?_
    rintro e w3 ⟨rfl, q3, hq3⟩
    have hb3 : Below w2.heap.size w2 w3 := by rw [hq3]; exact below_drewN (Below.refl _ _) q3
    have HO3 := Lib.hid (HO2.out.below hb3)
    have HW3 : Hid (WalAt w3 p sb mb none s g B sv2 bv2 m2) := Lib.hid (HW2.out.below hb3)
    have HM3 : Hid (Mod (OwnL g sv bv) w w3) := Lib.hid (HM2.out.trans' (Mod.of_below hb3 _))
    have HA3' : Hid (Ask0 w w3 oc) := Lib.hid (HA2.out.below hb3)
    have HD3 : Hid (RB w3 w3.heap.size (.slice dA dn dc) data) := Lib.hid ((HD2.out.below hb3).more hb3.size)
    clear hq3 hb3 p0 p1 p2 p3 p4 p5
    go_wp2_with fail
    refine (spoil_any _ _ w3 W0.heap.size HO3.out).mono ?_
    rintro e w4 ⟨rfl, -, hg4'⟩
    have hmg : Mod (fun k => k = gw ∨ k = gw) w3 w4 := (Mod.of_grown hg4').mono (fun k _ e => .inl (by injection e))
    have HWX : Hid (WalAt w4 p sb mb none s g B sv2 bv2 m2) := Lib.hid (HW3.out.aside hmg (by have h1 := HOP.out; have h2 := HGW.out.2; omega) HGW2.out HGW2.out)
    have HMX : Hid (Mod (OwnL g sv bv) w w4) := Lib.hid (HM3.out.trans hmg (fun k hk e => by have h2 := HGW.out.2; omega))
    have HAX : Hid (Ask0 w w4 oc) := Lib.hid (HA3'.out.mod hmg (fun k e => by have h2 := HGW.out.2; omega))
    have HDX : Hid (RB w4 w4.heap.size (.slice dA dn dc) data) := Lib.hid (HD3.out.mod hmg (HDG.out.mono (fun k e => by rcases e with e | e <;> exact e)))
    clear hmg hg4'
    have l0 : w4.cell? ⟨w.heap.size, 0, none⟩ = some (.int .i64 0) := HAX.out.bl.cell 0
    have l1 : w4.cell? ⟨w.heap.size, 1, none⟩ = some (.int .i64 0) := HAX.out.bl.cell 1
    have l2 : w4.cell? ⟨w.heap.size, 2, none⟩ = some (.int .i64 0) := HAX.out.bl.cell 2
    have l3 : w4.cell? ⟨w.heap.size, 3, none⟩ = some (.int .i64 0) := HAX.out.bl.cell 3
    have l4 : w4.cell? ⟨w.heap.size, 4, none⟩ = some (.slice none 0 0) := HAX.out.bl.cell 4
    have l5 : w4.cell? ⟨w.heap.size, 5, none⟩ = some (.int .i64 0) := HAX.out.bl.cell 5
    have l6 : w4.cell? ⟨w.heap.size, 6, none⟩ = some (.slice none 0 0) := HAX.out.bl.cell 6
    have l7 : w4.cell? ⟨w.heap.size, 7, none⟩ = some (.bool false) := HAX.out.bl.cell 7
    have l8 : w4.cell? ⟨w.heap.size, 8, none⟩ = some (.bool false) := HAX.out.bl.cell 8
    have p0 : w4.cell? ⟨w.heap.size + 1 + 1, 0, none⟩ = some (.int .i64 1) := by have := HAX.out.bo.cell 0; rw [HOC.out] at this; exact this
    have p1 : w4.cell? ⟨w.heap.size + 1 + 1, 1, none⟩ = some (.int .i64 n) := by have := HAX.out.bo.cell 1; rw [HOC.out] at this; exact this
    have p2 : w4.cell? ⟨w.heap.size + 1 + 1, 2, none⟩ = some (.int .i64 t) := by have := HAX.out.bo.cell 2; rw [HOC.out] at this; exact this
    have p3 : w4.cell? ⟨w.heap.size + 1 + 1, 3, none⟩ = some (.slice dA dn dc) := by have := HAX.out.bo.cell 3; rw [HOC.out] at this; exact this
    have p4 : w4.cell? ⟨w.heap.size + 1 + 1, 4, none⟩ = some (.slice kA kn kc) := by have := HAX.out.bo.cell 4; rw [HOC.out] at this; exact this
    have p5 : w4.cell? ⟨w.heap.size + 1 + 1, 5, none⟩ = some (.slice fA fn fc) := by have := HAX.out.bo.cell 5; rw [HOC.out] at this; exact this
    go_wp2_with fail
    refine (refAppend0 w4 n _ data HDX.out).mono ?_
    rintro e wx ⟨⟨f9, rfl⟩, hbx⟩
    go_wp2_with fail
    obtain ⟨W3, hW3⟩ : ∃ W3, W3 = wx.alloc (.cells (logC false) 79) := ⟨_, rfl⟩
    rw [← hW3]
    obtain ⟨lb, hlb⟩ : ∃ lb, lb = wx.heap.size := ⟨_, rfl⟩
    have hb3 : Below w4.heap.size w4 W3 := by rw [hW3]; exact hbx.alloc hbx.size _
    have L3 : Hid (Blk W3 lb 79 (logC false)) := Lib.hid (by rw [hW3, hlb]; exact Blk.new _ _ _)
    have HA3 : Hid (Ask0 w W3 oc) := Lib.hid (HAX.out.below hb3)
    have D3 : Hid (Blk W3 (w.heap.size + 1) 33 dskC) := Lib.hid HA3.out.bd
    have HWF : Hid (WalAt W3 p sb mb none s g B sv2 bv2 m2) := Lib.hid (HWX.out.below hb3)
    have HMF : Hid (Mod (OwnL g sv bv) w W3) := Lib.hid (HMX.out.trans' (Mod.of_below hb3 _))
    have hdl : w.heap.size + 1 + 1 + 1 + 1 < lb := by have := HAX.out.size; have := hbx.size; omega
    rw [← hlb]
    clear hW3 hlb hb3 hbx l0 l1 l2 l3 l4 l5 l6 l7 l8 p0 p1 p2 p3 p4 p5
    rcases Bool.eq_false_or_eq_true ((a2 : Int) == 0) with hA | hA <;> rcases Bool.eq_false_or_eq_true (e2 == f9) with hE | hE
    all_goals (
      have x0 : W3.cell? ⟨lb, 0, none⟩ = some (.int .i64 0) := L3.out.cell 0
      have x1 : W3.cell? ⟨lb, 1, none⟩ = some (.int .i64 0) := L3.out.cell 1
      have x2 : W3.cell? ⟨lb, 2, none⟩ = some (.int .i64 0) := L3.out.cell 2
      have x3 : W3.cell? ⟨lb, 3, none⟩ = some (.int .i64 0) := L3.out.cell 3
      have x4 : W3.cell? ⟨lb, 4, none⟩ = some (.slice none 0 0) := L3.out.cell 4
      have x5 : W3.cell? ⟨lb, 5, none⟩ = some (.int .i64 0) := L3.out.cell 5
      have x6 : W3.cell? ⟨lb, 6, none⟩ = some (.slice none 0 0) := L3.out.cell 6
      have x7 : W3.cell? ⟨lb, 7, none⟩ = some (.bool false) := L3.out.cell 7
      have x8 : W3.cell? ⟨lb, 8, none⟩ = some (.bool false) := L3.out.cell 8
      have y0 : W3.cell? ⟨w.heap.size + 1, 0, none⟩ = some (.slice none 0 0) := D3.out.cell 0
      have y1 : W3.cell? ⟨w.heap.size + 1, 1, none⟩ = some (.slice none 0 0) := D3.out.cell 1
      have y2 : W3.cell? ⟨w.heap.size + 1, 2, none⟩ = some (.int .i64 0) := D3.out.cell 2
      have y3 : W3.cell? ⟨w.heap.size + 1, 3, none⟩ = some (.bool false) := D3.out.cell 3
      have r0 : W3.cell? ⟨w.heap.size + 1 + 1 + 1, 0, none⟩ = some (.int .i64 0) := HA3.out.rl.cell 0
      have gr0 := HA3.out.rl.frozen 0
      have r1 : W3.cell? ⟨w.heap.size + 1 + 1 + 1, 1, none⟩ = some (.int .i64 0) := HA3.out.rl.cell 1
      have gr1 := HA3.out.rl.frozen 1
      have r2 : W3.cell? ⟨w.heap.size + 1 + 1 + 1, 2, none⟩ = some (.int .i64 0) := HA3.out.rl.cell 2
      have gr2 := HA3.out.rl.frozen 2
      have r3 : W3.cell? ⟨w.heap.size + 1 + 1 + 1, 3, none⟩ = some (.int .i64 0) := HA3.out.rl.cell 3
      have gr3 := HA3.out.rl.frozen 3
      have r4 : W3.cell? ⟨w.heap.size + 1 + 1 + 1, 4, none⟩ = some (.slice none 0 0) := HA3.out.rl.cell 4
      have gr4 := HA3.out.rl.frozen 4
      have r5 : W3.cell? ⟨w.heap.size + 1 + 1 + 1, 5, none⟩ = some (.int .i64 0) := HA3.out.rl.cell 5
      have gr5 := HA3.out.rl.frozen 5
      have r6 : W3.cell? ⟨w.heap.size + 1 + 1 + 1, 6, none⟩ = some (.slice none 0 0) := HA3.out.rl.cell 6
      have gr6 := HA3.out.rl.frozen 6
      have r7 : W3.cell? ⟨w.heap.size + 1 + 1 + 1, 7, none⟩ = some (.bool false) := HA3.out.rl.cell 7
      have gr7 := HA3.out.rl.frozen 7
      have r8 : W3.cell? ⟨w.heap.size + 1 + 1 + 1, 8, none⟩ = some (.bool false) := HA3.out.rl.cell 8
      have gr8 := HA3.out.rl.frozen 8
      have q0 : W3.cell? ⟨w.heap.size + 1 + 1 + 1 + 1, 0, none⟩ = some (.slice none 0 0) := HA3.out.rd.cell 0
      have gq0 := HA3.out.rd.frozen 0
      have q1 : W3.cell? ⟨w.heap.size + 1 + 1 + 1 + 1, 1, none⟩ = some (.slice none 0 0) := HA3.out.rd.cell 1
      have gq1 := HA3.out.rd.frozen 1
      have q2 : W3.cell? ⟨w.heap.size + 1 + 1 + 1 + 1, 2, none⟩ = some (.int .i64 0) := HA3.out.rd.cell 2
      have gq2 := HA3.out.rd.frozen 2
      have q3 : W3.cell? ⟨w.heap.size + 1 + 1 + 1 + 1, 3, none⟩ = some (.bool false) := HA3.out.rd.cell 3
      have gq3 := HA3.out.rd.frozen 3
      go_region
      all_goals (
        obtain ⟨W9, hW9⟩ : ∃ W9, W9 = (((((((((((((W3.setCell ⟨w.heap.size + 1 + 1 + 1, 0, none⟩ (.int .i64 0)).setCell ⟨w.heap.size + 1 + 1 + 1, 1, none⟩ (.int .i64 0)).setCell ⟨w.heap.size + 1 + 1 + 1, 2, none⟩ (.int .i64 0)).setCell ⟨w.heap.size + 1 + 1 + 1, 3, none⟩ (.int .i64 0)).setCell ⟨w.heap.size + 1 + 1 + 1, 4, none⟩ (.slice none 0 0)).setCell ⟨w.heap.size + 1 + 1 + 1, 5, none⟩ (.int .i64 0)).setCell ⟨w.heap.size + 1 + 1 + 1, 6, none⟩ (.slice none 0 0)).setCell ⟨w.heap.size + 1 + 1 + 1, 7, none⟩ (.bool false)).setCell ⟨w.heap.size + 1 + 1 + 1, 8, none⟩ (.bool false)).setCell ⟨w.heap.size + 1 + 1 + 1 + 1, 0, none⟩ (.slice none 0 0)).setCell ⟨w.heap.size + 1 + 1 + 1 + 1, 1, none⟩ (.slice none 0 0)).setCell ⟨w.heap.size + 1 + 1 + 1 + 1, 2, none⟩ (.int .i64 0)).setCell ⟨w.heap.size + 1 + 1 + 1 + 1, 3, none⟩ (.bool false)).drew := ⟨_, rfl⟩
        have hls := log_store (y := false) HA3.out.rl
        have hds := dsk_store (hls.2.1 _ _ _ (by simp) HA3.out.rd)
        have L9 : Blk W9 (w.heap.size + 1 + 1 + 1) 79 (logC false) := by rw [hW9]; exact (hds.2.1 _ _ _ (by simp) hls.1).drew
        have D9 : Blk W9 (w.heap.size + 1 + 1 + 1 + 1) 33 dskC := by rw [hW9]; exact hds.1.drew
        have HM9 : Hid (Mod (fun k => k = w.heap.size + 1 + 1 + 1 ∨ k = w.heap.size + 1 + 1 + 1 + 1) W3 W9) := Lib.hid (by rw [hW9]; exact (dsk_store_mod (.inr rfl) (log_store_mod (.inl rfl) (Mod.refl _ _))).drew)
        rw [← hW9]
        clear hls hds hW9 x0 x1 x2 x3 x4 x5 x6 x7 x8 y0 y1 y2 y3 r0 r1 r2 r3 r4 r5 r6 r7 r8 gr0 gr1 gr2 gr3 gr4 gr5 gr6 gr7 gr8 q0 q1 q2 q3 gq0 gq1 gq2 gq3
        have r0 : W9.cell? ⟨w.heap.size + 1 + 1 + 1, 0, none⟩ = some (.int .i64 0) := L9.cell 0
        have r1 : W9.cell? ⟨w.heap.size + 1 + 1 + 1, 1, none⟩ = some (.int .i64 0) := L9.cell 1
        have r2 : W9.cell? ⟨w.heap.size + 1 + 1 + 1, 2, none⟩ = some (.int .i64 0) := L9.cell 2
        have r3 : W9.cell? ⟨w.heap.size + 1 + 1 + 1, 3, none⟩ = some (.int .i64 0) := L9.cell 3
        have r4 : W9.cell? ⟨w.heap.size + 1 + 1 + 1, 4, none⟩ = some (.slice none 0 0) := L9.cell 4
        have r5 : W9.cell? ⟨w.heap.size + 1 + 1 + 1, 5, none⟩ = some (.int .i64 0) := L9.cell 5
        have r6 : W9.cell? ⟨w.heap.size + 1 + 1 + 1, 6, none⟩ = some (.slice none 0 0) := L9.cell 6
        have r7 : W9.cell? ⟨w.heap.size + 1 + 1 + 1, 7, none⟩ = some (.bool false) := L9.cell 7
        have r8 : W9.cell? ⟨w.heap.size + 1 + 1 + 1, 8, none⟩ = some (.bool false) := L9.cell 8
        have q0 : W9.cell? ⟨w.heap.size + 1 + 1 + 1 + 1, 0, none⟩ = some (.slice none 0 0) := D9.cell 0
        have q1 : W9.cell? ⟨w.heap.size + 1 + 1 + 1 + 1, 1, none⟩ = some (.slice none 0 0) := D9.cell 1
        have q2 : W9.cell? ⟨w.heap.size + 1 + 1 + 1 + 1, 2, none⟩ = some (.int .i64 0) := D9.cell 2
        have q3 : W9.cell? ⟨w.heap.size + 1 + 1 + 1 + 1, 3, none⟩ = some (.bool false) := D9.cell 3
        go_wp2_with fail
        apply bodyPost_ret
        · simp only [results, Try.results36]
          go_simp
          rfl
        · rfl
        · exact ⟨⟨_, rfl⟩, ⟨⟨_, _, by have e : m2 = (m.append n data).1 := congrArg Prod.fst HMM2.out; rw [← e]; exact HWF.out.aside HM9.out (by have := HOP.out; omega) (HWF.out.lg.ne_blk HA3.out.rl (by decide) (by decide) (by decide)) (HWF.out.lg.ne_blk HA3.out.rd (by decide) (by decide) (by decide))⟩, HMF.out.trans HM9.out (fun k hk e => by rcases e with e | e <;> omega)⟩⟩)))
end Go.Proofs.Ytplkdcegfpiofaa
