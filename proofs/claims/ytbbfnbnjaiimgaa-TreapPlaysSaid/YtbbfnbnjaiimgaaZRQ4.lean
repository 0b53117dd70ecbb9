/-
  The document's Make.
-/
import Derived.Test.YtbbfnbnjaiimgaaZRQ1
namespace Go.Proofs.Ytbbfnbnjaiimgaa
open Go.RowKit
set_option linter.unusedVariables false

/-- Rows of unlike elements lie apart. -/
theorem OK.apart {α β : Type} {enc : α → List Value} {enc' : β → List Value} {k k' E E' : Nat} {w : World} {B B' : Nat} {v v' : Value} {xs : List α} {ys : List β} (h : OK enc k E w B v xs) (h' : OK enc' k' E' w B' v' ys) (hne : E ≠ E') : v.ownBlock = none ∨ v.ownBlock ≠ v'.ownBlock := by
  rcases h.2.2 with ⟨e, _⟩ | ⟨g, cap, cur, e, _, hg, _⟩
  · left; rw [e]; rfl
  · right
    rcases h'.2.2 with ⟨e', _⟩ | ⟨g', cap', cur', e', _, hg', _⟩
    · rw [e, e']; intro h2; cases h2
    · rw [e, e']
      intro h2
      simp only [Value.ownBlock] at h2
      injection h2 with h2
      exact Blk.ne_ (t := E) (cs := cur) hg (t' := E') (cs' := cur') hg' hne h2

theorem OK.notBlk {α : Type} {enc : α → List Value} {k E : Nat} {w : World} {B g t : Nat} {v : Value} {xs : List α} {cs : Array Value} (h : OK enc k E w B v xs) (hb : Blk w g t cs) (hne : t ≠ E) : some g ≠ v.ownBlock := by
  rcases h.2.2 with ⟨e, _⟩ | ⟨g', cap', cur', e, _, hg', _⟩
  · rw [e]; intro h2; cases h2
  · rw [e]
    intro h2
    simp only [Value.ownBlock] at h2
    injection h2 with h2
    exact hb.ne_ (t' := E) (cs' := cur') hg' hne h2

theorem OK_one {w : World} {b B : Nat} {y : Int} (hb : Blk w b 3 #[.int .i64 y]) (hB : B ≤ b) : OK encI 1 3 w B (.slice (some ⟨b, 0, none⟩) 1 1) [y] :=
  ⟨by simp, by simp [encI], .inr ⟨b, 1, #[.int .i64 y], by simp, hB, hb, by simp, by simp [maxLen], by simp, by simp [encI]⟩⟩

def nil3 : Array Value := #[.slice none 0 0, .slice none 0 0, .slice none 0 0]

/-- The document's rope under way: src, the result's cell, and what is made. -/
structure OutS (w0 : World) (W : World) (p0 p1 p2 : Nat) (src : Array Value) (Br : Nat) (vR vN vM : Value) (xs : List (Option Addr × Nat × Nat)) (ns ms : List Int) : Prop where
  below : Below w0.heap.size w0 W
  box0 : Blk W p0 32 src
  box1 : Blk W p1 32 nil3
  box2 : Blk W p2 32 #[vR, vN, vM]
  rs : OK encR3 1 22 W Br vR xs
  ns : OK encI 1 2 W w0.heap.size vN ns
  ms : OK encI 1 3 W w0.heap.size vM ms
  ge1 : w0.heap.size ≤ p1
  ge2 : w0.heap.size ≤ p2
  ne0 : p0 ≠ p2
  ne1 : p1 ≠ p2

section

variable {w0 W w' : World} {p0 p1 p2 Br : Nat} {src : Array Value} {vR vN vM v' : Value} {xs : List (Option Addr × Nat × Nat)} {ns ms : List Int}

theorem OutS.size (h : OutS w0 W p0 p1 p2 src Br vR vN vM xs ns ms) : w0.heap.size ≤ W.heap.size := h.below.size

theorem OutS.alloc (h : OutS w0 W p0 p1 p2 src Br vR vN vM xs ns ms) (o : Obj) : OutS w0 (W.alloc o) p0 p1 p2 src Br vR vN vM xs ns ms :=
  ⟨h.below.alloc h.below.size o, h.box0.alloc o, h.box1.alloc o, h.box2.alloc o, h.rs.alloc o, h.ns.alloc o, h.ms.alloc o, h.ge1, h.ge2, h.ne0, h.ne1⟩

theorem OutS.pushN (h : OutS w0 W p0 p1 p2 src Br vR vN vM xs ns ms) {ns' : List Int} (k1 : OK encI 1 2 w' w0.heap.size v' ns') (k2 : W.grownBy w' vN.ownBlock) : OutS w0 (w'.setCell ⟨p2, 1, none⟩ v') p0 p1 p2 src Br vR v' vM xs ns' ms := by
  have b2 := h.box2.grown k2 (h.ns.notBlk h.box2 (by decide))
  refine ⟨(h.below.grown k2 h.below.size (fun q hq => (h.ns.lt q hq).1)).setCell (p := ⟨p2, 1, none⟩) h.ge2 _, (h.box0.grown k2 (h.ns.notBlk h.box0 (by decide))).far (p := ⟨p2, 1, none⟩) h.ne0 _, (h.box1.grown k2 (h.ns.notBlk h.box1 (by decide))).far (p := ⟨p2, 1, none⟩) h.ne1 _, b2.set_ 1 v', ?_, ?_, ?_, h.ge1, h.ge2, h.ne0, h.ne1⟩
  · exact (h.rs.kept k2 (h.rs.apart h.ns (by decide))).setBlk b2 (by decide) 1 v'
  · exact k1.setBlk b2 (by decide) 1 v'
  · exact (h.ms.kept k2 (h.ms.apart h.ns (by decide))).setBlk b2 (by decide) 1 v'

theorem OutS.pushM (h : OutS w0 W p0 p1 p2 src Br vR vN vM xs ns ms) {ms' : List Int} (k1 : OK encI 1 3 w' w0.heap.size v' ms') (k2 : W.grownBy w' vM.ownBlock) : OutS w0 (w'.setCell ⟨p2, 2, none⟩ v') p0 p1 p2 src Br vR vN v' xs ns ms' := by
  have b2 := h.box2.grown k2 (h.ms.notBlk h.box2 (by decide))
  refine ⟨(h.below.grown k2 h.below.size (fun q hq => (h.ms.lt q hq).1)).setCell (p := ⟨p2, 2, none⟩) h.ge2 _, (h.box0.grown k2 (h.ms.notBlk h.box0 (by decide))).far (p := ⟨p2, 2, none⟩) h.ne0 _, (h.box1.grown k2 (h.ms.notBlk h.box1 (by decide))).far (p := ⟨p2, 2, none⟩) h.ne1 _, b2.set_ 2 v', ?_, ?_, ?_, h.ge1, h.ge2, h.ne0, h.ne1⟩
  · exact (h.rs.kept k2 (h.rs.apart h.ms (by decide))).setBlk b2 (by decide) 2 v'
  · exact (h.ns.kept k2 (h.ns.apart h.ms (by decide))).setBlk b2 (by decide) 2 v'
  · exact k1.setBlk b2 (by decide) 2 v'

theorem OutS.pushR (h : OutS w0 W p0 p1 p2 src Br vR vN vM xs ns ms) (hBr : w0.heap.size ≤ Br) {xs' : List (Option Addr × Nat × Nat)} (k1 : OK encR3 1 22 w' Br v' xs') (k2 : W.grownBy w' vR.ownBlock) : OutS w0 (w'.setCell ⟨p2, 0, none⟩ v') p0 p1 p2 src Br v' vN vM xs' ns ms := by
  have b2 := h.box2.grown k2 (h.rs.notBlk h.box2 (by decide))
  refine ⟨(h.below.grown k2 h.below.size (fun q hq => Nat.le_trans hBr (h.rs.lt q hq).1)).setCell (p := ⟨p2, 0, none⟩) h.ge2 _, (h.box0.grown k2 (h.rs.notBlk h.box0 (by decide))).far (p := ⟨p2, 0, none⟩) h.ne0 _, (h.box1.grown k2 (h.rs.notBlk h.box1 (by decide))).far (p := ⟨p2, 0, none⟩) h.ne1 _, b2.set_ 0 v', ?_, ?_, ?_, h.ge1, h.ge2, h.ne0, h.ne1⟩
  · exact k1.setBlk b2 (by decide) 0 v'
  · exact (h.ns.kept k2 (h.ns.apart h.rs (by decide))).setBlk b2 (by decide) 0 v'
  · exact (h.ms.kept k2 (h.ms.apart h.rs (by decide))).setBlk b2 (by decide) 0 v'

theorem OutS.gN (h : OutS w0 W p0 p1 p2 src Br vR vN vM xs ns ms) (k2 : W.grownBy w' vN.ownBlock) : w'.cell? ⟨p2, 1, none⟩ = some vN ∧ w'.frozen? ⟨p2, 1, none⟩ = false := by
  have b2 := h.box2.grown k2 (h.ns.notBlk h.box2 (by decide))
  exact ⟨b2.cell 1, b2.frozen 1⟩

theorem OutS.gM (h : OutS w0 W p0 p1 p2 src Br vR vN vM xs ns ms) (k2 : W.grownBy w' vM.ownBlock) : w'.cell? ⟨p2, 2, none⟩ = some vM ∧ w'.frozen? ⟨p2, 2, none⟩ = false := by
  have b2 := h.box2.grown k2 (h.ms.notBlk h.box2 (by decide))
  exact ⟨b2.cell 2, b2.frozen 2⟩

theorem OutS.gR (h : OutS w0 W p0 p1 p2 src Br vR vN vM xs ns ms) (k2 : W.grownBy w' vR.ownBlock) : w'.cell? ⟨p2, 0, none⟩ = some vR ∧ w'.frozen? ⟨p2, 0, none⟩ = false := by
  have b2 := h.box2.grown k2 (h.rs.notBlk h.box2 (by decide))
  exact ⟨b2.cell 0, b2.frozen 0⟩

theorem OutS.farR (h : OutS w0 W p0 p1 p2 src Br vR vN vM xs ns ms) (hBr : w0.heap.size ≤ Br) {b : Nat} (hb : b < w0.heap.size) : vR.ownBlock ≠ some b := fun e => by have := (h.rs.lt b e).1; omega

theorem OutS.far (h : OutS w0 W p0 p1 p2 src Br vR vN vM xs ns ms) {b : Nat} (hb : b < w0.heap.size) : vN.ownBlock ≠ some b ∧ vM.ownBlock ≠ some b :=
  ⟨fun e => by have := (h.ns.lt b e).1; omega, fun e => by have := (h.ms.lt b e).1; omega⟩

/-- The result's cell is written. -/
theorem OutS.fin (h : OutS w0 W p0 p1 p2 src Br vR vN vM xs ns ms) (x y z : Value) :
    Below w0.heap.size w0 (((W.setCell ⟨p1, 0, none⟩ x).setCell ⟨p1, 1, none⟩ y).setCell ⟨p1, 2, none⟩ z) ∧ OK encR3 1 22 (((W.setCell ⟨p1, 0, none⟩ x).setCell ⟨p1, 1, none⟩ y).setCell ⟨p1, 2, none⟩ z) Br vR xs ∧ OK encI 1 2 (((W.setCell ⟨p1, 0, none⟩ x).setCell ⟨p1, 1, none⟩ y).setCell ⟨p1, 2, none⟩ z) w0.heap.size vN ns ∧ OK encI 1 3 (((W.setCell ⟨p1, 0, none⟩ x).setCell ⟨p1, 1, none⟩ y).setCell ⟨p1, 2, none⟩ z) w0.heap.size vM ms := by
  have b1 := h.box1
  have b2 := b1.set_ 0 x
  have b3 := b2.set_ 1 y
  refine ⟨((h.below.setCell (p := ⟨p1, 0, none⟩) h.ge1 x).setCell (p := ⟨p1, 1, none⟩) h.ge1 y).setCell (p := ⟨p1, 2, none⟩) h.ge1 z, ?_, ?_, ?_⟩
  · exact ((h.rs.setBlk b1 (by decide) 0 x).setBlk b2 (by decide) 1 y).setBlk b3 (by decide) 2 z
  · exact ((h.ns.setBlk b1 (by decide) 0 x).setBlk b2 (by decide) 1 y).setBlk b3 (by decide) 2 z
  · exact ((h.ms.setBlk b1 (by decide) 0 x).setBlk b2 (by decide) 1 y).setBlk b3 (by decide) 2 z

/-- What is read of the source. -/
theorem OutS.old (h : OutS w0 W p0 p1 p2 src Br vR vN vM xs ns ms) {b o : Nat} {u : Value} (hc : w0.cell? ⟨b, o, none⟩ = some u) : W.cell? ⟨b, o, none⟩ = some u := (h.below.cell (p := ⟨b, o, none⟩) (World.block_lt_of_cell? w0 _ hc)).trans hc

end

set_option maxRecDepth 100000 in
set_option maxHeartbeats 8000000 in
theorem docMake (w : World) (B : Nat) (v : Value) (M : RM SV) (h : DocAt w B v M) (hB : B ≤ w.heap.size) (hok : M.Ok) (qn qm : Int) (hsm : M.own.length < 65536) :
    Calls Try.prog 61 #[v, .int .i64 qn, .int .i64 qm] w fun e w' => ∃ v', e = .returned v' ∧ DocAt w' B v' (M.make ⟨qn, qm⟩) ∧ Below w.heap.size w w' := by
  have h0 := h
  obtain ⟨rA, rn, rc, nA, nn, nc, mA, mn, mc, xs, rfl, h⟩ := h
  obtain ⟨e1, e2, e3⟩ := h.lens
  have hfew := rows_few hok
  obtain ⟨p0, hp0⟩ : ∃ p, p = w.heap.size := ⟨_, rfl⟩
  obtain ⟨p1, hp1⟩ : ∃ p, p = p0 + 1 := ⟨_, rfl⟩
  obtain ⟨p2, hp2⟩ : ∃ p, p = p0 + 1 + 1 := ⟨_, rfl⟩
  obtain ⟨W, hW⟩ : ∃ W, W = ((w.alloc (.cells #[.slice rA rn rc, .slice nA nn nc, .slice mA mn mc] 32)).alloc z3).alloc z3 := ⟨_, rfl⟩
  have hS : OutS w W p0 p1 p2 #[.slice rA rn rc, .slice nA nn nc, .slice mA mn mc] w.heap.size (.slice none 0 0) (.slice none 0 0) (.slice none 0 0) [] [] [] := by
    refine ⟨?_, ?_, ?_, ?_, OK.nil _ _, OK.nil _ _, OK.nil _ _, by omega, by omega, by omega, by omega⟩
    · rw [hW]; exact (((Below.refl _ w).alloc (Nat.le_refl _) _).alloc (by simp) _).alloc (by simp; omega) _
    · rw [hW, hp0]; exact ((Blk.new w _ _).alloc _).alloc _
    · rw [hW, hp1, hp0]; have := (Blk.new (w.alloc (.cells #[.slice rA rn rc, .slice nA nn nc, .slice mA mn mc] 32)) 32 nil3).alloc z3; simpa [z3, nil3] using this
    · rw [hW, hp2, hp0]; have := Blk.new ((w.alloc (.cells #[.slice rA rn rc, .slice nA nn nc, .slice mA mn mc] 32)).alloc z3) 32 nil3; simpa [z3, nil3] using this
  have HS0 := Lib.hid hS
  have H := Lib.hid h
  have HBB := Lib.hid hB
  have HFEW := Lib.hid hfew
  have HE := Lib.hid (And.intro e1 (And.intro e2 e3))
  have HSM := Lib.hid hsm
  have HOK := Lib.hid hok
  have hnn : nn ≤ 65536 := by omega
  have hrn : rn ≤ 65536 := by omega
  have HP2 := Lib.hid hp2
  have HP1 := Lib.hid hp1
  have HP0 := Lib.hid hp0
  have HW := Lib.hid hW
  have hmn : mn = nn := by omega
  clear hS h h0 hB hfew e1 e2 e3 hsm hok hp2 hp1 hp0 hW
  subst hmn
  go_enter Try.func61, Try.ntmps61
  go_upto_region 2 with fail
  have hwo : ((w.alloc (.cells #[.slice rA rn rc, .slice nA mn nc, .slice mA mn mc] 32)).alloc (.cells #[.slice none 0 0, .slice none 0 0, .slice none 0 0] 32)).alloc (.cells #[.slice none 0 0, .slice none 0 0, .slice none 0 0] 32) = W := HW.out.symm
  rw [hwo, ← HP0.out, ← HP1.out]
  rw [show p1 + 1 = p2 by have := HP1.out; have := HP2.out; omega]
  clear hwo
  go_wp2_with fail
  go_loopw [8] (fun i wr => ∃ (k : Nat) (vN vM : Value), k ≤ mn ∧ i = .int .i64 k ∧ Hid (OutS w wr p0 p1 p2 #[.slice rA rn rc, .slice nA mn nc, .slice mA mn mc] w.heap.size (.slice none 0 0) vN vM [] ((M.own.map SV.n).take k) ((M.own.map SV.m).take k))) (fun i _ => mn - (intOf i).toNat)
  case atStart => exact ⟨0, _, _, Nat.zero_le _, rfl, HS0⟩
  case round =>
    obtain ⟨k, vN, vM, hk, rfl, HS⟩ := hrel
    have c1 := HS.out.box0.cell 1
    by_cases hkn : k < mn
    · have hkm : k < M.own.length := by have := HE.out.2.1; omega
      obtain ⟨⟨nb, no, rfl, hnc⟩, mb, mo, rfl, hmc⟩ := H.out.nAt hkm
      have HNC := Lib.hid hnc
      have HMC := Lib.hid hmc
      have HT1 : Hid ((M.own.map SV.n).take (k + 1) = (M.own.map SV.n).take k ++ [(M.val (k + 1)).n]) := Lib.hid (by rw [List.take_succ_eq_append_getElem (by rw [List.length_map]; exact hkm), List.getElem_map]; unfold RM.val; rw [Nat.add_sub_cancel, List.getElem?_eq_getElem hkm]; rfl)
      have HT2 : Hid ((M.own.map SV.m).take (k + 1) = (M.own.map SV.m).take k ++ [(M.val (k + 1)).m]) := Lib.hid (by rw [List.take_succ_eq_append_getElem (by rw [List.length_map]; exact hkm), List.getElem_map]; unfold RM.val; rw [Nat.add_sub_cancel, List.getElem?_eq_getElem hkm]; rfl)
      have HL1 : Hid (((M.own.map SV.n).take k).length + 1 ≤ 1000000) := Lib.hid (by rw [List.length_take, List.length_map]; omega)
      have HL2 : Hid (((M.own.map SV.m).take k).length + 1 ≤ 1000000) := Lib.hid (by rw [List.length_take, List.length_map]; omega)
      clear hnc hmc
      go_upto_region 5 with fail
      clear c1
      go_wp2_with fail
      refine wp_push (a := 7) (b := 3) (ix := 8) (d0 := 18) (d1 := 19) (d2 := 20) (d3 := 21) (d4 := 22) (d5 := 23) (d6 := 24) (d7 := 25) (d8 := 26) (d9 := 27) push_N (fun _ => rfl) (by kernel_rfl) (by kernel_rfl) rfl (by kernel_rfl) (by kernel_rfl) (by kernel_rfl) (pa := p2) (pb := p0) rfl rfl rfl hkn HS.out.box2 HS.out.box0 rfl rfl (HS.out.old HNC.out) (HS.out.far (World.block_lt_of_cell? w _ HNC.out)).1 HS.out.ns HL1.out HS.out.size ?_
      intro v5 w5 y0 y1 y2 y3 y4 y5 y6 y7 y8 y9 k1 hv k3 k4
      obtain ⟨A5, n5, c5, rfl⟩ := hv
      have HS5 := Lib.hid (HS.out.pushN k1 k3)
      clear k1 k3 k4
      obtain ⟨w6, hw6⟩ : ∃ x, x = w5.setCell ⟨p2, 1, none⟩ (.slice A5 n5 c5) := ⟨_, rfl⟩
      rw [← hw6] at HS5 ⊢
      clear hw6
      simp only [List.setIfInBounds_toArray, List.set_cons_succ, List.set_cons_zero]
      go_wp2_with fail
      refine wp_push (a := 7) (b := 3) (ix := 8) (d0 := 28) (d1 := 29) (d2 := 30) (d3 := 31) (d4 := 32) (d5 := 33) (d6 := 34) (d7 := 35) (d8 := 36) (d9 := 37) push_M (fun _ => rfl) (by kernel_rfl) (by kernel_rfl) rfl (by kernel_rfl) (by kernel_rfl) (by kernel_rfl) (pa := p2) (pb := p0) rfl rfl rfl hkn HS5.out.box2 HS5.out.box0 rfl rfl (HS5.out.old HMC.out) (HS5.out.far (World.block_lt_of_cell? w _ HMC.out)).2 HS5.out.ms HL2.out HS5.out.size ?_
      intro v7 w7 y0 y1 y2 y3 y4 y5 y6 y7 y8 y9 k1 hv k3 k4
      obtain ⟨A7, n7, c7, rfl⟩ := hv
      have HS7 := Lib.hid (HS5.out.pushM k1 k3)
      clear k1 k3 k4
      obtain ⟨w8, hw8⟩ : ∃ x, x = w7.setCell ⟨p2, 2, none⟩ (.slice A7 n7 c7) := ⟨_, rfl⟩
      rw [← hw8] at HS7 ⊢
      clear hw8
      simp only [List.setIfInBounds_toArray, List.set_cons_succ, List.set_cons_zero]
      go_wp2_with fail
      go_roundw
      case rel => exact ⟨k + 1, _, _, by omega, by go_num, by rw [HT1.out, HT2.out]; exact HS7⟩
      case measure => simp [intOf]; omega
    · obtain rfl : k = mn := by omega
      have hN1 : (M.own.map SV.n).take k = M.own.map SV.n := List.take_of_length_le (by rw [List.length_map]; have := HE.out.2.1; omega)
      have hM1 : (M.own.map SV.m).take k = M.own.map SV.m := List.take_of_length_le (by rw [List.length_map]; have := HE.out.2.1; omega)
      rw [hN1, hM1] at HS
      clear hN1 hM1
      have HLN : Hid ((M.own.map SV.n).length + 1 ≤ 1000000) := Lib.hid (by rw [List.length_map]; have := HE.out.2.1; omega)
      have HLM : Hid ((M.own.map SV.m).length + 1 ≤ 1000000) := Lib.hid (by rw [List.length_map]; have := HE.out.2.1; omega)
      have c21 := HS.out.box2.cell 1
      go_upto_region 8 with ((at_builtin; go_loud (refine wpList_appE (v := vN) etI64s encI_len encI_one (y := qn) rfl (.tmp 39) (.tmp 41) rfl rfl (HS.out.alloc _).ns wr.heap.size rfl (oneI wr qn _) HLN.out (HS.out.alloc _).size ?_; intro v4 w4 k1 k2 k3; obtain ⟨A4, cc4, hv4, -, -, -, -⟩ := (k1.rk encI_len (Nat.le_refl _)).open_; obtain ⟨n4, hn4⟩ : ∃ z, z = (M.own.map SV.n ++ [qn]).length := ⟨_, rfl⟩; rw [← hn4] at hv4; subst hv4; obtain ⟨g1, g2⟩ := (HS.out.alloc (Obj.cells #[Value.int IntKind.i64 qn] 2)).gN k2; have HS4 := Lib.hid ((HS.out.alloc (Obj.cells #[Value.int IntKind.i64 qn] 2)).pushN k1 k2); have HN4 := Lib.hid hn4; clear k1 k2 k3 hn4)))
      clear c1 c21 g1 g2
      obtain ⟨w5, hw5⟩ : ∃ x, x = w4.setCell ⟨p2, 1, none⟩ (.slice A4 n4 cc4) := ⟨_, rfl⟩
      rw [← hw5] at HS4 ⊢
      clear hw5
      have c22 := HS4.out.box2.cell 2
      go_upto_region 9 with ((at_builtin; go_loud (refine wpList_appE (v := vM) etInts encI_len encI_one (y := qm) rfl (.tmp 45) (.tmp 47) rfl rfl (HS4.out.alloc _).ms w5.heap.size rfl (oneI w5 qm _) HLM.out (HS4.out.alloc _).size ?_; intro v6 w6 k1 k2 k3; obtain ⟨A6, cc6, hv6, -, -, -, -⟩ := (k1.rk encI_len (Nat.le_refl _)).open_; obtain ⟨n6, hn6⟩ : ∃ z, z = (M.own.map SV.m ++ [qm]).length := ⟨_, rfl⟩; rw [← hn6] at hv6; subst hv6; obtain ⟨g1, g2⟩ := (HS4.out.alloc (Obj.cells #[Value.int IntKind.i64 qm] 3)).gM k2; have HS6 := Lib.hid ((HS4.out.alloc (Obj.cells #[Value.int IntKind.i64 qm] 3)).pushM k1 k2); clear k1 k2 k3 hn6)))
      clear c22 g1 g2
      obtain ⟨w7, hw7⟩ : ∃ x, x = w6.setCell ⟨p2, 2, none⟩ (.slice A6 n6 cc6) := ⟨_, rfl⟩
      rw [← hw7] at HS6 ⊢
      clear hw7
      go_wp2_with fail
      go_loopw [9] (fun i wr => ∃ (q : Nat) (vR : Value), q ≤ rn ∧ i = .int .i64 q ∧ Hid (OutS w wr p0 p1 p2 #[.slice rA rn rc, .slice nA k nc, .slice mA k mc] w.heap.size vR (.slice A4 n4 cc4) (.slice A6 n6 cc6) (xs.take q) (M.own.map SV.n ++ [qn]) (M.own.map SV.m ++ [qm]))) (fun i _ => rn - (intOf i).toNat)
      case atStart => exact ⟨0, _, Nat.zero_le _, rfl, HS6⟩
      case round =>
        obtain ⟨q, vR, hq, rfl, HS⟩ := hrel
        have c0 := HS.out.box0.cell 0
        by_cases hqn : q < rn
        · have hqx : q < xs.length := by have := HE.out.1; have := H.out.each.1; omega
          obtain ⟨rb, ro, rfl, hrc⟩ := cellR H.out.rows (List.getElem?_eq_getElem hqx)
          have HRC := Lib.hid hrc
          have HT1 : Hid (xs.take (q + 1) = xs.take q ++ [xs[q]]) := Lib.hid (List.take_succ_eq_append_getElem hqx)
          have HL1 : Hid ((xs.take q).length + 1 ≤ 1000000) := Lib.hid (by rw [List.length_take]; omega)
          clear hrc
          go_upto_region 12 with fail
          clear c0
          go_wp2_with fail
          refine wp_push (a := 7) (b := 3) (ix := 9) (d0 := 57) (d1 := 58) (d2 := 59) (d3 := 60) (d4 := 61) (d5 := 62) (d6 := 63) (d7 := 64) (d8 := 65) (d9 := 66) push_R (fun _ => rfl) (by kernel_rfl) (by kernel_rfl) rfl (by kernel_rfl) (by kernel_rfl) (by kernel_rfl) (pa := p2) (pb := p0) rfl rfl rfl hqn HS.out.box2 HS.out.box0 rfl rfl (HS.out.old HRC.out) (HS.out.farR (Nat.le_refl _) (World.block_lt_of_cell? w _ HRC.out)) HS.out.rs HL1.out HS.out.size ?_
          intro v9 w9 y0 y1 y2 y3 y4 y5 y6 y7 y8 y9 k1 hv k3 k4
          obtain ⟨A9, n9, c9, rfl⟩ := hv
          have HS7 := Lib.hid (HS.out.pushR (Nat.le_refl _) k1 k3)
          clear k1 k3 k4
          obtain ⟨w8, hw8⟩ : ∃ x, x = w9.setCell ⟨p2, 0, none⟩ (.slice A9 n9 c9) := ⟨_, rfl⟩
          rw [← hw8] at HS7 ⊢
          clear hw8
          simp only [List.setIfInBounds_toArray, List.set_cons_succ, List.set_cons_zero]
          go_wp2_with fail
          go_roundw
          case rel => exact ⟨q + 1, _, by omega, by go_num, by rw [HT1.out]; exact HS7⟩
          case measure => simp [intOf]; omega
        · obtain rfl : q = rn := by omega
          have hX1 : xs.take q = xs := List.take_of_length_le (by have := HE.out.1; have := H.out.each.1; omega)
          rw [hX1] at HS
          clear hX1
          have HLX : Hid (xs.length + 1 ≤ 1000000) := Lib.hid (by have := HE.out.1; have := H.out.each.1; omega)
          have c20 := HS.out.box2.cell 0
          have c21 := HS.out.box2.cell 1
          have HSa := Lib.hid ((HS.out.alloc (.cells #[.int .i64 (n4 : Int)] 3)).alloc (.cells #[.slice (some ⟨wr.heap.size, 0, none⟩) 1 1] 22))
          have hc : ∀ (j : Nat) u, (encR3 (some ⟨wr.heap.size, 0, none⟩, 1, 1))[j]? = some u → ((wr.alloc (.cells #[.int .i64 (n4 : Int)] 3)).alloc (.cells #[.slice (some ⟨wr.heap.size, 0, none⟩) 1 1] 22)).cell? ⟨wr.heap.size + 1, j, none⟩ = some u := by
            intro j u hu
            rw [show wr.heap.size + 1 = (wr.alloc (.cells #[.int .i64 (n4 : Int)] 3)).heap.size by simp, (Blk.new _ _ _).cell j]
            simpa [encR3] using hu
          have HC := Lib.hid hc
          have HBZ := Lib.hid ((Blk.new wr 3 #[.int .i64 (n4 : Int)]).alloc (.cells #[.slice (some ⟨wr.heap.size, 0, none⟩) 1 1] 22))
          have HNZ : Hid (some wr.heap.size ≠ vR.ownBlock) := Lib.hid (fun e => by have := (HS.out.rs.lt _ e.symm).2; omega)
          have HNP : Hid (wr.heap.size ≠ p1 ∧ wr.heap.size ≠ p2 ∧ w.heap.size ≤ wr.heap.size) := Lib.hid ⟨by have := HS.out.box1.lt; omega, by have := HS.out.box2.lt; omega, HS.out.size⟩
          clear hc
          go_upto_region 14 with ((at_builtin; go_loud (refine wpList_appE (v := vR) etRows encR3_len encR3_one (y := (some ⟨wr.heap.size, 0, none⟩, 1, 1)) rfl (.tmp 68) (.tmp 73) rfl rfl HSa.out.rs (wr.heap.size + 1) rfl HC.out HLX.out HSa.out.size ?_; intro v10 w10 k1 k2 k3; obtain ⟨A10, cc10, hv10, -, -, -, -⟩ := (k1.rk encR3_len (Nat.le_refl _)).open_; obtain ⟨n10, hn10⟩ : ∃ z, z = (xs ++ [((some ⟨wr.heap.size, 0, none⟩, 1, 1) : Option Addr × Nat × Nat)]).length := ⟨_, rfl⟩; rw [← hn10] at hv10; subst hv10; obtain ⟨g1, g2⟩ := HSa.out.gR k2; have HS10 := Lib.hid (HSa.out.pushR (Nat.le_refl _) k1 k2); have HB10 := Lib.hid ((HBZ.out.grown k2 HNZ.out).far (p := ⟨p2, 0, none⟩) HNP.out.2.1 (.slice A10 n10 cc10)); clear k1 k2 k3 hn10)))
          clear c0 c20 c21 g1 g2
          obtain ⟨w11, hw11⟩ : ∃ x, x = w10.setCell ⟨p2, 0, none⟩ (.slice A10 n10 cc10) := ⟨_, rfl⟩
          rw [← hw11] at HS10 HB10 ⊢
          clear hw11
          obtain ⟨z, hz⟩ : ∃ z, z = wr.heap.size := ⟨_, rfl⟩
          rw [← hz] at HS10 HB10 HNP
          have HFIN := Lib.hid (HS10.out.fin (.slice A10 n10 cc10) (.slice A4 n4 cc4) (.slice A6 n6 cc6))
          have HB12 := Lib.hid (((HB10.out.far (p := ⟨p1, 0, none⟩) HNP.out.1 (.slice A10 n10 cc10)).far (p := ⟨p1, 1, none⟩) HNP.out.1 (.slice A4 n4 cc4)).far (p := ⟨p1, 2, none⟩) HNP.out.1 (.slice A6 n6 cc6))
          have q0 := HS10.out.box2.cell 0
          have q1 := HS10.out.box2.cell 1
          have q2 := HS10.out.box2.cell 2
          have s0 := HS10.out.box1.cell 0
          have s1 := HS10.out.box1.cell 1
          have s2 := HS10.out.box1.cell 2
          have i0 := HS10.out.box1.frozen 0
          have i1 := HS10.out.box1.frozen 1
          have i2 := HS10.out.box1.frozen 2
          unfold nil3 at s0 s1 s2
          clear hz
          go_wp2_with fail
          refine ret_cell1 (p := 6) (v := .agg #[.slice A10 n10 cc10, .slice A4 n4 cc4, .slice A6 n6 cc6]) rfl rfl (by go_simp) rfl ⟨_, rfl, ?_, HFIN.out.1⟩
          refine ⟨A10, n10, cc10, A4, n4, cc4, A6, n6, cc6, xs ++ [(some ⟨z, 0, none⟩, 1, 1)], rfl, ⟨HFIN.out.2.1.base HBB.out, ?_, ?_, ?_⟩⟩
          · refine (H.out.each.below HFIN.out.1).snoc ?_
            have h1 := OK_one HB12.out (Nat.le_trans HBB.out HNP.out.2.2)
            have h2 : (n4 : Int) = natI (M.own.length + 1) := by rw [HN4.out]; simp [natI]
            rw [h2] at h1
            exact h1
          · have h1 := HFIN.out.2.2.1.base HBB.out
            have e : (M.make ⟨qn, qm⟩).own.map SV.n = M.own.map SV.n ++ [qn] := by simp [RM.make]
            rw [e]
            exact h1
          · have h1 := HFIN.out.2.2.2.base HBB.out
            have e : (M.make ⟨qn, qm⟩).own.map SV.m = M.own.map SV.m ++ [qm] := by simp [RM.make]
            rw [e]
            exact h1

end Go.Proofs.Ytbbfnbnjaiimgaa

/-
  The document's Set.
-/
namespace Go.Proofs.Ytbbfnbnjaiimgaa
open Go.RowKit
set_option linter.unusedVariables false

theorem map_take_set {own : List SV} {z : Nat} {x : SV} (f : SV → Int) {k : Nat} (hk : k < own.length) : ((own.set z x).map f).take (k + 1) = ((own.set z x).map f).take k ++ [if z = k then f x else f own[k]] := by
  rw [List.take_succ_eq_append_getElem (by simpa using hk), List.getElem_map, List.getElem_set]
  by_cases e : z = k
  · rw [if_pos e, if_pos e]
  · rw [if_neg e, if_neg e]

set_option maxRecDepth 100000 in
set_option maxHeartbeats 8000000 in
theorem docSet (w : World) (B : Nat) (v : Value) (M : RM SV) (h : DocAt w B v M) (hB : B ≤ w.heap.size) (hok : M.Ok) (a : Nat) (ha : 1 ≤ a ∧ a ≤ M.own.length) (qn qm : Int) (hsm : M.own.length ≤ 65536) :
    Calls Try.prog 65 #[v, .int .i64 (a : Int), .int .i64 qn, .int .i64 qm] w fun e w' => ∃ v', e = .returned v' ∧ DocAt w' B v' (M.set a ⟨qn, qm⟩) ∧ Below w.heap.size w w' := by
  obtain ⟨rA, rn, rc, nA, nn, nc, mA, mn, mc, xs, rfl, h⟩ := h
  obtain ⟨e1, e2, e3⟩ := h.lens
  obtain ⟨z, rfl⟩ : ∃ z, a = z + 1 := ⟨a - 1, by omega⟩
  rw [show ((z + 1 : Nat) : Int) = (z : Int) + 1 by omega]
  obtain ⟨S, hSdef⟩ : ∃ S, S = M.own.set z ⟨qn, qm⟩ := ⟨_, rfl⟩
  have hSl : S.length = M.own.length := by rw [hSdef]; simp
  obtain ⟨p0, hp0⟩ : ∃ p, p = w.heap.size := ⟨_, rfl⟩
  obtain ⟨p1, hp1⟩ : ∃ p, p = p0 + 1 := ⟨_, rfl⟩
  obtain ⟨p2, hp2⟩ : ∃ p, p = p0 + 1 + 1 := ⟨_, rfl⟩
  obtain ⟨W1, hW1⟩ : ∃ W, W = (w.alloc (.cells #[.slice rA rn rc, .slice nA nn nc, .slice mA mn mc] 32)).alloc z3 := ⟨_, rfl⟩
  obtain ⟨W, hW⟩ : ∃ W, W = W1.alloc (.cells #[.slice rA rn rc, .slice none 0 0, .slice none 0 0] 32) := ⟨_, rfl⟩
  have hW1s : W1.heap.size = p2 := by rw [hW1, hp2, hp0]; simp
  have hb1 : Below w.heap.size w W1 := by rw [hW1]; exact ((Below.refl _ w).alloc (Nat.le_refl _) _).alloc (by simp) _
  have hk0 : Blk W1 p0 32 #[.slice rA rn rc, .slice nA nn nc, .slice mA mn mc] := by rw [hW1, hp0]; exact (Blk.new w _ _).alloc _
  have hk1 : Blk W1 p1 32 nil3 := by rw [hW1, hp1, hp0]; have := Blk.new (w.alloc (.cells #[.slice rA rn rc, .slice nA nn nc, .slice mA mn mc] 32)) 32 nil3; simpa [z3, nil3] using this
  have hS : OutS w W p0 p1 p2 #[.slice rA rn rc, .slice nA nn nc, .slice mA mn mc] B (.slice rA rn rc) (.slice none 0 0) (.slice none 0 0) xs [] [] := by
    refine ⟨?_, ?_, ?_, ?_, ?_, OK.nil _ _, OK.nil _ _, by omega, by omega, by omega, by omega⟩
    · rw [hW]; exact hb1.alloc hb1.size _
    · rw [hW]; exact hk0.alloc _
    · rw [hW]; exact hk1.alloc _
    · rw [hW, ← hW1s]; exact Blk.new _ _ _
    · rw [hW]; exact (h.rows.below hb1).alloc _
  have HS0 := Lib.hid hS
  have H := Lib.hid h
  have HBB := Lib.hid hB
  have HE := Lib.hid (And.intro e1 (And.intro e2 e3))
  have HSD := Lib.hid hSdef
  have HSL := Lib.hid hSl
  have hnn : nn ≤ 65536 := by omega
  have hz : z ≤ 65536 := by omega
  have hmn : mn = nn := by omega
  have HP2 := Lib.hid hp2
  have HP1 := Lib.hid hp1
  have HP0 := Lib.hid hp0
  have HW := Lib.hid hW
  have HW1 := Lib.hid hW1
  have HW1S := Lib.hid hW1s
  have c00 := hk0.cell 0
  clear hS h hB e1 e2 e3 hsm hok hp2 hp1 hp0 hW hW1 hW1s ha hSdef hSl hb1 hk0 hk1
  subst hmn
  go_enter Try.func65, Try.ntmps65
  go_upto_region 1 with fail
  have hwo : (w.alloc (.cells #[.slice rA rn rc, .slice nA mn nc, .slice mA mn mc] 32)).alloc (.cells #[.slice none 0 0, .slice none 0 0, .slice none 0 0] 32) = W1 := HW1.out.symm
  rw [hwo, ← HP0.out, ← HP1.out]
  clear hwo
  go_upto_region 2 with fail
  rw [← HW.out, HW1S.out]
  clear c00
  go_wp2_with fail
  go_loopw [10] (fun i wr => ∃ (k : Nat) (vN vM : Value), k ≤ mn ∧ i = .int .i64 k ∧ Hid (OutS w wr p0 p1 p2 #[.slice rA rn rc, .slice nA mn nc, .slice mA mn mc] B (.slice rA rn rc) vN vM xs ((S.map SV.n).take k) ((S.map SV.m).take k))) (fun i _ => mn - (intOf i).toNat)
  case atStart => exact ⟨0, _, _, Nat.zero_le _, rfl, HS0⟩
  case round =>
    obtain ⟨k, vN, vM, hk, rfl, HS⟩ := hrel
    have c1 := HS.out.box0.cell 1
    by_cases hkn : k < mn
    · have hkm : k < M.own.length := by have := HE.out.2.1; omega
      have HT1 : Hid ((S.map SV.n).take (k + 1) = (S.map SV.n).take k ++ [if z = k then qn else M.own[k].n]) := Lib.hid (by rw [HSD.out]; exact map_take_set SV.n hkm)
      have HT2 : Hid ((S.map SV.m).take (k + 1) = (S.map SV.m).take k ++ [if z = k then qm else M.own[k].m]) := Lib.hid (by rw [HSD.out]; exact map_take_set SV.m hkm)
      have HL1 : Hid (((S.map SV.n).take k).length + 1 ≤ 1000000) := Lib.hid (by rw [List.length_take, List.length_map]; omega)
      have HL2 : Hid (((S.map SV.m).take k).length + 1 ≤ 1000000) := Lib.hid (by rw [List.length_take, List.length_map]; omega)
      by_cases hkz : z = k
      · rw [if_pos hkz] at HT1 HT2
        subst hkz
        have c21 := HS.out.box2.cell 1
        go_upto_region 7 with ((at_builtin; go_loud (refine wpList_appE (v := vN) etI64s encI_len encI_one (y := qn) rfl (.tmp 26) (.tmp 28) rfl rfl (HS.out.alloc _).ns wr.heap.size rfl (oneI wr qn _) HL1.out (HS.out.alloc _).size ?_; intro v4 w4 k1 k2 k3; obtain ⟨A4, cc4, hv4, -, -, -, -⟩ := (k1.rk encI_len (Nat.le_refl _)).open_; obtain ⟨n4, hn4⟩ : ∃ q, q = ((S.map SV.n).take z ++ [qn]).length := ⟨_, rfl⟩; rw [← hn4] at hv4; subst hv4; obtain ⟨g1, g2⟩ := (HS.out.alloc (Obj.cells #[Value.int IntKind.i64 qn] 2)).gN k2; have HS4 := Lib.hid ((HS.out.alloc (Obj.cells #[Value.int IntKind.i64 qn] 2)).pushN k1 k2); clear k1 k2 k3 hn4)))
        clear c1 c21 g1 g2
        obtain ⟨w5, hw5⟩ : ∃ x, x = w4.setCell ⟨p2, 1, none⟩ (.slice A4 n4 cc4) := ⟨_, rfl⟩
        rw [← hw5] at HS4 ⊢
        clear hw5
        have c22 := HS4.out.box2.cell 2
        go_wp2_with ((at_builtin; go_loud (refine wpList_appE (v := vM) etInts encI_len encI_one (y := qm) rfl (.tmp 32) (.tmp 34) rfl rfl (HS4.out.alloc _).ms w5.heap.size rfl (oneI w5 qm _) HL2.out (HS4.out.alloc _).size ?_; intro v6 w6 k1 k2 k3; obtain ⟨A6, cc6, hv6, -, -, -, -⟩ := (k1.rk encI_len (Nat.le_refl _)).open_; obtain ⟨n6, hn6⟩ : ∃ q, q = ((S.map SV.m).take z ++ [qm]).length := ⟨_, rfl⟩; rw [← hn6] at hv6; subst hv6; obtain ⟨g1, g2⟩ := (HS4.out.alloc (Obj.cells #[Value.int IntKind.i64 qm] 3)).gM k2; have HS6 := Lib.hid ((HS4.out.alloc (Obj.cells #[Value.int IntKind.i64 qm] 3)).pushM k1 k2); clear k1 k2 k3 hn6)))
        go_roundw
        case rel => exact ⟨z + 1, _, _, by omega, by go_num, by rw [HT1.out, HT2.out]; exact HS6⟩
        case measure => simp [intOf]; omega
      · rw [if_neg hkz] at HT1 HT2
        have d1 : ((k : Int) == (z : Int)) = false := by simp; omega
        have d2 : (k == z) = false := by simp; omega
        have d3 : decide (k = z) = false := by simp; omega
        obtain ⟨⟨nb, no, rfl, hnc⟩, mb, mo, rfl, hmc⟩ := H.out.nAt hkm
        have hval : M.val (k + 1) = M.own[k] := by unfold RM.val; rw [Nat.add_sub_cancel, List.getElem?_eq_getElem hkm]; rfl
        rw [hval] at hnc hmc
        have HNC := Lib.hid hnc
        have HMC := Lib.hid hmc
        clear hnc hmc hval
        go_upto_region 8 with fail
        clear c1 d1 d2 d3
        go_wp2_with fail
        refine wp_push (a := 9) (b := 4) (ix := 10) (d0 := 37) (d1 := 38) (d2 := 39) (d3 := 40) (d4 := 41) (d5 := 42) (d6 := 43) (d7 := 44) (d8 := 45) (d9 := 46) push_N (fun _ => rfl) (by kernel_rfl) (by kernel_rfl) rfl (by kernel_rfl) (by kernel_rfl) (by kernel_rfl) (pa := p2) (pb := p0) rfl rfl rfl hkn HS.out.box2 HS.out.box0 rfl rfl (HS.out.old HNC.out) (HS.out.far (World.block_lt_of_cell? w _ HNC.out)).1 HS.out.ns HL1.out HS.out.size ?_
        intro v5 w5 y0 y1 y2 y3 y4 y5 y6 y7 y8 y9 k1 hv k3 k4
        obtain ⟨A5, n5, c5, rfl⟩ := hv
        have HS5 := Lib.hid (HS.out.pushN k1 k3)
        clear k1 k3 k4
        obtain ⟨w6, hw6⟩ : ∃ x, x = w5.setCell ⟨p2, 1, none⟩ (.slice A5 n5 c5) := ⟨_, rfl⟩
        rw [← hw6] at HS5 ⊢
        clear hw6
        simp only [List.setIfInBounds_toArray, List.set_cons_succ, List.set_cons_zero]
        go_wp2_with fail
        refine wp_push (a := 9) (b := 4) (ix := 10) (d0 := 47) (d1 := 48) (d2 := 49) (d3 := 50) (d4 := 51) (d5 := 52) (d6 := 53) (d7 := 54) (d8 := 55) (d9 := 56) push_M (fun _ => rfl) (by kernel_rfl) (by kernel_rfl) rfl (by kernel_rfl) (by kernel_rfl) (by kernel_rfl) (pa := p2) (pb := p0) rfl rfl rfl hkn HS5.out.box2 HS5.out.box0 rfl rfl (HS5.out.old HMC.out) (HS5.out.far (World.block_lt_of_cell? w _ HMC.out)).2 HS5.out.ms HL2.out HS5.out.size ?_
        intro v7 w7 y0 y1 y2 y3 y4 y5 y6 y7 y8 y9 k1 hv k3 k4
        obtain ⟨A7, n7, c7, rfl⟩ := hv
        have HS7 := Lib.hid (HS5.out.pushM k1 k3)
        clear k1 k3 k4
        obtain ⟨w8, hw8⟩ : ∃ x, x = w7.setCell ⟨p2, 2, none⟩ (.slice A7 n7 c7) := ⟨_, rfl⟩
        rw [← hw8] at HS7 ⊢
        clear hw8
        simp only [List.setIfInBounds_toArray, List.set_cons_succ, List.set_cons_zero]
        go_wp2_with fail
        go_roundw
        case rel => exact ⟨k + 1, _, _, by omega, by go_num, by rw [HT1.out, HT2.out]; exact HS7⟩
        case measure => simp [intOf]; omega
    · obtain rfl : k = mn := by omega
      have hN1 : (S.map SV.n).take k = S.map SV.n := List.take_of_length_le (by rw [List.length_map]; have := HE.out.2.1; have := HSL.out; omega)
      have hM1 : (S.map SV.m).take k = S.map SV.m := List.take_of_length_le (by rw [List.length_map]; have := HE.out.2.1; have := HSL.out; omega)
      rw [hN1, hM1] at HS
      clear hN1 hM1
      obtain ⟨A4, cc4, hv4, -, -, -, -⟩ := (HS.out.ns.rk encI_len (Nat.le_refl _)).open_
      obtain ⟨A6, cc6, hv6, -, -, -, -⟩ := (HS.out.ms.rk encI_len (Nat.le_refl _)).open_
      obtain ⟨n4, hn4⟩ : ∃ q, q = (S.map SV.n).length := ⟨_, rfl⟩
      obtain ⟨n6, hn6⟩ : ∃ q, q = (S.map SV.m).length := ⟨_, rfl⟩
      rw [← hn4] at hv4
      rw [← hn6] at hv6
      subst hv4 hv6
      have HFIN := Lib.hid (HS.out.fin (.slice rA rn rc) (.slice A4 n4 cc4) (.slice A6 n6 cc6))
      have q0 := HS.out.box2.cell 0
      have q1 := HS.out.box2.cell 1
      have q2 := HS.out.box2.cell 2
      have s0 := HS.out.box1.cell 0
      have s1 := HS.out.box1.cell 1
      have s2 := HS.out.box1.cell 2
      have i0 := HS.out.box1.frozen 0
      have i1 := HS.out.box1.frozen 1
      have i2 := HS.out.box1.frozen 2
      unfold nil3 at s0 s1 s2
      clear hn4 hn6
      go_wp2_with fail
      refine ret_cell1 (p := 8) (v := .agg #[.slice rA rn rc, .slice A4 n4 cc4, .slice A6 n6 cc6]) rfl rfl (by go_simp) rfl ⟨_, rfl, ?_, HFIN.out.1⟩
      refine ⟨rA, rn, rc, A4, n4, cc4, A6, n6, cc6, xs, rfl, ⟨HFIN.out.2.1, H.out.each.below HFIN.out.1, ?_, ?_⟩⟩
      · have h1 := HFIN.out.2.2.1.base HBB.out
        rw [HSD.out] at h1
        exact h1
      · have h1 := HFIN.out.2.2.2.base HBB.out
        rw [HSD.out] at h1
        exact h1

end Go.Proofs.Ytbbfnbnjaiimgaa
