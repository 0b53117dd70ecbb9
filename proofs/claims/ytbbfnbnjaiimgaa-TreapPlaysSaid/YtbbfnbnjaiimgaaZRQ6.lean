/-
  The document's Join.
-/
import Derived.Test.YtbbfnbnjaiimgaaZRQ4
import Derived.Test.YtbbfnbnjaiimgaaRP40
namespace Go.Proofs.Ytbbfnbnjaiimgaa
open Go.RowKit
set_option linter.unusedVariables false

theorem oneR (w : World) (y : Option Addr × Nat × Nat) (t : TypeId) : ∀ (j : Nat) u, (encR3 y)[j]? = some u → (w.alloc (.cells #[.slice y.1 y.2.1 y.2.2] t)).cell? ⟨w.heap.size, j, none⟩ = some u := by
  intro j u hu; rw [(Blk.new w _ _).cell j]; simpa [encR3] using hu

theorem ok_none {w : World} : OK encR3 1 22 (w.alloc (.cells #[] 22)) w.heap.size (.slice (some ⟨w.heap.size, 0, none⟩) 0 0) [] := ⟨by simp, World.ownsRow_lit w #[] 0 (by omega) (by decide) rfl⟩

/-- New rows under way. -/
structure JS (w0 W : World) (p0 p1 : Nat) (src : Array Value) (vO : Value) (ys : List (Option Addr × Nat × Nat)) : Prop where
  below : Below w0.heap.size w0 W
  box0 : Blk W p0 32 src
  box1 : Blk W p1 32 nil3
  out : OK encR3 1 22 W w0.heap.size vO ys
  ge0 : w0.heap.size ≤ p0
  ge1 : w0.heap.size ≤ p1
  ne : p0 ≠ p1

section

variable {w0 W w' : World} {p0 p1 : Nat} {src : Array Value} {vO v' : Value} {ys ys' : List (Option Addr × Nat × Nat)}

theorem JS.size (h : JS w0 W p0 p1 src vO ys) : w0.heap.size ≤ W.heap.size := h.below.size

theorem JS.next (h : JS w0 W p0 p1 src vO ys) (hb : Below W.heap.size W w') : JS w0 w' p0 p1 src vO ys :=
  ⟨h.below.trans (hb.mono h.below.size), h.box0.below hb h.box0.lt, h.box1.below hb h.box1.lt, h.out.below hb, h.ge0, h.ge1, h.ne⟩

theorem JS.alloc (h : JS w0 W p0 p1 src vO ys) (o : Obj) : JS w0 (W.alloc o) p0 p1 src vO ys := h.next ((Below.refl _ _).alloc (Nat.le_refl _) _)

theorem JS.push (h : JS w0 W p0 p1 src vO ys) (k1 : OK encR3 1 22 w' w0.heap.size v' ys') (k2 : W.grownBy w' vO.ownBlock) : JS w0 w' p0 p1 src v' ys' :=
  ⟨h.below.grown k2 h.below.size (fun q hq => (h.out.lt q hq).1), h.box0.grown k2 (h.out.notBlk h.box0 (by decide)), h.box1.grown k2 (h.out.notBlk h.box1 (by decide)), k1, h.ge0, h.ge1, h.ne⟩

/-- Another row, of numbers, is grown. -/
theorem JS.aside (h : JS w0 W p0 p1 src vO ys) {v : Value} {zs : List Int} (k : OK encI 1 3 W w0.heap.size v zs) (k2 : W.grownBy w' v.ownBlock) : JS w0 w' p0 p1 src vO ys :=
  ⟨h.below.grown k2 h.below.size (fun q hq => (k.lt q hq).1), h.box0.grown k2 (k.notBlk h.box0 (by decide)), h.box1.grown k2 (k.notBlk h.box1 (by decide)), h.out.kept k2 (h.out.apart k (by decide)), h.ge0, h.ge1, h.ne⟩

theorem JS.old (h : JS w0 W p0 p1 src vO ys) {b o : Nat} {u : Value} (hc : w0.cell? ⟨b, o, none⟩ = some u) : W.cell? ⟨b, o, none⟩ = some u := (h.below.cell (p := ⟨b, o, none⟩) (World.block_lt_of_cell? w0 _ hc)).trans hc

theorem JS.set_ (h : JS w0 W p0 p1 src vO ys) (u : Value) : JS w0 (W.setCell ⟨p0, 0, none⟩ u) p0 p1 (src.setIfInBounds 0 u) vO ys :=
  ⟨h.below.setCell (p := ⟨p0, 0, none⟩) h.ge0 u, h.box0.set_ 0 u, h.box1.far (p := ⟨p0, 0, none⟩) h.ne.symm u, h.out.setBlk h.box0 (by decide) 0 u, h.ge0, h.ge1, h.ne⟩

theorem JS.fin (h : JS w0 W p0 p1 src vO ys) (x y z : Value) :
    Below w0.heap.size w0 (((W.setCell ⟨p1, 0, none⟩ x).setCell ⟨p1, 1, none⟩ y).setCell ⟨p1, 2, none⟩ z) ∧ OK encR3 1 22 (((W.setCell ⟨p1, 0, none⟩ x).setCell ⟨p1, 1, none⟩ y).setCell ⟨p1, 2, none⟩ z) w0.heap.size vO ys ∧ ∀ (B : Nat) (v : Value) (zs : List Int), OK encI 1 3 W B v zs → OK encI 1 3 (((W.setCell ⟨p1, 0, none⟩ x).setCell ⟨p1, 1, none⟩ y).setCell ⟨p1, 2, none⟩ z) B v zs := by
  have b1 := h.box1
  have b2 := b1.set_ 0 x
  have b3 := b2.set_ 1 y
  refine ⟨((h.below.setCell (p := ⟨p1, 0, none⟩) h.ge1 x).setCell (p := ⟨p1, 1, none⟩) h.ge1 y).setCell (p := ⟨p1, 2, none⟩) h.ge1 z, ?_, fun B v zs ho => ?_⟩
  · exact ((h.out.setBlk b1 (by decide) 0 x).setBlk b2 (by decide) 1 y).setBlk b3 (by decide) 2 z
  · exact ((ho.setBlk b1 (by decide) 0 x).setBlk b2 (by decide) 1 y).setBlk b3 (by decide) 2 z

end

/-- What a region reads of a rope's box. -/
def Box3 (p : Nat) (x y z : Value) (w : World) : Prop := w.cell? ⟨p, 0, none⟩ = some x ∧ w.cell? ⟨p, 1, none⟩ = some y ∧ w.cell? ⟨p, 2, none⟩ = some z

theorem Box3.all {p : Nat} {x y z : Value} {w : World} (h : Box3 p x y z w) : w.cell? ⟨p, 0, none⟩ = some x ∧ w.cell? ⟨p, 1, none⟩ = some y ∧ w.cell? ⟨p, 2, none⟩ = some z := h

theorem Box3.below {p : Nat} {x y z : Value} {w w' : World} (h : Box3 p x y z w) (hb : Below w.heap.size w w') : Box3 p x y z w' := by
  obtain ⟨h0, h1, h2⟩ := h
  have k0 := World.block_lt_of_cell? w _ h0
  exact ⟨(hb.cell (p := ⟨p, 0, none⟩) k0).trans h0, (hb.cell (p := ⟨p, 1, none⟩) k0).trans h1, (hb.cell (p := ⟨p, 2, none⟩) k0).trans h2⟩

/-- The rows that a join leaves, as far as the k-th. -/
def RM.restTo (M : RM SV) (i j k : Nat) : List (List Nat) := (M.rows.take k).filter fun xs => !decide (i ∈ xs) && !decide (j ∈ xs)

theorem rest_succ {M : RM SV} {i j k : Nat} (hk : k < M.rows.length) : M.restTo i j (k + 1) = M.restTo i j k ++ if i ∉ M.rows[k] ∧ j ∉ M.rows[k] then [M.rows[k]] else [] := by
  unfold RM.restTo
  rw [List.take_succ_eq_append_getElem hk, List.filter_append]
  congr 1
  by_cases h : i ∉ M.rows[k] ∧ j ∉ M.rows[k]
  · rw [if_pos h, List.filter_cons_of_pos (by simp [h.1, h.2])]; rfl
  · rw [if_neg h, List.filter_cons_of_neg]
    · rfl
    · simp only [Bool.and_eq_true, Bool.not_eq_true', decide_eq_false_iff_not]
      exact h

set_option maxRecDepth 100000 in
set_option maxHeartbeats 8000000 in
theorem docJoin (w : World) (B : Nat) (v : Value) (M : RM SV) (h : DocAt w B v M) (hB : B ≤ w.heap.size) (hok : M.Ok) (i j : Nat) (hi : 1 ≤ i ∧ i ≤ M.own.length) (hj : 1 ≤ j ∧ j ≤ M.own.length) (hne : M.rowOf i ≠ M.rowOf j) (hsm : M.own.length ≤ 65536) :
    Calls Try.prog 63 #[v, .int .i64 (i : Int), .int .i64 (j : Int)] w fun e w' => ∃ v', e = .returned v' ∧ DocAt w' B v' (M.join i j) ∧ Below w.heap.size w w' := by
  have h0 := h
  obtain ⟨rA, rn, rc, nA, nn, nc, mA, mn, mc, xs, rfl, h⟩ := h
  obtain ⟨e1, e2, e3⟩ := h.lens
  have hfew := rows_few hok
  obtain ⟨hix, hrx⟩ := ix_at hok hi
  obtain ⟨hiy, hry⟩ := ix_at hok hj
  obtain ⟨x, hx, hxl, hxo⟩ := h.each.at_ hix
  obtain ⟨y, hy, hyl, hyo⟩ := h.each.at_ hiy
  obtain ⟨rb, ro, rfl, hcx⟩ := cellR h.rows hx
  obtain ⟨rb2, ro2, er, hcy⟩ := cellR h.rows hy
  injection er with er
  injection er with er1 er2
  subst er1 er2
  rw [hrx] at hxl hxo
  rw [hry] at hyl hyo
  obtain ⟨kx, hkx⟩ : ∃ z, z = M.rowIx i := ⟨_, rfl⟩
  obtain ⟨ky, hky⟩ : ∃ z, z = M.rowIx j := ⟨_, rfl⟩
  rw [← hkx] at hix hcx
  rw [← hky] at hiy hcy
  obtain ⟨x1, x2, x3⟩ := x
  obtain ⟨y1, y2, y3⟩ := y
  dsimp only at hxl hyl hcx hcy
  obtain ⟨p0, hp0⟩ : ∃ p, p = w.heap.size := ⟨_, rfl⟩
  obtain ⟨p1, hp1⟩ : ∃ p, p = p0 + 1 := ⟨_, rfl⟩
  obtain ⟨W, hW⟩ : ∃ W, W = (w.alloc (.cells #[.slice (some ⟨rb, ro, none⟩) rn rc, .slice nA nn nc, .slice mA mn mc] 32)).alloc z3 := ⟨_, rfl⟩
  have hb : Below w.heap.size w W := by rw [hW]; exact ((Below.refl _ w).alloc (Nat.le_refl _) _).alloc (by simp) _
  have hk0 : Blk W p0 32 #[.slice (some ⟨rb, ro, none⟩) rn rc, .slice nA nn nc, .slice mA mn mc] := by rw [hW, hp0]; exact (Blk.new w _ _).alloc _
  have hk1 : Blk W p1 32 nil3 := by rw [hW, hp1, hp0]; have := Blk.new (w.alloc (.cells #[.slice (some ⟨rb, ro, none⟩) rn rc, .slice nA nn nc, .slice mA mn mc] 32)) 32 nil3; simpa [z3, nil3] using this
  have hS : JS w W p0 p1 #[.slice (some ⟨rb, ro, none⟩) rn rc, .slice nA nn nc, .slice mA mn mc] (.slice none 0 0) [] := ⟨hb, hk0, hk1, OK.nil _ _, by omega, by omega, by omega⟩
  have HS0 := Lib.hid hS
  have HDOC := Lib.hid (h0.below hb)
  have H := Lib.hid h
  have HBB := Lib.hid hB
  have HE := Lib.hid (And.intro e1 (And.intro e2 e3))
  have HOK := Lib.hid hok
  have HI := Lib.hid hi
  have HJ := Lib.hid hj
  have HNE := Lib.hid hne
  have HSM := Lib.hid hsm
  have HKX := Lib.hid hkx
  have HKY := Lib.hid hky
  have HCX := Lib.hid hcx
  have HCY := Lib.hid hcy
  have HXO := Lib.hid hxo
  have HYO := Lib.hid hyo
  have hkr : kx < rn := by omega
  have hkr2 : (kx : Int) < (rn : Int) := by omega
  have hky1 : ky < rn := by omega
  have hky2 : (ky : Int) < (rn : Int) := by omega
  have hrn : rn ≤ 65536 := by omega
  have hx2 : x2 ≤ 65536 := by rw [hxl]; exact Nat.le_trans (row_len hok (row_mem hok hi).1) hsm
  have hy2 : y2 ≤ 65536 := by rw [hyl]; exact Nat.le_trans (row_len hok (row_mem hok hj).1) hsm
  have HXL := Lib.hid hxl
  have HYL := Lib.hid hyl
  have HP1 := Lib.hid hp1
  have HP0 := Lib.hid hp0
  have HW := Lib.hid hW
  have c0 := hk0.cell 0
  have c1 := hk0.cell 1
  have c2 := hk0.cell 2
  clear hS h h0 hB e1 e2 e3 hsm hok hp1 hp0 hW hb hk0 hk1 hi hj hne hkx hky hcx hcy hxo hyo hx hy hxl hyl hrx hry hix hiy hfew
  go_enter Try.func63, Try.ntmps63
  go_upto_region 1 with fail
  have hwo : (w.alloc (.cells #[.slice (some ⟨rb, ro, none⟩) rn rc, .slice nA nn nc, .slice mA mn mc] 32)).alloc (.cells #[.slice none 0 0, .slice none 0 0, .slice none 0 0] 32) = W := HW.out.symm
  rw [hwo, ← HP0.out, ← HP1.out]
  clear hwo
  go_wp2_with fail
  have HD : Hid (Box3 p0 (.slice (some ⟨rb, ro, none⟩) rn rc) (.slice nA nn nc) (.slice mA mn mc) W.drew) := Lib.hid ⟨c0, c1, c2⟩
  have HBD : Hid (Below W.heap.size W W.drew) := Lib.hid ((Below.refl _ _).drew)
  have tok : True := trivial
  go_region_held3 (fun w' => w'.cell? ⟨p0, 0, none⟩ = some (.slice (some ⟨rb, ro, none⟩) rn rc) ∧ w'.cell? ⟨p0, 1, none⟩ = some (.slice nA nn nc) ∧ w'.cell? ⟨p0, 2, none⟩ = some (.slice mA mn mc)) (first | with_reducible exact HD.out.all | with_reducible exact HC.out.all | with_reducible exact HC2.out.all | fail)
    (first
      | (go_at_call 62; have _t := tok; refine (docRow _ B _ M (HDOC.out.below HBD.out) HOK.out i HI.out HSM.out).mono ?_; rw [← HKX.out]; rintro e w4 ⟨rfl, hb4⟩; have HC : Hid (Box3 p0 (.slice (some ⟨rb, ro, none⟩) rn rc) (.slice nA nn nc) (.slice mA mn mc) w4) := Lib.hid (HD.out.below hb4); have HB4 : Hid (Below W.heap.size W w4) := Lib.hid ⟨hb4.os, hb4.tape, hb4.output, hb4.size, hb4.block⟩; clear hb4 tok _t)
      | (go_at_call 62; refine (docRow _ B _ M (HDOC.out.below HB4.out) HOK.out j HJ.out HSM.out).mono ?_; rw [← HKY.out]; rintro e w5 ⟨rfl, hb5⟩; have HC2 : Hid (Box3 p0 (.slice (some ⟨rb, ro, none⟩) rn rc) (.slice nA nn nc) (.slice mA mn mc) w5) := Lib.hid (HC.out.below hb5); have HB5 : Hid (Below W.heap.size W w5) := Lib.hid (HB4.out.trans (hb5.mono HB4.out.size)); clear hb5))
  have HS5 := Lib.hid (HS0.out.next HB5.out)
  clear c0 c1 c2 HC HC2 HD HBD HB4 HS0
  go_upto_region 3 with fail
  have HS6 : Hid (JS w (w5.alloc (.cells #[] 22)) p0 p1 #[.slice (some ⟨rb, ro, none⟩) rn rc, .slice nA nn nc, .slice mA mn mc] (.slice (some ⟨w5.heap.size, 0, none⟩) 0 0) []) := Lib.hid (by
    have h1 := HS5.out.alloc (.cells #[] 22)
    exact ⟨h1.below, h1.box0, h1.box1, ok_none.base HS5.out.size, h1.ge0, h1.ge1, h1.ne⟩)
  go_wp2_with fail
  go_loopw [9, 10] (fun o i0 wr => ∃ (k : Nat) (vO : Value) (ys : List (Option Addr × Nat × Nat)), k ≤ rn ∧ i0 = .int .i64 k ∧ vO = o ∧ ys.length ≤ k ∧ Hid (RowsOf w B ys (M.restTo i j k)) ∧ Hid (JS w wr p0 p1 #[.slice (some ⟨rb, ro, none⟩) rn rc, .slice nA nn nc, .slice mA mn mc] vO ys)) (fun _ i0 _ => rn - (intOf i0).toNat)
  case atStart => exact ⟨0, _, [], Nat.zero_le _, rfl, rfl, Nat.le_refl _, Lib.hid (RowsOf.nil _ _), HS6⟩
  case round =>
    obtain ⟨k, vO, ys, hk, rfl, rfl, hyl, HRO, HS⟩ := hrel
    have c0 := HS.out.box0.cell 0
    by_cases hkn : k < rn
    · have hkm : k < M.rows.length := by have := HE.out.1; omega
      have HR1 := Lib.hid (rest_succ (M := M) (i := i) (j := j) hkm)
      have HIX := Lib.hid (ix_iff HOK.out HI.out hkm)
      have HIY := Lib.hid (ix_iff HOK.out HJ.out hkm)
      rw [← HKX.out] at HIX
      rw [← HKY.out] at HIY
      by_cases hkx : k = kx
      · have hmem : i ∈ M.rows[k] := HIX.out.1 hkx
        rw [if_neg (fun e => e.1 hmem), List.append_nil] at HR1
        subst hkx
        clear hmem
        go_wp2_with fail
        go_roundw
        case rel => exact ⟨k + 1, _, ys, by omega, by go_num, rfl, by omega, by rw [HR1.out]; exact HRO, HS⟩
        case measure => simp [intOf]; omega
      · have d1 : ((k : Int) != (kx : Int)) = true := by simp; omega
        have d2 : (k != kx) = true := by simp; omega
        have d3 : decide (k = kx) = false := by simp; omega
        have d4 : (k == kx) = false := by simp; omega
        by_cases hkyy : k = ky
        · have hmem : j ∈ M.rows[k] := HIY.out.1 hkyy
          rw [if_neg (fun e => e.2 hmem), List.append_nil] at HR1
          subst hkyy
          clear hmem
          go_wp2_with fail
          go_roundw
          case rel => exact ⟨k + 1, _, ys, by omega, by go_num, rfl, by omega, by rw [HR1.out]; exact HRO, HS⟩
          case measure => simp [intOf]; omega
        · have e1 : ((k : Int) != (ky : Int)) = true := by simp; omega
          have e2 : (k != ky) = true := by simp; omega
          have e3 : decide (k = ky) = false := by simp; omega
          have e4 : (k == ky) = false := by simp; omega
          rw [if_pos ⟨fun h => hkx (HIX.out.2 h), fun h => hkyy (HIY.out.2 h)⟩] at HR1
          obtain ⟨u, hu, hul, huo⟩ := H.out.each.at_ hkm
          obtain ⟨rb3, ro3, er, hcu⟩ := cellR H.out.rows hu
          injection er with er
          injection er with er1 er2
          subst er1 er2
          have hcu2 := HS.out.old hcu
          have HUO := Lib.hid huo
          obtain ⟨u1, u2, u3⟩ := u
          dsimp only at hcu2
          clear hu hul huo hcu
          go_wp2_with (at_builtin; go_loud (refine wpList_appE etRows encR3_len encR3_one (y := (u1, u2, u3)) rfl (.tmp 35) (.tmp 41) rfl rfl (HS.out.alloc _).out wr.heap.size rfl (oneR wr (u1, u2, u3) _) (by omega) (HS.out.alloc _).size ?_; intro v6 w6 k1 k2 k3; have HS7 := Lib.hid ((HS.out.alloc _).push k1 k2); clear k1 k2 k3))
          go_roundw
          case rel => exact ⟨k + 1, _, ys ++ [(u1, u2, u3)], by omega, by go_num, rfl, by simp; omega, by rw [HR1.out]; exact Lib.hid (HRO.out.snoc HUO.out), HS7⟩
          case measure => simp [intOf]; omega
    · obtain rfl : k = rn := by omega
      have hrest : M.restTo i j k = M.rows.filter (fun xs => !decide (i ∈ xs) && !decide (j ∈ xs)) := by unfold RM.restTo; rw [List.take_of_length_le (by have := HE.out.1; omega)]
      rw [hrest] at HRO
      clear hrest
      have cx := HS.out.old HCX.out
      have HXR := Lib.hid ((HXO.out.below HS.out.below).rk encI_len (Nat.le_refl _))
      unfold valR at HXR
      dsimp only at HXR
      go_wp2_with fail
      refine (CopyInts_any _ _ wr wr.heap.size HXR.out (Nat.le_refl _) (by rw [List.length_map, ← HXL.out]; omega)).mono ?_
      rintro e w8 ⟨v8, rfl, hl8, t8⟩
      have HS8 := Lib.hid (HS.out.next t8)
      have HO8 := Lib.hid (hl8.base HS.out.size)
      clear hl8 t8 c0 cx
      have HYQ : Hid ((M.rowOf j).map natI = (M.rowOf j).map natI) := Lib.hid rfl
      go_wp2_with fail
      go_loopw [11, 12] (fun o i0 wq => ∃ (q : Nat) (v1 : Value), q ≤ y2 ∧ i0 = .int .i64 q ∧ v1 = o ∧ Hid (OK encI 1 3 wq w.heap.size v1 ((M.rowOf i).map natI ++ ((M.rowOf j).map natI).take q)) ∧ Hid (JS w wq p0 p1 #[.slice (some ⟨rb, ro, none⟩) k rc, .slice nA nn nc, .slice mA mn mc] vO ys)) (fun _ i0 _ => y2 - (intOf i0).toNat)
      case atStart => exact ⟨0, _, Nat.zero_le _, rfl, rfl, by rw [List.take_zero, List.append_nil]; exact HO8, HS8⟩
      case round =>
        obtain ⟨q, v1, hq, rfl, rfl, HO, HS⟩ := hrel
        have c0 := HS.out.box0.cell 0
        have cy := HS.out.old HCY.out
        by_cases hqn : q < y2
        · have hqr : q < (M.rowOf j).length := by have := HYL.out; omega
          obtain ⟨by_, oy, ey, hxq⟩ := OK.cellRow (A := y1) (n := y2) (c := y3) HYO.out (q := q) (by rw [List.length_map]; exact hqr)
          subst ey
          obtain ⟨zz, hz⟩ : ∃ zz, zz = (M.rowOf j)[q] := ⟨_, rfl⟩
          rw [List.getElem_map, ← hz] at hxq
          have ye := HS.out.old hxq
          unfold natI at ye
          have HT1 : Hid (((M.rowOf j).map natI).take (q + 1) = ((M.rowOf j).map natI).take q ++ [(zz : Int)]) := Lib.hid (by rw [List.take_succ_eq_append_getElem (by rw [List.length_map]; exact hqr), List.getElem_map, ← hz]; rfl)
          have HL1 : Hid (((M.rowOf i).map natI ++ ((M.rowOf j).map natI).take q).length + 1 ≤ 1000000) := Lib.hid (by rw [List.length_append, List.length_map, List.length_take, ← HXL.out]; omega)
          clear hxq hz
          go_wp2_with (at_builtin; go_loud (refine wpList_appE etInts encI_len encI_one (y := (zz : Int)) rfl (.tmp 59) (.tmp 68) rfl rfl (HO.out.alloc _) wr.heap.size rfl (oneI wr (zz : Int) _) HL1.out (HS.out.alloc _).size ?_; intro v9 w9 k1 k2 k3; have HS9 := Lib.hid ((HS.out.alloc _).aside (HO.out.alloc _) k2); have HO9 := Lib.hid k1; clear k1 k2 k3))
          go_roundw
          case rel => exact ⟨q + 1, _, by omega, by go_num, rfl, by rw [HT1.out, ← List.append_assoc]; exact HO9, HS9⟩
          case measure => simp [intOf]; omega
        · obtain rfl : q = y2 := by omega
          have hfull : ((M.rowOf j).map natI).take q = (M.rowOf j).map natI := List.take_of_length_le (by rw [List.length_map, ← HYL.out]; omega)
          rw [hfull, ← List.map_append] at HO
          clear hfull
          obtain ⟨A1, cc1, hv1, -, -, -, -⟩ := (HO.out.rk encI_len (Nat.le_refl _)).open_
          obtain ⟨n1, hn1⟩ : ∃ z, z = ((M.rowOf i ++ M.rowOf j).map natI).length := ⟨_, rfl⟩
          rw [← hn1] at hv1
          subst hv1
          have c1 := HS.out.box0.cell 1
          have c2 := HS.out.box0.cell 2
          clear hn1
          have HLY : Hid (ys.length + 1 ≤ 1000000) := Lib.hid (by omega)
          have HSA := Lib.hid (HS.out.alloc (Obj.cells #[.slice A1 n1 cc1] 22))
          have HCA := Lib.hid (oneR wr (A1, n1, cc1) 22)
          dsimp only at HCA
          go_upto_region 14 with ((at_builtin; go_loud (refine wpList_appE (v := vO) etRows encR3_len encR3_one (y := (A1, n1, cc1)) rfl (.tmp 70) (.tmp 72) rfl rfl HSA.out.out wr.heap.size rfl HCA.out HLY.out HSA.out.size ?_; intro v10 w10 k1 k2 k3; obtain ⟨A10, cc10, hv10, -, -, -, -⟩ := (k1.rk encR3_len (Nat.le_refl _)).open_; obtain ⟨n10, hn10⟩ : ∃ z, z = (ys ++ [(A1, n1, cc1)]).length := ⟨_, rfl⟩; rw [← hn10] at hv10; subst hv10; have HS10 := Lib.hid (HSA.out.push k1 k2); have HO10 := Lib.hid ((HO.out.alloc (Obj.cells #[.slice A1 n1 cc1] 22)).kept k2 ((HO.out.alloc (Obj.cells #[.slice A1 n1 cc1] 22)).apart HSA.out.out (by decide))); clear k1 k2 k3 hn10)))
          clear c0 cy c1 c2
          have f0 := HS10.out.box0.frozen 0
          have g0 := HS10.out.box0.cell 0
          have HS11 := Lib.hid (HS10.out.set_ (.slice A10 n10 cc10))
          have HO11 := Lib.hid (HO10.out.setBlk HS10.out.box0 (by decide) 0 (.slice A10 n10 cc10))
          go_upto_region 15 with fail
          clear f0 g0
          obtain ⟨w11, hw11⟩ : ∃ x, x = w10.setCell ⟨p0, 0, none⟩ (.slice A10 n10 cc10) := ⟨_, rfl⟩
          rw [← hw11] at HS11 HO11 ⊢
          clear hw11
          have HFIN := Lib.hid (HS11.out.fin (.slice A10 n10 cc10) (.slice nA nn nc) (.slice mA mn mc))
          have q0 := HS11.out.box0.cell 0
          have q1 := HS11.out.box0.cell 1
          have q2 := HS11.out.box0.cell 2
          have s0 := HS11.out.box1.cell 0
          have s1 := HS11.out.box1.cell 1
          have s2 := HS11.out.box1.cell 2
          have i0 := HS11.out.box1.frozen 0
          have i1 := HS11.out.box1.frozen 1
          have i2 := HS11.out.box1.frozen 2
          unfold nil3 at s0 s1 s2
          go_wp2_with fail
          refine ret_cell1 (p := 6) (v := .agg #[.slice A10 n10 cc10, .slice nA nn nc, .slice mA mn mc]) rfl rfl (by go_simp) rfl ⟨_, rfl, ?_, HFIN.out.1⟩
          refine ⟨A10, n10, cc10, nA, nn, nc, mA, mn, mc, ys ++ [(A1, n1, cc1)], rfl, ⟨HFIN.out.2.1.base HBB.out, ?_, H.out.ns.below HFIN.out.1, H.out.ms.below HFIN.out.1⟩⟩
          exact (HRO.out.below HFIN.out.1).snoc (HFIN.out.2.2 _ _ _ (HO11.out.base HBB.out))

end Go.Proofs.Ytbbfnbnjaiimgaa

/-
  The document's Cut.
-/
namespace Go.Proofs.Ytbbfnbnjaiimgaa
open Go.RowKit
set_option linter.unusedVariables false

theorem RowsOf.map {w w' : World} {B : Nat} {xs : List (Option Addr × Nat × Nat)} {R : List (List Nat)} (h : RowsOf w B xs R) (hf : ∀ (v : Value) (zs : List Int), OK encI 1 3 w B v zs → OK encI 1 3 w' B v zs) : RowsOf w' B xs R := ⟨h.1, fun i x r h1 h2 => hf _ _ (h.2 i x r h1 h2)⟩

theorem RowsOf.kept {w w' : World} {B B' : Nat} {xs ys : List (Option Addr × Nat × Nat)} {R : List (List Nat)} {vO : Value} (h : RowsOf w B xs R) (ho : OK encR3 1 22 w B' vO ys) (k2 : w.grownBy w' vO.ownBlock) : RowsOf w' B xs R := h.map fun v zs hz => hz.kept k2 (hz.apart ho (by decide))

def RM.cutTo (M : RM SV) (a k : Nat) : List (List Nat) := (M.rows.take k).flatMap (cutRow a)

theorem cutTo_succ {M : RM SV} {a k : Nat} (hk : k < M.rows.length) : M.cutTo a (k + 1) = M.cutTo a k ++ cutRow a M.rows[k] := by
  unfold RM.cutTo
  rw [List.take_succ_eq_append_getElem hk, List.flatMap_append]
  simp

theorem cutRow_not {a : Nat} {xs : List Nat} (h : a ∉ xs) : cutRow a xs = [xs] := by unfold cutRow; rw [if_neg h]

theorem cut_zero {M : RM SV} (h : M.Ok) {a : Nat} (ha : 1 ≤ a ∧ a ≤ M.own.length) (h0 : (M.rowOf a).idxOf a = 0) : M.cut a = M := by
  have : ∀ L : List (List Nat), (∀ xs ∈ L, xs ∈ M.rows) → L.flatMap (cutRow a) = L := by
    intro L
    induction L with
    | nil => intro _; rfl
    | cons x r ih =>
      intro hx
      rw [List.flatMap_cons, ih (fun xs hxs => hx xs (by simp [hxs]))]
      have hxm := hx x (by simp)
      have : cutRow a x = [x] := by
        by_cases hax : a ∈ x
        · unfold cutRow
          rw [if_pos hax]
          have e := row_unique h hxm hax
          rw [← e] at h0
          rw [if_pos h0]
        · exact cutRow_not hax
      rw [this]
      rfl
  unfold RM.cut
  rw [this M.rows (fun _ h => h)]

set_option maxRecDepth 100000 in
set_option maxHeartbeats 8000000 in
theorem docCut (w : World) (B : Nat) (v : Value) (M : RM SV) (h : DocAt w B v M) (hB : B ≤ w.heap.size) (hok : M.Ok) (a : Nat) (ha : 1 ≤ a ∧ a ≤ M.own.length) (hsm : M.own.length ≤ 65536) :
    Calls Try.prog 64 #[v, .int .i64 (a : Int)] w fun e w' => ∃ v', e = .returned v' ∧ DocAt w' B v' (M.cut a) ∧ Below w.heap.size w w' := by
  have h0 := h
  obtain ⟨rA, rn, rc, nA, nn, nc, mA, mn, mc, xs, rfl, h⟩ := h
  obtain ⟨e1, e2, e3⟩ := h.lens
  have hfew := rows_few hok
  obtain ⟨hix, hrx⟩ := ix_at hok ha
  obtain ⟨x, hx, hxl, hxo⟩ := h.each.at_ hix
  obtain ⟨rb, ro, rfl, hcx⟩ := cellR h.rows hx
  rw [hrx] at hxl hxo
  obtain ⟨kx, hkx⟩ : ∃ z, z = M.rowIx a := ⟨_, rfl⟩
  rw [← hkx] at hix hcx
  obtain ⟨x1, x2, x3⟩ := x
  dsimp only at hxl hcx
  obtain ⟨pl, hpl⟩ : ∃ z, z = (M.rowOf a).idxOf a := ⟨_, rfl⟩
  have hplt : pl < x2 := by rw [hxl, hpl]; exact List.idxOf_lt_length_iff.2 (row_mem hok ha).2
  obtain ⟨bx, ox, hx1, -⟩ := OK.cellRow (A := x1) (n := x2) (c := x3) hxo (q := 0) (by rw [List.length_map, ← hxl]; omega)
  subst hx1
  have hx3 : x2 ≤ x3 := by
    obtain ⟨A', c', e, hc, _⟩ := (hxo.rk encI_len (Nat.le_refl _)).open_
    simp only [valR, Value.slice.injEq] at e
    obtain ⟨e4, e5, e6⟩ := e
    rw [List.length_map, ← hxl] at hc
    rw [e6]
    exact hc
  obtain ⟨p0, hp0⟩ : ∃ p, p = w.heap.size := ⟨_, rfl⟩
  obtain ⟨p1, hp1⟩ : ∃ p, p = p0 + 1 := ⟨_, rfl⟩
  obtain ⟨W, hW⟩ : ∃ W, W = (w.alloc (.cells #[.slice (some ⟨rb, ro, none⟩) rn rc, .slice nA nn nc, .slice mA mn mc] 32)).alloc z3 := ⟨_, rfl⟩
  have hb : Below w.heap.size w W := by rw [hW]; exact ((Below.refl _ w).alloc (Nat.le_refl _) _).alloc (by simp) _
  have hk0 : Blk W p0 32 #[.slice (some ⟨rb, ro, none⟩) rn rc, .slice nA nn nc, .slice mA mn mc] := by rw [hW, hp0]; exact (Blk.new w _ _).alloc _
  have hk1 : Blk W p1 32 nil3 := by rw [hW, hp1, hp0]; have := Blk.new (w.alloc (.cells #[.slice (some ⟨rb, ro, none⟩) rn rc, .slice nA nn nc, .slice mA mn mc] 32)) 32 nil3; simpa [z3, nil3] using this
  have hS : JS w W p0 p1 #[.slice (some ⟨rb, ro, none⟩) rn rc, .slice nA nn nc, .slice mA mn mc] (.slice none 0 0) [] := ⟨hb, hk0, hk1, OK.nil _ _, by omega, by omega, by omega⟩
  have HS0 := Lib.hid hS
  have HDOC := Lib.hid (h0.below hb)
  have H := Lib.hid h
  have HBB := Lib.hid hB
  have HE := Lib.hid (And.intro e1 (And.intro e2 e3))
  have HOK := Lib.hid hok
  have HI := Lib.hid ha
  have HSM := Lib.hid hsm
  have HKX := Lib.hid hkx
  have HCX := Lib.hid hcx
  have HXO := Lib.hid hxo
  have hkr : kx < rn := by omega
  have hkr2 : (kx : Int) < (rn : Int) := by omega
  have hrn : rn ≤ 65536 := by omega
  have hx2 : x2 ≤ 65536 := by rw [hxl]; exact Nat.le_trans (row_len hok (row_mem hok ha).1) hsm
  have HXL := Lib.hid hxl
  have HPL := Lib.hid hpl
  have HRX := Lib.hid hrx
  have HP1 := Lib.hid hp1
  have HP0 := Lib.hid hp0
  have HW := Lib.hid hW
  have c0 := hk0.cell 0
  have c1 := hk0.cell 1
  have c2 := hk0.cell 2
  clear hS h h0 hB e1 e2 e3 hsm hok hp1 hp0 hW hb hk0 hk1 ha hkx hcx hxo hx hxl hrx hix hfew hpl
  go_enter Try.func64, Try.ntmps64
  go_upto_region 1 with fail
  have hwo : (w.alloc (.cells #[.slice (some ⟨rb, ro, none⟩) rn rc, .slice nA nn nc, .slice mA mn mc] 32)).alloc (.cells #[.slice none 0 0, .slice none 0 0, .slice none 0 0] 32) = W := HW.out.symm
  rw [hwo, ← HP0.out, ← HP1.out]
  clear hwo
  go_wp2_with fail
  have HD : Hid (Box3 p0 (.slice (some ⟨rb, ro, none⟩) rn rc) (.slice nA nn nc) (.slice mA mn mc) W.drew) := Lib.hid ⟨c0, c1, c2⟩
  have HBD : Hid (Below W.heap.size W W.drew) := Lib.hid ((Below.refl _ _).drew)
  go_region_held3 (fun w' => w'.cell? ⟨p0, 0, none⟩ = some (.slice (some ⟨rb, ro, none⟩) rn rc) ∧ w'.cell? ⟨p0, 1, none⟩ = some (.slice nA nn nc) ∧ w'.cell? ⟨p0, 2, none⟩ = some (.slice mA mn mc)) (first | with_reducible exact HD.out.all | with_reducible exact HC.out.all | with_reducible exact HC2.out.all | fail)
    (first
      | (go_at_call 62; refine (docRow _ B _ M (HDOC.out.below HBD.out) HOK.out a HI.out HSM.out).mono ?_; rw [← HKX.out]; rintro e w4 ⟨rfl, hb4⟩; have HC : Hid (Box3 p0 (.slice (some ⟨rb, ro, none⟩) rn rc) (.slice nA nn nc) (.slice mA mn mc) w4) := Lib.hid (HD.out.below hb4); have HB4 : Hid (Below W.heap.size W w4) := Lib.hid ⟨hb4.os, hb4.tape, hb4.output, hb4.size, hb4.block⟩; clear hb4)
      | (go_at_call 67; refine (docIndex _ B _ M (HDOC.out.below HB4.out) HOK.out a HI.out HSM.out).mono ?_; rw [← HPL.out]; rintro e w5 ⟨rfl, hb5⟩; have HC2 : Hid (Box3 p0 (.slice (some ⟨rb, ro, none⟩) rn rc) (.slice nA nn nc) (.slice mA mn mc) w5) := Lib.hid (HC.out.below hb5); have HB5 : Hid (Below W.heap.size W w5) := Lib.hid (HB4.out.trans (hb5.mono HB4.out.size)); clear hb5))
  have HS5 := Lib.hid (HS0.out.next HB5.out)
  clear c0 c1 c2 HC HC2 HD HBD HB4 HS0
  by_cases hz : pl = 0
  · have HCZ := Lib.hid (cut_zero HOK.out HI.out (by rw [← HPL.out]; exact hz))
    subst hz
    have HFIN := Lib.hid (HS5.out.fin (.slice (some ⟨rb, ro, none⟩) rn rc) (.slice nA nn nc) (.slice mA mn mc))
    have q0 := HS5.out.box0.cell 0
    have q1 := HS5.out.box0.cell 1
    have q2 := HS5.out.box0.cell 2
    have s0 := HS5.out.box1.cell 0
    have s1 := HS5.out.box1.cell 1
    have s2 := HS5.out.box1.cell 2
    have i0 := HS5.out.box1.frozen 0
    have i1 := HS5.out.box1.frozen 1
    have i2 := HS5.out.box1.frozen 2
    unfold nil3 at s0 s1 s2
    go_wp2_with fail
    refine ret_cell1 (p := 4) (v := .agg #[.slice (some ⟨rb, ro, none⟩) rn rc, .slice nA nn nc, .slice mA mn mc]) rfl rfl (by go_simp) rfl ⟨_, rfl, ?_, HFIN.out.1⟩
    rw [HCZ.out]
    exact ⟨some ⟨rb, ro, none⟩, rn, rc, nA, nn, nc, mA, mn, mc, xs, rfl, H.out.below HFIN.out.1⟩
  · have z1 : ((pl : Int) == 0) = false := by simp; omega
    have z2 : decide ((pl : Int) = 0) = false := by simp; omega
    have z4 : (pl == 0) = false := by simp; omega
    go_upto_region 5 with fail
    clear z1 z2 z4
    have HS6 : Hid (JS w (w5.alloc (.cells #[] 22)) p0 p1 #[.slice (some ⟨rb, ro, none⟩) rn rc, .slice nA nn nc, .slice mA mn mc] (.slice (some ⟨w5.heap.size, 0, none⟩) 0 0) []) := Lib.hid (by
      have h1 := HS5.out.alloc (.cells #[] 22)
      exact ⟨h1.below, h1.box0, h1.box1, ok_none.base HS5.out.size, h1.ge0, h1.ge1, h1.ne⟩)
    go_wp2_with fail
    go_loopw [7, 8] (fun o i0 wr => ∃ (k : Nat) (vO : Value) (ys : List (Option Addr × Nat × Nat)), k ≤ rn ∧ i0 = .int .i64 k ∧ vO = o ∧ ys.length ≤ k + 1 ∧ Hid (RowsOf wr B ys (M.cutTo a k)) ∧ Hid (JS w wr p0 p1 #[.slice (some ⟨rb, ro, none⟩) rn rc, .slice nA nn nc, .slice mA mn mc] vO ys) ∧ Hid (ys.length ≤ k ∨ kx < k)) (fun _ i0 _ => rn - (intOf i0).toNat)
    case atStart => exact ⟨0, _, [], Nat.zero_le _, rfl, rfl, by simp, Lib.hid (RowsOf.nil _ _), HS6, Lib.hid (.inl (Nat.le_refl _))⟩
    case round =>
      obtain ⟨k, vO, ys, hk, rfl, rfl, hyl, HRO, HS, HLK⟩ := hrel
      have c0 := HS.out.box0.cell 0
      by_cases hkn : k < rn
      · have hkm : k < M.rows.length := by have := HE.out.1; omega
        have HR1 := Lib.hid (cutTo_succ (M := M) (a := a) hkm)
        have HIX := Lib.hid (ix_iff HOK.out HI.out hkm)
        rw [← HKX.out] at HIX
        by_cases hkx : k = kx
        · have hmem : a ∈ M.rows[k] := HIX.out.1 hkx
          have hrow : M.rows[k] = M.rowOf a := row_unique HOK.out (List.getElem_mem hkm) hmem
          have hcut : cutRow a M.rows[k] = [(M.rowOf a).take pl, (M.rowOf a).drop pl] := by
            unfold cutRow
            rw [if_pos hmem, hrow, ← HPL.out, if_neg hz]
          rw [hcut] at HR1
          clear hcut hrow hmem HIX
          subst hkx
          have hyl2 : ys.length ≤ k := by have := HLK.out; omega
          have cx := HS.out.old HCX.out
          obtain ⟨ql, hql⟩ : ∃ z, z = x2 - pl := ⟨_, rfl⟩
          have HXR := Lib.hid ((HXO.out.below HS.out.below).rk encI_len (Nat.le_refl _))
          unfold valR at HXR
          dsimp only at HXR
          have HQL := Lib.hid hql
          have g1 : (pl : Int) ≤ (x3 : Int) := by omega
          have g2 : (pl : Int) ≤ (x2 : Int) := by omega
          have g3 : pl ≤ x3 := by omega
          clear hql
          go_wp2_with fail
          refine (CopyInts_any _ (((M.rowOf a).map natI).take pl) wr wr.heap.size (HXR.out.cutTo pl (by omega)) (Nat.le_refl _) (by rw [List.length_take]; omega)).mono ?_
          rintro e w8 ⟨v8, rfl, hl8, t8⟩
          obtain ⟨A8, c8, hv8, -, -, -, -⟩ := (hl8.rk encI_len (Nat.le_refl _)).open_
          have hlen8 : (((M.rowOf a).map natI).take pl).length = pl := by rw [List.length_take, List.length_map, ← HXL.out]; omega
          rw [hlen8] at hv8
          subst hv8
          have HS8 := Lib.hid (HS.out.next t8)
          have HO8 := Lib.hid (hl8.base (Nat.le_trans HBB.out HS.out.size))
          have HRO8 := Lib.hid (HRO.out.below t8)
          have HXR8 := Lib.hid ((HXR.out.below t8).more t8.size)
          have HT8 := Lib.hid t8.size
          clear hl8 t8 c0 cx hlen8 g1 g2 g3
          have HLY : Hid (ys.length + 1 ≤ 1000000) := Lib.hid (by omega)
          have HSA := Lib.hid (HS8.out.alloc (Obj.cells #[.slice A8 pl c8] 22))
          have HCA := Lib.hid (oneR w8 (A8, pl, c8) 22)
          dsimp only at HCA
          have HROA := Lib.hid (HRO8.out.below ((Below.refl w8.heap.size w8).alloc (Nat.le_refl _) (Obj.cells #[.slice A8 pl c8] 22)))
          have HOA := Lib.hid (HO8.out.alloc (Obj.cells #[.slice A8 pl c8] 22))
          have HXA := Lib.hid (HXR8.out)
          go_upto_region 10 with ((at_builtin; go_loud (refine wpList_appE (v := vO) etRows encR3_len encR3_one (y := (A8, pl, c8)) rfl (.tmp 29) (.tmp 38) rfl rfl HSA.out.out w8.heap.size rfl HCA.out HLY.out HSA.out.size ?_; intro v9 w9 k1 k2 k3; have HS9 := Lib.hid (HSA.out.push k1 k2); have HRO9 := Lib.hid ((HROA.out.kept HSA.out.out k2).snoc (x := (A8, pl, c8)) (r := (M.rowOf a).take pl) (by have := HOA.out.kept k2 (HOA.out.apart HSA.out.out (by decide)); rw [← List.map_take] at this; exact this)); clear k1 k2 k3)))
          clear HSA HCA HROA HOA HXA HLY HS8 HO8 HRO8 HXR8
          have c0 := HS9.out.box0.cell 0
          have cx := HS9.out.old HCX.out
          have HXR9 := Lib.hid ((HXO.out.below HS9.out.below).rk encI_len (Nat.le_refl _))
          unfold valR at HXR9
          dsimp only at HXR9
          have g1 : (pl : Int) ≤ (x3 : Int) := by omega
          have g2 : (pl : Int) ≤ (x2 : Int) := by omega
          have g3 : pl ≤ x3 := by omega
          have g4 : ¬ x3 = pl := by omega
          have g5 : (x2 : Int) ≤ (x3 : Int) := by omega
          have g6 : x2 - pl = ql := HQL.out.symm
          go_wp2_with fail
          refine (CopyInts_any _ (((M.rowOf a).map natI).drop pl) w9 w9.heap.size (by have := HXR9.out.dropTo pl (by omega); rw [Nat.mul_one, g6] at this; exact this) (Nat.le_refl _) (by rw [List.length_drop, List.length_map, ← HXL.out]; omega)).mono ?_
          rintro e w10 ⟨v10, rfl, hl10, t10⟩
          obtain ⟨A10, c10, hv10, -, -, -, -⟩ := (hl10.rk encI_len (Nat.le_refl _)).open_
          have hlen10 : (((M.rowOf a).map natI).drop pl).length = ql := by rw [List.length_drop, List.length_map, ← HXL.out]; omega
          rw [hlen10] at hv10
          subst hv10
          have HS10 := Lib.hid (HS9.out.next t10)
          have HO10 := Lib.hid (hl10.base (Nat.le_trans HBB.out HS9.out.size))
          have HRO10 := Lib.hid (HRO9.out.below t10)
          clear hl10 t10 c0 cx hlen10 g1 g2 g3 g4 g5 g6 HS9 HRO9 HXR9
          have HLY : Hid ((ys ++ [(A8, pl, c8)]).length + 1 ≤ 1000000) := Lib.hid (by simp; omega)
          have HSA := Lib.hid (HS10.out.alloc (Obj.cells #[.slice A10 ql c10] 22))
          have HCA := Lib.hid (oneR w10 (A10, ql, c10) 22)
          dsimp only at HCA
          have HROA := Lib.hid (HRO10.out.below ((Below.refl w10.heap.size w10).alloc (Nat.le_refl _) (Obj.cells #[.slice A10 ql c10] 22)))
          have HOA := Lib.hid (HO10.out.alloc (Obj.cells #[.slice A10 ql c10] 22))
          go_wp2_with ((at_builtin; go_loud (refine wpList_appE (v := v9) etRows encR3_len encR3_one (y := (A10, ql, c10)) rfl (.tmp 40) (.tmp 49) rfl rfl HSA.out.out w10.heap.size rfl HCA.out HLY.out HSA.out.size ?_; intro v11 w11 k1 k2 k3; have HS11 := Lib.hid (HSA.out.push k1 k2); have HRO11 := Lib.hid ((HROA.out.kept HSA.out.out k2).snoc (x := (A10, ql, c10)) (r := (M.rowOf a).drop pl) (by have := HOA.out.kept k2 (HOA.out.apart HSA.out.out (by decide)); rw [← List.map_drop] at this; exact this)); clear k1 k2 k3)))
          go_roundw
          case rel => exact ⟨k + 1, _, _, by omega, by go_num, rfl, by simp; omega, by rw [HR1.out, show M.cutTo a k ++ [(M.rowOf a).take pl, (M.rowOf a).drop pl] = M.cutTo a k ++ [(M.rowOf a).take pl] ++ [(M.rowOf a).drop pl] by simp]; exact HRO11, HS11, Lib.hid (.inr (by omega))⟩
          case measure => simp [intOf]; omega
        · have d1 : ((k : Int) == (kx : Int)) = false := by simp; omega
          have d2 : (k == kx) = false := by simp; omega
          have d3 : decide (k = kx) = false := by simp; omega
          rw [cutRow_not (fun h => hkx (HIX.out.2 h))] at HR1
          obtain ⟨u, hu, hul, huo⟩ := H.out.each.at_ hkm
          obtain ⟨rb3, ro3, er, hcu⟩ := cellR H.out.rows hu
          injection er with er
          injection er with er1 er2
          subst er1 er2
          have hcu2 := HS.out.old hcu
          have HUO := Lib.hid (huo.below HS.out.below)
          obtain ⟨u1, u2, u3⟩ := u
          dsimp only at hcu2
          have HLY : Hid (ys.length + 1 ≤ 1000000) := Lib.hid (by omega)
          have HSA := Lib.hid (HS.out.alloc (Obj.cells #[.slice u1 u2 u3] 22))
          have HCA := Lib.hid (oneR wr (u1, u2, u3) 22)
          dsimp only at HCA
          have HROA := Lib.hid (HRO.out.below ((Below.refl wr.heap.size wr).alloc (Nat.le_refl _) (Obj.cells #[.slice u1 u2 u3] 22)))
          have HOA := Lib.hid (HUO.out.alloc (Obj.cells #[.slice u1 u2 u3] 22))
          clear hu hul huo hcu
          go_wp2_with ((at_builtin; go_loud (refine wpList_appE (v := vO) etRows encR3_len encR3_one (y := (u1, u2, u3)) rfl (.tmp 51) (.tmp 57) rfl rfl HSA.out.out wr.heap.size rfl HCA.out HLY.out HSA.out.size ?_; intro v6 w6 k1 k2 k3; have HS7 := Lib.hid (HSA.out.push k1 k2); have HRO7 := Lib.hid ((HROA.out.kept HSA.out.out k2).snoc (x := (u1, u2, u3)) (r := M.rows[k]) (HOA.out.kept k2 (HOA.out.apart HSA.out.out (by decide)))); clear k1 k2 k3)))
          go_roundw
          case rel => exact ⟨k + 1, _, _, by omega, by go_num, rfl, by simp; omega, by rw [HR1.out]; exact HRO7, HS7, Lib.hid (by have := HLK.out; rw [List.length_append, List.length_singleton]; omega)⟩
          case measure => simp [intOf]; omega
      · obtain rfl : k = rn := by omega
        have hrest : M.cutTo a k = (M.cut a).rows := by unfold RM.cutTo; rw [List.take_of_length_le (by have := HE.out.1; omega)]; rfl
        rw [hrest] at HRO
        clear hrest
        obtain ⟨A10, cc10, hv10, -, -, -, -⟩ := (HS.out.out.rk encR3_len (Nat.le_refl _)).open_
        obtain ⟨n10, hn10⟩ : ∃ z, z = ys.length := ⟨_, rfl⟩
        rw [← hn10] at hv10
        subst hv10
        have c1 := HS.out.box0.cell 1
        have c2 := HS.out.box0.cell 2
        have f0 := HS.out.box0.frozen 0
        have HS11 := Lib.hid (HS.out.set_ (.slice A10 n10 cc10))
        have HRO11 := Lib.hid (HRO.out.map fun v zs hz => hz.setBlk HS.out.box0 (by decide) 0 (.slice A10 n10 cc10))
        clear hn10
        go_upto_region 13 with fail
        clear f0 c0 c1 c2
        obtain ⟨w11, hw11⟩ : ∃ x, x = wr.setCell ⟨p0, 0, none⟩ (.slice A10 n10 cc10) := ⟨_, rfl⟩
        rw [← hw11] at HS11 HRO11 ⊢
        clear hw11
        have HFIN := Lib.hid (HS11.out.fin (.slice A10 n10 cc10) (.slice nA nn nc) (.slice mA mn mc))
        have q0 := HS11.out.box0.cell 0
        have q1 := HS11.out.box0.cell 1
        have q2 := HS11.out.box0.cell 2
        have s0 := HS11.out.box1.cell 0
        have s1 := HS11.out.box1.cell 1
        have s2 := HS11.out.box1.cell 2
        have i0 := HS11.out.box1.frozen 0
        have i1 := HS11.out.box1.frozen 1
        have i2 := HS11.out.box1.frozen 2
        unfold nil3 at s0 s1 s2
        go_wp2_with fail
        refine ret_cell1 (p := 4) (v := .agg #[.slice A10 n10 cc10, .slice nA nn nc, .slice mA mn mc]) rfl rfl (by go_simp) rfl ⟨_, rfl, ?_, HFIN.out.1⟩
        exact ⟨A10, n10, cc10, nA, nn, nc, mA, mn, mc, ys, rfl, ⟨HFIN.out.2.1.base HBB.out, HRO11.out.map (HFIN.out.2.2 B), H.out.ns.below HFIN.out.1, H.out.ms.below HFIN.out.1⟩⟩

end Go.Proofs.Ytbbfnbnjaiimgaa
