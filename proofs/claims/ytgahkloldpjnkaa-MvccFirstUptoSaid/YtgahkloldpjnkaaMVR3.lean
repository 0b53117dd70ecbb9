/-
  The walk of skeinref14's put.
-/
import Derived.Test.YtgahkloldpjnkaaMVR2
namespace Go.Proofs.Ytgahkloldpjnkaa
open Go.RowKit Go.Maps
set_option linter.unusedVariables false

theorem OK.setBlk {α : Type} {enc : α → List Value} {k E : Nat} {w : World} {B g : Nat} {t : TypeId} {cs : Array Value} {v : Value} {xs : List α} (h : OK enc k E w B v xs) (hb : Blk w g t cs) (hne : t ≠ E) (j : Nat) (u : Value) : OK enc k E (w.setCell ⟨g, j, none⟩ u) B v xs := by
  refine ⟨h.1, ownsRow_setCell_other h.2 ?_ u⟩
  rcases h.2.2 with ⟨e, _⟩ | ⟨g', cap, cur, e, _, hh, _⟩
  · rw [e]; exact fun h => nomatch h
  · rw [e]
    intro e2
    simp only [Value.ownBlock] at e2
    injection e2 with e2
    subst e2
    exact hb.ne_ (t' := E) (cs' := cur) hh hne rfl

theorem Blk.low {β : Type} {enc' : β → List Value} {k' E' : Nat} {w w' : World} {g : Nat} {t : TypeId} {cs : Array Value} {B' : Nat} {v' : Value} {ys : List β} {o : Obj} (h : Blk w g t cs) (h' : OK enc' k' E' w B' v' ys) (hlt : g < B') (hg : (w.alloc o).grownBy w' v'.ownBlock) : Blk w' g t cs := by
  refine (h.alloc o).grown hg fun e => ?_
  have := (h'.lt g e.symm).1
  omega

theorem below_low {α : Type} {enc : α → List Value} {k E : Nat} {w0 w w' : World} {B : Nat} {v : Value} {xs : List α} {o : Obj} (hb : Below w0.heap.size w0 w) (hB : w0.heap.size ≤ B) (h : OK enc k E w B v xs) (hg : (w.alloc o).grownBy w' v.ownBlock) : Below w0.heap.size w0 w' :=
  (hb.alloc hb.size o).grown hg (by have := hb.size; simp; omega) fun k hk => Nat.le_trans hB ((h.alloc o).lt k hk).1

theorem oneTx (w : World) (y : TxV) (t : TypeId) : ∀ (j : Nat) u, (encTx y)[j]? = some u → (w.alloc (.cells #[.int .i64 y.start, .slice y.A y.n y.c, .bool y.live, .int .i64 y.at_] t)).cell? ⟨w.heap.size, j, none⟩ = some u := by
  intro j u hu; rw [(Blk.new w _ _).cell j]; simpa [encTx] using hu

theorem set_take {xs : List TxV} {j m : Nat} {y : TxV} (hm : m < xs.length) : (xs.set j y).take (m + 1) = (xs.set j y).take m ++ [if m = j then y else xs[m]] := by
  rw [List.take_succ_eq_append_getElem (by simpa using hm), List.getElem_set]
  by_cases h : m = j
  · rw [if_pos h, if_pos h.symm]
  · rw [if_neg h, if_neg (fun e => h e.symm)]

/-- The table's cell with the new row: what is handed back. -/
theorem ref_fin {w w2 : World} {b B : Nat} {a0 a1 v' : Value} {last : Int} {ys : List TxV} (hb2 : Below w.heap.size w w2) (hk : Blk w2 b 28 #[a0, a1]) (hlt : w.heap.size ≤ b) (ho : OK encTx 4 73 w2 B v' ys) (hr : ∀ y ∈ ys, RR w2 w2.heap.size (.slice y.A y.n y.c) y.refs ∧ Off (fun k => k = b) (.slice y.A y.n y.c) y.refs) :
    Blk ((w2.setCell ⟨b, 0, none⟩ v').setCell ⟨b, 1, none⟩ (.int .i64 last)) b 28 #[v', .int .i64 last] ∧ TxRow ((w2.setCell ⟨b, 0, none⟩ v').setCell ⟨b, 1, none⟩ (.int .i64 last)) v' ys ∧ Below w.heap.size w ((w2.setCell ⟨b, 0, none⟩ v').setCell ⟨b, 1, none⟩ (.int .i64 last)) := by
  have hm : Mod (fun k => k = b) w2 ((w2.setCell ⟨b, 0, none⟩ v').setCell ⟨b, 1, none⟩ (.int .i64 last)) := ((Mod.refl (fun k => k = b) w2).setCell (p := ⟨b, 0, none⟩) (fun _ => rfl) v').setCell (p := ⟨b, 1, none⟩) (fun _ => rfl) (.int .i64 last)
  refine ⟨?_, ⟨?_, fun y hy => (hr y hy).1.mod hm (hr y hy).2⟩, ?_⟩
  · have := (hk.set_ 0 v').set_ 1 (.int .i64 last)
    simpa using this
  · exact ((ho.setBlk hk (by decide) 0 v').setBlk (hk.set_ 0 v') (by decide) 1 (.int .i64 last)).rk encTx_len (Nat.le_refl _)
  · exact (hb2.setCell (p := ⟨b, 0, none⟩) hlt _).setCell (p := ⟨b, 1, none⟩) hlt _

/-- A row that could be read from the start lies below what is new. -/
theorem old_row {w w2 : World} {b : Nat} {v : Value} {rs : List Rf} (h : RR w w.heap.size v rs) (hb : Below w.heap.size w w2) (hlt : w.heap.size ≤ b) : RR w2 w2.heap.size v rs ∧ Off (fun k => k = b) v rs :=
  ⟨(h.below hb).more hb.size, h.off (fun k hk e => by omega)⟩

/-- A transaction as a value. -/
def txVal (y : TxV) : Value := .agg #[.int .i64 y.start, .slice y.A y.n y.c, .bool y.live, .int .i64 y.at_]

set_option maxRecDepth 100000 in
set_option maxHeartbeats 1000000 in
theorem rPut_any (w : World) (v : Value) (xs : List TxV) (last : Int) (h : RK encTx 4 w w.heap.size v xs) (hsm : xs.length ≤ 400000) (jj : Nat) (hj : jj < xs.length) (y : TxV) :
    Calls Try.prog 34 #[rtV v last, .int .i64 ((jj : Int) + 1), txVal y] w fun e w' => ∃ v', e = .returned (rtV v' last) ∧ OK encTx 4 73 w' w.heap.size v' (xs.set jj y) ∧ Below w.heap.size w w' := by
  obtain ⟨A, c, rfl, hc1, hc2, hc3, HC⟩ := h.open_
  obtain ⟨N, hN⟩ : ∃ N, N = xs.length := ⟨_, rfl⟩
  rw [← hN] at hc1 hc3 hsm hj ⊢
  have HN := Lib.hid hN
  obtain ⟨y0, yA, yn, yc, yl, ya, yr⟩ := y
  obtain ⟨ys, hys⟩ : ∃ ys, ys = xs.set jj ⟨y0, yA, yn, yc, yl, ya, yr⟩ := ⟨_, rfl⟩
  have HYS := Lib.hid hys
  have hb0 : Below w.heap.size w (((w.alloc (.cells #[.slice A N c, .int .i64 last] 28)).alloc (.cells #[.int .i64 y0, .slice yA yn yc, .bool yl, .int .i64 ya] 73)).alloc (.cells #[.slice none 0 0, .int .i64 0] 28)) := (((Below.refl _ _).alloc (Nat.le_refl _) _).alloc (by simp) _).alloc (by simp; omega) _
  have HB0 := Lib.hid hb0
  obtain ⟨W, hW⟩ : ∃ W, W = (((w.alloc (.cells #[.slice A N c, .int .i64 last] 28)).alloc (.cells #[.int .i64 y0, .slice yA yn yc, .bool yl, .int .i64 ya] 73)).alloc (.cells #[.slice none 0 0, .int .i64 0] 28)) := ⟨_, rfl⟩
  have hk1 : Blk W w.heap.size 28 #[.slice A N c, .int .i64 last] := by rw [hW]; exact ((Blk.new w _ _).alloc _).alloc _
  have hk2 : Blk W (w.heap.size + 1) 73 #[.int .i64 y0, .slice yA yn yc, .bool yl, .int .i64 ya] := by
    rw [hW]
    have := (Blk.new (w.alloc (.cells #[.slice A N c, .int .i64 last] 28)) 73 #[.int .i64 y0, .slice yA yn yc, .bool yl, .int .i64 ya]).alloc (.cells #[.slice none 0 0, .int .i64 0] 28)
    simpa using this
  have hk3 : Blk W (w.heap.size + 2) 28 #[.slice none 0 0, .int .i64 0] := by
    rw [hW]
    have := Blk.new ((w.alloc (.cells #[.slice A N c, .int .i64 last] 28)).alloc (.cells #[.int .i64 y0, .slice yA yn yc, .bool yl, .int .i64 ya] 73)) 28 #[.slice none 0 0, .int .i64 0]
    simpa using this
  have hWz : W.heap.size = w.heap.size + 3 := by rw [hW]; simp
  rw [← hW] at HB0
  have hl0 : OK encTx 4 73 (W.alloc (.cells #[] 73)) (w.heap.size + 3) (.slice (some ⟨w.heap.size + 3, 0, none⟩) 0 0) (ys.take 0) := by
    have := World.ownsRow_made (e := 73) (size := 4) W #[] 0 (base := w.heap.size + 3) (by omega) (by simp) (by simp)
    rw [hWz] at this
    exact ⟨by simp, this⟩
  have HL0 := Lib.hid hl0
  have HK1 : Hid (Blk (W.alloc (.cells #[] 73)) w.heap.size 28 #[.slice A N c, .int .i64 last]) := Lib.hid (hk1.alloc _)
  have HK2 : Hid (Blk (W.alloc (.cells #[] 73)) (w.heap.size + 1) 73 #[.int .i64 y0, .slice yA yn yc, .bool yl, .int .i64 ya]) := Lib.hid (hk2.alloc _)
  have HK3 : Hid (Blk (W.alloc (.cells #[] 73)) (w.heap.size + 2) 28 #[.slice none 0 0, .int .i64 0]) := Lib.hid (hk3.alloc _)
  have HW := Lib.hid hW
  have HWZ := Lib.hid hWz
  have HBX : Hid (Below w.heap.size w (W.alloc (.cells #[] 73))) := Lib.hid (HB0.out.alloc (by omega) _)
  rw [← hys]
  clear hys
  clear hN h hb0 hk1 hk2 hk3 hWz hl0 hW
  have hj3 : (jj : Int) ≤ 400000 := by omega
  unfold rtV txVal
  go_enter Try.func34, Try.ntmps34
  go_wp2_with fail
  rw [← HW.out]
  go_loopw [7, 8] (fun l i wr => ∃ (m : Nat) (vA : Option Addr) (vn vc : Nat), m ≤ N ∧ i = .int .i64 m ∧ l = .slice vA vn vc ∧ Hid (OK encTx 4 73 wr (w.heap.size + 3) (.slice vA vn vc) (ys.take m)) ∧ Hid (Blk wr w.heap.size 28 #[.slice A N c, .int .i64 last]) ∧ Hid (Blk wr (w.heap.size + 1) 73 #[.int .i64 y0, .slice yA yn yc, .bool yl, .int .i64 ya]) ∧ Hid (Blk wr (w.heap.size + 2) 28 #[.slice none 0 0, .int .i64 0]) ∧ Hid (Below w.heap.size w wr)) (fun _ i _ => N - (intOf i).toNat)
  case atStart => exact ⟨0, _, _, _, Nat.zero_le _, rfl, rfl, HL0, HK1, HK2, HK3, HBX⟩
  case round =>
    obtain ⟨m, vA, vn, vc, hm, rfl, rfl, HLI, HB1, HB2, HB3, HB⟩ := hrel
    have hwz := HB.out.size
    have hw3 := HB3.out.lt
    have z0 : wr.cell? ⟨w.heap.size, 0, none⟩ = some (.slice A N c) := HB1.out.cell 0
    have HLN : Hid ((ys.take m).length + 1 ≤ 1000000) := Lib.hid (by rw [List.length_take]; omega)
    have hb3 : w.heap.size + 3 ≤ wr.heap.size := by omega
    by_cases hmo : m < N
    · have hmx : m < xs.length := by rw [← HN.out]; exact hmo
      by_cases hmj : m = jj
      · subst hmj
        have HT : Hid (ys.take (m + 1) = ys.take m ++ [⟨y0, yA, yn, yc, yl, ya, yr⟩]) := Lib.hid (by rw [HYS.out, set_take hmx, if_pos rfl])
        have x0 : wr.cell? ⟨w.heap.size + 1, 0, none⟩ = some (.int .i64 y0) := HB2.out.cell 0
        have x1 : wr.cell? ⟨w.heap.size + 1, 1, none⟩ = some (.slice yA yn yc) := HB2.out.cell 1
        have x2 : wr.cell? ⟨w.heap.size + 1, 2, none⟩ = some (.bool yl) := HB2.out.cell 2
        have x3 : wr.cell? ⟨w.heap.size + 1, 3, none⟩ = some (.int .i64 ya) := HB2.out.cell 3
        go_wp2_with (first
          | (at_builtin; refine wpList_appE etTx encTx_len encTx_one (y := ⟨y0, yA, yn, yc, yl, ya, yr⟩) rfl (.tmp 21) (.tmp 23) rfl rfl (HLI.out.alloc _) wr.heap.size rfl (oneTx wr ⟨y0, yA, yn, yc, yl, ya, yr⟩ _) HLN.out (Nat.le_trans hb3 (base1 (Nat.le_refl _) _)) ?_; intro v6 w6 k1 k2 k3; obtain ⟨A6, c6, rfl, -, -, -, -⟩ := (k1.rk encTx_len (Nat.le_refl _)).open_; have K1 := Lib.hid k1; have K2 := Lib.hid k2; clear k1 k2 k3))
        go_roundw
        case rel =>
          have k1 := K1.out
          have e1 : (ys.take m ++ [(⟨y0, yA, yn, yc, yl, ya, yr⟩ : TxV)]).length = min m ys.length + 1 := by simp
          rw [e1] at k1
          rw [← HT.out] at k1
          exact ⟨m + 1, _, _, _, by omega, by go_num, rfl, Lib.hid k1, Lib.hid (HB1.out.low HLI.out (by omega) K2.out), Lib.hid (HB2.out.low HLI.out (by omega) K2.out), Lib.hid (HB3.out.low HLI.out (by omega) K2.out), Lib.hid (below_low HB.out (by omega) HLI.out K2.out)⟩
        case measure => simp [intOf]; omega
      · obtain ⟨b2, o2, rfl, hb2, hx2⟩ := HC.out m hmx
        obtain ⟨u0, u1, u2, u3⟩ := cellTx hx2
        have HT : Hid (ys.take (m + 1) = ys.take m ++ [xs[m]]) := Lib.hid (by rw [HYS.out, set_take hmx, if_neg hmj])
        have x0 : wr.cell? ⟨b2, o2 + m * 4, none⟩ = _ := (HB.out.cell (p := ⟨b2, o2 + m * 4, none⟩) hb2).trans u0
        have x1 : wr.cell? ⟨b2, o2 + m * 4 + 1, none⟩ = _ := (HB.out.cell (p := ⟨b2, o2 + m * 4 + 1, none⟩) hb2).trans u1
        have x2 : wr.cell? ⟨b2, o2 + m * 4 + 2, none⟩ = _ := (HB.out.cell (p := ⟨b2, o2 + m * 4 + 2, none⟩) hb2).trans u2
        have x3 : wr.cell? ⟨b2, o2 + m * 4 + 3, none⟩ = _ := (HB.out.cell (p := ⟨b2, o2 + m * 4 + 3, none⟩) hb2).trans u3
        obtain ⟨x, hx⟩ : ∃ x, x = xs[m] := ⟨_, rfl⟩
        rw [← hx] at x0 x1 x2 x3 HT
        obtain ⟨q0, qA, qn, qc, ql, qa, qr⟩ := x
        dsimp only at x0 x1 x2 x3
        have hne : ((m : Int) == (jj : Int)) = false := by simpa using fun e : (m : Int) = jj => hmj (by omega)
        have hne2 : ¬ (m : Int) = (jj : Int) := fun e => hmj (by omega)
        clear hx u0 u1 u2 u3 hx2
        go_wp2_with (first
          | (at_builtin; refine wpList_appE etTx encTx_len encTx_one (y := ⟨q0, qA, qn, qc, ql, qa, qr⟩) rfl (.tmp 25) (.tmp 31) rfl rfl (HLI.out.alloc _) wr.heap.size rfl (oneTx wr ⟨q0, qA, qn, qc, ql, qa, qr⟩ _) HLN.out (Nat.le_trans hb3 (base1 (Nat.le_refl _) _)) ?_; intro v6 w6 k1 k2 k3; obtain ⟨A6, c6, rfl, -, -, -, -⟩ := (k1.rk encTx_len (Nat.le_refl _)).open_; have K1 := Lib.hid k1; have K2 := Lib.hid k2; clear k1 k2 k3))
        go_roundw
        case rel =>
          have k1 := K1.out
          have e1 : (ys.take m ++ [(⟨q0, qA, qn, qc, ql, qa, qr⟩ : TxV)]).length = min m ys.length + 1 := by simp
          rw [e1] at k1
          rw [← HT.out] at k1
          exact ⟨m + 1, _, _, _, by omega, by go_num, rfl, Lib.hid k1, Lib.hid (HB1.out.low HLI.out (by omega) K2.out), Lib.hid (HB2.out.low HLI.out (by omega) K2.out), Lib.hid (HB3.out.low HLI.out (by omega) K2.out), Lib.hid (below_low HB.out (by omega) HLI.out K2.out)⟩
        case measure => simp [intOf]; omega
    · have e : ys.take m = ys := List.take_of_length_le (by rw [HYS.out, List.length_set, ← HN.out]; omega)
      have hli := HLI.out
      rw [e] at hli
      have HLI2 := Lib.hid hli
      clear e hli
      have f1 : wr.frozen? ⟨w.heap.size, 0, none⟩ = false := HB1.out.frozen 0
      have g0 : wr.frozen? ⟨w.heap.size + 2, 0, none⟩ = false := HB3.out.frozen 0
      have g1 : wr.frozen? ⟨w.heap.size + 2, 1, none⟩ = false := HB3.out.frozen 1
      have t1 : wr.cell? ⟨w.heap.size, 1, none⟩ = some (.int .i64 last) := HB1.out.cell 1
      have t2 : wr.cell? ⟨w.heap.size + 2, 0, none⟩ = some (.slice none 0 0) := HB3.out.cell 0
      have t3 : wr.cell? ⟨w.heap.size + 2, 1, none⟩ = some (.int .i64 0) := HB3.out.cell 1
      go_wp2_with fail
      rw [show w.heap.size + 1 + 1 = w.heap.size + 2 from rfl]
      have hbE := ((HB3.out.far (p := ⟨w.heap.size, 0, none⟩) (show w.heap.size + 2 ≠ w.heap.size by omega) (.slice vA vn vc)).set_ 0 (.slice vA vn vc)).set_ 1 (.int .i64 last)
      simp only [List.setIfInBounds_toArray, List.set_cons_succ, List.set_cons_zero] at hbE
      have o1 := (HLI2.out.setBlk HB1.out (by decide) 0 (.slice vA vn vc)).setBlk (HB3.out.far (p := ⟨w.heap.size, 0, none⟩) (show w.heap.size + 2 ≠ w.heap.size by omega) (.slice vA vn vc)) (by decide) 0 (.slice vA vn vc)
      have o2 := o1.setBlk ((HB3.out.far (p := ⟨w.heap.size, 0, none⟩) (show w.heap.size + 2 ≠ w.heap.size by omega) (.slice vA vn vc)).set_ 0 (.slice vA vn vc)) (by decide) 1 (.int .i64 last)
      have bE : Below w.heap.size w (((wr.setCell ⟨w.heap.size, 0, none⟩ (.slice vA vn vc)).setCell ⟨w.heap.size + 2, 0, none⟩ (.slice vA vn vc)).setCell ⟨w.heap.size + 2, 1, none⟩ (.int .i64 last)) :=
        ((HB.out.setCell (p := ⟨w.heap.size, 0, none⟩) (Nat.le_refl _) _).setCell (p := ⟨w.heap.size + 2, 0, none⟩) (by dsimp only; omega) _).setCell (p := ⟨w.heap.size + 2, 1, none⟩) (by dsimp only; omega) _
      generalize ((wr.setCell ⟨w.heap.size, 0, none⟩ (.slice vA vn vc)).setCell ⟨w.heap.size + 2, 0, none⟩ (.slice vA vn vc)).setCell ⟨w.heap.size + 2, 1, none⟩ (.int .i64 last) = WE at *
      have r0 : WE.cell? ⟨w.heap.size + 2, 0, none⟩ = some (.slice vA vn vc) := hbE.cell 0
      have r1 : WE.cell? ⟨w.heap.size + 2, 1, none⟩ = some (.int .i64 last) := hbE.cell 1
      refine bodyPost_ret (v := .agg #[.slice vA vn vc, .int .i64 last]) (by simp [results, Try.results34, go_sem, r0, r1]) rfl ?_
      exact ⟨_, rfl, o2.base (by omega), bE⟩

end Go.Proofs.Ytgahkloldpjnkaa
