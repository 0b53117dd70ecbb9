/-
  The walk of skeinref06.Most.
-/
import Derived.Test.YtghacfhpafbdmaaGreatZT20
import Derived.Test.YtghacfhpafbdmaaGreatZT16
namespace Go.Proofs.YtghacfhpafbdmaaGreat
open Go.RowKit
set_option linter.unusedVariables false

section
variable {a : Act} {ty : TypeId} {pos : String} {d : Option Tmp} {af : Array Edge} {g : Option (Nat × Bool)}
theorem ro_zero {x : Tmp} {k : Nat} {b : Bool} (w : World) (hx : a.tmps.getD x undef = .int .i64 (k : Int)) (hb : ((k : Int) == 0) = b) :
    (execOp a.eval { dst := d, op := .binOp .eql 3 (.tmp x) (.const (.int .i64 0)) 3, type := ty, pos := pos, after := af, guard := g }).run Tryz.prog w = .ok (.value (.bool b)) w := by
  simp only [execOp, Act.eval, hx]
  go_simp
theorem ro_idxE {x y : Tmp} {b o n c i : Nat} (w : World) (hx : a.tmps.getD x undef = .slice (some ⟨b, o, none⟩) n c) (hy : a.tmps.getD y undef = .int .i64 (i : Int)) (hi : i < n) :
    (execOp a.eval { dst := d, op := .indexAddr 23 (.tmp x) (.tmp y), type := ty, pos := pos, after := af, guard := g }).run Tryz.prog w = .ok (.value (.pointer (some ⟨b, o + i * 4, none⟩))) w := by
  simp only [execOp, Act.eval, hx, hy]
  have : (i : Int) < n := by omega
  go_simp
theorem ro_loadEo {x : Tmp} {p o : Nat} {v0 v1 v2 v3 : Int} (w : World) (hx : a.tmps.getD x undef = .pointer (some ⟨p, o, none⟩)) (h0 : w.cell? ⟨p, o, none⟩ = some (.int .i64 v0)) (h1 : w.cell? ⟨p, o + 1, none⟩ = some (.int .i64 v1)) (h2 : w.cell? ⟨p, o + 2, none⟩ = some (.int .i64 v2)) (h3 : w.cell? ⟨p, o + 3, none⟩ = some (.int .i64 v3)) :
    (execOp a.eval { dst := d, op := .load 47 (.tmp x), type := ty, pos := pos, after := af, guard := g }).run Tryz.prog w = .ok (.value (.agg #[.int .i64 v0, .int .i64 v1, .int .i64 v2, .int .i64 v3])) w := by
  simp only [execOp, Act.eval, hx]
  go_simp
end
/-- What the ten operations of the region give when i isn't 0. -/
def SMos (k b o n c : Nat) (m e : Ed) (q : Bool) (j : Nat) (v : Value) (w : World) : Prop := match j with
  | 0 => v = .int .i64 (k : Int)
  | 1 => v = .bool false
  | 2 => v = .bool false
  | 3 => v = .agg #[.int .i64 m.id, .int .i64 m.u, .int .i64 m.v, .int .i64 m.w]
  | 4 => v = .slice (some ⟨b, o, none⟩) n c
  | 5 => v = .int .i64 (k : Int)
  | 6 => v = .pointer (some ⟨b, o + k * 4, none⟩)
  | 7 => v = .agg #[.int .i64 e.id, .int .i64 e.u, .int .i64 e.v, .int .i64 e.w]
  | 8 => v = .bool q
  | _ => v = .bool q

theorem mostL_nil : mostL [] = ⟨0, 0, 0, 0⟩ := rfl

def MosRel (w : World) (P : List Ed) (n : Nat) (i : Value) (wr : World) : Prop :=
  ∃ k : Nat, k ≤ n ∧ i = .int .i64 k ∧ Below w.heap.size w wr ∧ Blk wr w.heap.size 47 #[.int .i64 0, .int .i64 0, .int .i64 0, .int .i64 0] ∧ Blk wr (w.heap.size + 1) 47 (encE (mostL (P.take k))).toArray
set_option maxRecDepth 100000 in
set_option maxHeartbeats 2000000 in
theorem Most_any (v : Value) (P : List Ed) (w : World) (B : Nat) (he : RE w B v P) (hB : B ≤ w.heap.size) :
    Calls Tryz.prog 57 #[v] w fun e w' => e = .returned (.agg #[.int .i64 (mostL P).id, .int .i64 (mostL P).u, .int .i64 (mostL P).v, .int .i64 (mostL P).w]) ∧ Below w.heap.size w w' := by
  obtain ⟨A, c, rfl, hc1, hc2, hc3, HC⟩ := he.open_
  clear he
  obtain ⟨n, hn⟩ : ∃ n, n = P.length := ⟨_, rfl⟩
  rw [← hn] at hc1 hc3 ⊢
  have HN := Lib.hid hn
  clear hn
  go_enter Tryz.func57, Tryz.ntmps57
  go_wp2
  go_loopw [4] (fun i wr => MosRel w P n i wr) (fun i wr => n - (intOf i).toNat)
  case atStart =>
    have h0 := Blk.new w 47 #[.int .i64 0, .int .i64 0, .int .i64 0, .int .i64 0]
    have h1 := Blk.new (w.alloc (.cells #[.int .i64 0, .int .i64 0, .int .i64 0, .int .i64 0] 47)) 47 #[.int .i64 0, .int .i64 0, .int .i64 0, .int .i64 0]
    rw [show (w.alloc (.cells #[.int .i64 0, .int .i64 0, .int .i64 0, .int .i64 0] 47)).heap.size = w.heap.size + 1 by simp] at h1
    refine ⟨0, Nat.zero_le _, rfl, ((Below.refl _ _).alloc (Nat.le_refl _) _).alloc (by simp) _, h0.alloc _, ?_⟩
    rw [List.take_zero, mostL_nil]; exact h1
  case round =>
    obtain ⟨k, hk, rfl, hbel, hre, hmo⟩ := hrel
    have hgm : w.heap.size + 1 < wr.heap.size := hmo.lt
    have HBel := Lib.hid hbel
    have HRe := Lib.hid hre
    by_cases hlt : k < n
    · obtain ⟨b, o, rfl, hb, hx⟩ := HC.out k (by have := HN.out; omega)
      obtain ⟨e, hy⟩ : ∃ e, e = P[k]'(by have := HN.out; omega) := ⟨_, rfl⟩
      have hmn : 0 < k → mostL (P.take (k + 1)) = if ltW (mostL (P.take k)) e = true then e else mostL (P.take k) := by rw [hy]; exact most_next P k (by have := HN.out; omega)
      have hmf : k = 0 → mostL (P.take (k + 1)) = e := by rintro rfl; rw [hy]; exact most_first P (by have := HN.out; omega)
      rw [← hy] at hx
      obtain ⟨x0, x1, x2, x3⟩ := cellE hx
      have HMn := Lib.hid hmn
      have HMf := Lib.hid hmf
      clear hy hx hmn hmf
      have x0 := (hbel.cell (p := ⟨b, o + k * 4, none⟩) (by show b < _; omega)).trans x0
      have x1 := (hbel.cell (p := ⟨b, o + k * 4 + 1, none⟩) (by show b < _; omega)).trans x1
      have x2 := (hbel.cell (p := ⟨b, o + k * 4 + 2, none⟩) (by show b < _; omega)).trans x2
      have x3 := (hbel.cell (p := ⟨b, o + k * 4 + 3, none⟩) (by show b < _; omega)).trans x3
      obtain ⟨eid, eu, ev, ew⟩ := e
      obtain ⟨⟨ni, nu, nv, nw⟩, hmk⟩ : ∃ e, e = mostL (P.take k) := ⟨_, rfl⟩
      rw [← hmk] at hmo HMn
      clear hmk
      dsimp only at *
      have n0 : wr.cell? ⟨w.heap.size + 1, 0, none⟩ = some (.int .i64 ni) := hmo.cell 0
      have n1 : wr.cell? ⟨w.heap.size + 1, 1, none⟩ = some (.int .i64 nu) := hmo.cell 1
      have n2 : wr.cell? ⟨w.heap.size + 1, 2, none⟩ = some (.int .i64 nv) := hmo.cell 2
      have n3 : wr.cell? ⟨w.heap.size + 1, 3, none⟩ = some (.int .i64 nw) := hmo.cell 3
      have HMo := Lib.hid hmo
      have hbW : b < w.heap.size := by omega
      clear hbel hmo hre
      by_cases hk0 : k = 0
      · have HK0 := Lib.hid hk0
        have tk0 : ((k : Int) == 0) = true := by simpa using hk0
        clear hk0
        go_wp2_with fail
        go_quiet (fail)
        go_wp2_with (refine wpList_store_row rfl 47 (.tmp 3) (.tmp 25) rfl (w.heap.size + 1) #[.int .i64 eid, .int .i64 eu, .int .i64 ev, .int .i64 ew] rfl rfl 47 (encE ⟨ni, nu, nv, nw⟩).toArray HMo.out (by kernel_rfl) rfl (by kernel_rfl) ?_)
        go_roundw
        case measure => simp [intOf]; omega
        case rel =>
          refine ⟨k + 1, by omega, by go_num, below_row (below_drewN HBel.out _) (by omega) _, Blk.rowFar (w := wr.drewN _) HRe.out (by omega) _, ?_⟩
          rw [HMf.out HK0.out]
          exact Blk.row (w := wr.drewN _) HMo.out _
      · have hkp : 0 < k := by omega
        have tk0 : ((k : Int) == 0) = false := by simpa using hk0
        clear hk0
        cases hq : ltW ⟨ni, nu, nv, nw⟩ ⟨eid, eu, ev, ew⟩ with
        | true =>
          have HQ := Lib.hid hq
          clear hq
          go_wp2_with fail
          rename_i K hK
          refine wp_region_slots (SMos k b o n c ⟨ni, nu, nv, nw⟩ ⟨eid, eu, ev, ew⟩ true) (fun _ w7 => Below wr.heap.size wr w7) (by kernel_rfl) (by kernel_rfl) (by kernel_rfl) ((Below.refl _ _).drew) ?_ ?_
          · intro L a w7 q o' h ho h0 hd
            have hlow : Below wr.heap.size wr w7 := h.world
            have hz7' := hlow.size
            have hm7 := HMo.out.below hlow (by omega)
            have x0 := (hlow.cell (p := ⟨b, o + k * 4, none⟩) (by show b < _; omega)).trans x0
            have x1 := (hlow.cell (p := ⟨b, o + k * 4 + 1, none⟩) (by show b < _; omega)).trans x1
            have x2 := (hlow.cell (p := ⟨b, o + k * 4 + 2, none⟩) (by show b < _; omega)).trans x2
            have x3 := (hlow.cell (p := ⟨b, o + k * 4 + 3, none⟩) (by show b < _; omega)).trans x3
            revert L a w7
            revert q o'
            refine each_array ?_
            refine ⟨?_, ?_, ?_, ?_, ?_, ?_, ?_, ?_, ?_, ?_, trivial⟩ <;> intro L a w7 h h0 hd hlow hz7' hm7 x0 x1 x2 x3
            · exact h.val rfl rfl (ro_move w7 (h.still 4 (by kernel_rfl))) hlow rfl
            · exact h.val rfl rfl (ro_zero w7 (h.ran 0 _ 12 rfl rfl (hd ⟨0, .data⟩ (by simp) rfl)) tk0) hlow rfl
            · exact h.val rfl rfl (ro_move w7 (h.ran 1 _ 13 rfl rfl (hd ⟨1, .data⟩ (by simp) rfl))) hlow rfl
            · exact h.valG rfl (wanted_of rfl rfl rfl (h.ran 2 _ 14 rfl rfl (hd ⟨2, .guard⟩ (by simp) rfl))) (ro_loadE w7 (h.still 3 (by kernel_rfl)) (hm7.cell 0) (hm7.cell 1) (hm7.cell 2) (hm7.cell 3)) hlow rfl
            · exact h.valG rfl (wanted_of rfl rfl rfl (h.ran 2 _ 14 rfl rfl (hd ⟨2, .guard⟩ (by simp) rfl))) (ro_move w7 (h.still 0 (by kernel_rfl))) hlow rfl
            · exact h.valG rfl (wanted_of rfl rfl rfl (h.ran 2 _ 14 rfl rfl (hd ⟨2, .guard⟩ (by simp) rfl))) (ro_move w7 (h.still 4 (by kernel_rfl))) hlow rfl
            · exact h.valG rfl (wanted_of rfl rfl rfl (h.ran 2 _ 14 rfl rfl (hd ⟨2, .guard⟩ (by simp) rfl))) (ro_idxE w7 (h.ran 4 _ 16 rfl rfl (hd ⟨4, .data⟩ (by simp) rfl)) (h.ran 5 _ 17 rfl rfl (hd ⟨5, .data⟩ (by simp) rfl)) hlt) hlow rfl
            · exact h.valG rfl (wanted_of rfl rfl rfl (h.ran 2 _ 14 rfl rfl (hd ⟨2, .guard⟩ (by simp) rfl))) (ro_loadEo w7 (h.ran 6 _ 18 rfl rfl (hd ⟨6, .data⟩ (by simp) rfl)) x0 x1 x2 x3) hlow rfl
            · refine h.callG rfl (wanted_of rfl rfl rfl (h.ran 2 _ 14 rfl rfl (hd ⟨2, .guard⟩ (by simp) rfl))) (ro_call2 cf_Ahead w7 (h.ran 3 _ 15 rfl rfl (hd ⟨3, .data⟩ (by simp) rfl)) (h.ran 7 _ 19 rfl rfl (hd ⟨7, .data⟩ (by simp) rfl))) ((Ahead_q ⟨ni, nu, nv, nw⟩ ⟨eid, eu, ev, ew⟩ true HQ.out w7).mono ?_)
              rintro r w8 ⟨rfl, hb8⟩
              exact ⟨_, rfl, fun _ _ _ h => h, hlow.trans (hb8.mono hz7'), rfl⟩
            · exact h.val rfl rfl (ro_pickT w7 (h.ran 2 _ 14 rfl rfl (hd ⟨2, .data⟩ (by simp) rfl)) (h.ran 8 _ 20 rfl rfl (hd ⟨8, .data⟩ (by simp) rfl))) hlow rfl
          · intro L a w7 hL hdf hsz' hw hother hall
            have h18 : a.tmps.getD 21 undef = .bool true := hall 9 _ 21 rfl rfl
            have hlow : Below wr.heap.size wr w7 := hw
            have HMo7 := Lib.hid (HMo.out.below hlow (by omega))
            have HRe7 := Lib.hid (HRe.out.below hlow (by omega))
            have HB7 : Hid (Below w.heap.size w w7) := HBel.out.trans (hlow.mono (by omega))
            have x0 := (hlow.cell (p := ⟨b, o + k * 4, none⟩) (by show b < _; omega)).trans x0
            have x1 := (hlow.cell (p := ⟨b, o + k * 4 + 1, none⟩) (by show b < _; omega)).trans x1
            have x2 := (hlow.cell (p := ⟨b, o + k * 4 + 2, none⟩) (by show b < _; omega)).trans x2
            have x3 := (hlow.cell (p := ⟨b, o + k * 4 + 3, none⟩) (by show b < _; omega)).trans x3
            refine hK _ _ ?_
            obtain ⟨tm, df⟩ := a
            obtain rfl : df = [] := hdf
            have htm := tmps_eq [12, 13, 14, 15, 16, 17, 18, 19, 20, 21] (by kernel_rfl) hsz' hother
            dsimp only at htm h18
            simp only [List.foldl] at htm
            rw [h18] at htm
            generalize tm.getD 12 undef = y12 at htm
            generalize tm.getD 13 undef = y13 at htm
            generalize tm.getD 14 undef = y14 at htm
            generalize tm.getD 15 undef = y15 at htm
            generalize tm.getD 16 undef = y16 at htm
            generalize tm.getD 17 undef = y17 at htm
            generalize tm.getD 18 undef = y18 at htm
            generalize tm.getD 19 undef = y19 at htm
            generalize tm.getD 20 undef = y20 at htm
            clear hother hall hsz' hw h18 hL hlow
            rw [htm]
            clear htm
            simp only [List.setIfInBounds_toArray, List.set_cons_succ, List.set_cons_zero]
            go_wp2_with (refine wpList_store_row rfl 47 (.tmp 3) (.tmp 25) rfl (w.heap.size + 1) #[.int .i64 eid, .int .i64 eu, .int .i64 ev, .int .i64 ew] rfl rfl 47 (encE ⟨ni, nu, nv, nw⟩).toArray HMo7.out (by kernel_rfl) rfl (by kernel_rfl) ?_)
            go_roundw
            case measure => simp [intOf]; omega
            case rel =>
              refine ⟨k + 1, by omega, by go_num, below_row HB7.out (by omega) _, HRe7.out.rowFar (by omega) _, ?_⟩
              rw [HMn.out hkp, if_pos HQ.out]
              exact HMo7.out.row _
        | false =>
          have HQ := Lib.hid hq
          clear hq
          go_wp2_with fail
          rename_i K hK
          refine wp_region_slots (SMos k b o n c ⟨ni, nu, nv, nw⟩ ⟨eid, eu, ev, ew⟩ false) (fun _ w7 => Below wr.heap.size wr w7) (by kernel_rfl) (by kernel_rfl) (by kernel_rfl) ((Below.refl _ _).drew) ?_ ?_
          · intro L a w7 q o' h ho h0 hd
            have hlow : Below wr.heap.size wr w7 := h.world
            have hz7' := hlow.size
            have hm7 := HMo.out.below hlow (by omega)
            have x0 := (hlow.cell (p := ⟨b, o + k * 4, none⟩) (by show b < _; omega)).trans x0
            have x1 := (hlow.cell (p := ⟨b, o + k * 4 + 1, none⟩) (by show b < _; omega)).trans x1
            have x2 := (hlow.cell (p := ⟨b, o + k * 4 + 2, none⟩) (by show b < _; omega)).trans x2
            have x3 := (hlow.cell (p := ⟨b, o + k * 4 + 3, none⟩) (by show b < _; omega)).trans x3
            revert L a w7
            revert q o'
            refine each_array ?_
            refine ⟨?_, ?_, ?_, ?_, ?_, ?_, ?_, ?_, ?_, ?_, trivial⟩ <;> intro L a w7 h h0 hd hlow hz7' hm7 x0 x1 x2 x3
            · exact h.val rfl rfl (ro_move w7 (h.still 4 (by kernel_rfl))) hlow rfl
            · exact h.val rfl rfl (ro_zero w7 (h.ran 0 _ 12 rfl rfl (hd ⟨0, .data⟩ (by simp) rfl)) tk0) hlow rfl
            · exact h.val rfl rfl (ro_move w7 (h.ran 1 _ 13 rfl rfl (hd ⟨1, .data⟩ (by simp) rfl))) hlow rfl
            · exact h.valG rfl (wanted_of rfl rfl rfl (h.ran 2 _ 14 rfl rfl (hd ⟨2, .guard⟩ (by simp) rfl))) (ro_loadE w7 (h.still 3 (by kernel_rfl)) (hm7.cell 0) (hm7.cell 1) (hm7.cell 2) (hm7.cell 3)) hlow rfl
            · exact h.valG rfl (wanted_of rfl rfl rfl (h.ran 2 _ 14 rfl rfl (hd ⟨2, .guard⟩ (by simp) rfl))) (ro_move w7 (h.still 0 (by kernel_rfl))) hlow rfl
            · exact h.valG rfl (wanted_of rfl rfl rfl (h.ran 2 _ 14 rfl rfl (hd ⟨2, .guard⟩ (by simp) rfl))) (ro_move w7 (h.still 4 (by kernel_rfl))) hlow rfl
            · exact h.valG rfl (wanted_of rfl rfl rfl (h.ran 2 _ 14 rfl rfl (hd ⟨2, .guard⟩ (by simp) rfl))) (ro_idxE w7 (h.ran 4 _ 16 rfl rfl (hd ⟨4, .data⟩ (by simp) rfl)) (h.ran 5 _ 17 rfl rfl (hd ⟨5, .data⟩ (by simp) rfl)) hlt) hlow rfl
            · exact h.valG rfl (wanted_of rfl rfl rfl (h.ran 2 _ 14 rfl rfl (hd ⟨2, .guard⟩ (by simp) rfl))) (ro_loadEo w7 (h.ran 6 _ 18 rfl rfl (hd ⟨6, .data⟩ (by simp) rfl)) x0 x1 x2 x3) hlow rfl
            · refine h.callG rfl (wanted_of rfl rfl rfl (h.ran 2 _ 14 rfl rfl (hd ⟨2, .guard⟩ (by simp) rfl))) (ro_call2 cf_Ahead w7 (h.ran 3 _ 15 rfl rfl (hd ⟨3, .data⟩ (by simp) rfl)) (h.ran 7 _ 19 rfl rfl (hd ⟨7, .data⟩ (by simp) rfl))) ((Ahead_q ⟨ni, nu, nv, nw⟩ ⟨eid, eu, ev, ew⟩ false HQ.out w7).mono ?_)
              rintro r w8 ⟨rfl, hb8⟩
              exact ⟨_, rfl, fun _ _ _ h => h, hlow.trans (hb8.mono hz7'), rfl⟩
            · exact h.val rfl rfl (ro_pickT w7 (h.ran 2 _ 14 rfl rfl (hd ⟨2, .data⟩ (by simp) rfl)) (h.ran 8 _ 20 rfl rfl (hd ⟨8, .data⟩ (by simp) rfl))) hlow rfl
          · intro L a w7 hL hdf hsz' hw hother hall
            have h18 : a.tmps.getD 21 undef = .bool false := hall 9 _ 21 rfl rfl
            have hlow : Below wr.heap.size wr w7 := hw
            have HMo7 := Lib.hid (HMo.out.below hlow (by omega))
            have HRe7 := Lib.hid (HRe.out.below hlow (by omega))
            have HB7 : Hid (Below w.heap.size w w7) := HBel.out.trans (hlow.mono (by omega))
            have x0 := (hlow.cell (p := ⟨b, o + k * 4, none⟩) (by show b < _; omega)).trans x0
            have x1 := (hlow.cell (p := ⟨b, o + k * 4 + 1, none⟩) (by show b < _; omega)).trans x1
            have x2 := (hlow.cell (p := ⟨b, o + k * 4 + 2, none⟩) (by show b < _; omega)).trans x2
            have x3 := (hlow.cell (p := ⟨b, o + k * 4 + 3, none⟩) (by show b < _; omega)).trans x3
            refine hK _ _ ?_
            obtain ⟨tm, df⟩ := a
            obtain rfl : df = [] := hdf
            have htm := tmps_eq [12, 13, 14, 15, 16, 17, 18, 19, 20, 21] (by kernel_rfl) hsz' hother
            dsimp only at htm h18
            simp only [List.foldl] at htm
            rw [h18] at htm
            generalize tm.getD 12 undef = y12 at htm
            generalize tm.getD 13 undef = y13 at htm
            generalize tm.getD 14 undef = y14 at htm
            generalize tm.getD 15 undef = y15 at htm
            generalize tm.getD 16 undef = y16 at htm
            generalize tm.getD 17 undef = y17 at htm
            generalize tm.getD 18 undef = y18 at htm
            generalize tm.getD 19 undef = y19 at htm
            generalize tm.getD 20 undef = y20 at htm
            clear hother hall hsz' hw h18 hL hlow
            rw [htm]
            clear htm
            simp only [List.setIfInBounds_toArray, List.set_cons_succ, List.set_cons_zero]
            go_wp2_with fail
            go_roundw
            case measure => simp [intOf]; omega
            case rel =>
              refine ⟨k + 1, by omega, by go_num, HB7.out, HRe7.out, ?_⟩
              rw [HMn.out hkp, if_neg (by rw [HQ.out]; decide)]
              exact HMo7.out
    · obtain rfl : k = n := by omega
      have hte : P.take k = P := by rw [HN.out, List.take_length]
      rw [hte] at hmo
      clear hte
      obtain ⟨m, hmk⟩ : ∃ e, e = mostL P := ⟨_, rfl⟩
      rw [← hmk] at hmo
      have HMk := Lib.hid hmk
      clear hmk
      obtain ⟨ni, nu, nv, nw⟩ := m
      have n0 : wr.cell? ⟨w.heap.size + 1, 0, none⟩ = some (.int .i64 ni) := hmo.cell 0
      have n1 : wr.cell? ⟨w.heap.size + 1, 1, none⟩ = some (.int .i64 nu) := hmo.cell 1
      have n2 : wr.cell? ⟨w.heap.size + 1, 2, none⟩ = some (.int .i64 nv) := hmo.cell 2
      have n3 : wr.cell? ⟨w.heap.size + 1, 3, none⟩ = some (.int .i64 nw) := hmo.cell 3
      clear hmo hbel hre
      go_wp2_with (refine wpList_store_row rfl 47 (.tmp 2) (.tmp 26) rfl w.heap.size #[.int .i64 ni, .int .i64 nu, .int .i64 nv, .int .i64 nw] rfl rfl 47 #[.int .i64 0, .int .i64 0, .int .i64 0, .int .i64 0] HRe.out (by kernel_rfl) rfl (by kernel_rfl) ?_)
      have hbk : Blk (wr.setRow w.heap.size #[.int .i64 ni, .int .i64 nu, .int .i64 nv, .int .i64 nw]) w.heap.size 47 (encE ⟨ni, nu, nv, nw⟩).toArray := HRe.out.row _
      refine ret_cell1 (p := 2) rfl rfl (load_ed hbk) rfl ⟨by rw [← HMk.out], ?_⟩
      exact below_row HBel.out (Nat.le_refl _) _
end Go.Proofs.YtghacfhpafbdmaaGreat

/-
  The walk of skeinref06.ask.
-/
namespace Go.Proofs.YtghacfhpafbdmaaGreat
open Go.RowKit
set_option linter.unusedVariables false

/-- The number that is told when a net and vertices are asked for. -/
def askL (V : List Int) (E : List Ed) (U : List Int) : Int := if rightN V E then (if U.all (V.contains ·) then 0 else 51) else 60
theorem askL_no {V : List Int} {E : List Ed} (U : List Int) (h : rightN V E = false) : askL V E U = 60 := by unfold askL; rw [h]; rfl
theorem askL_yes {V : List Int} {E : List Ed} {U : List Int} (h : rightN V E = true) (hu : ∀ x ∈ U, V.contains x = true) : askL V E U = 0 := by
  unfold askL; rw [h, if_pos rfl, if_pos (List.all_eq_true.2 hu)]
theorem askL_off {V : List Int} {E : List Ed} {U : List Int} (h : rightN V E = true) {x : Int} (hx : x ∈ U) (hu : V.contains x = false) : askL V E U = 51 := by
  unfold askL; rw [h, if_pos rfl, if_neg]
  intro h2
  have := List.all_eq_true.1 h2 x hx
  rw [hu] at this; cases this

set_option maxRecDepth 100000 in
set_option maxHeartbeats 4000000 in
theorem ask_any (sv se uv : Value) (V : List Int) (E : List Ed) (U : List Int) (w : World) (B : Nat) (hv : RI w B sv V) (he : RE w B se E) (hu : RI w B uv U) (hB : B ≤ w.heap.size) :
    Calls Tryz.prog 44 #[netV sv se, uv] w fun e w' => e = .returned (.int .i64 (askL V E U)) ∧ Below w.heap.size w w' := by
  have HV := Lib.hid hv
  have HE := Lib.hid he
  obtain ⟨Av, cv, rfl, hc1, hc2, hc3, _⟩ := hv.open_
  obtain ⟨Ae, ce, rfl, hd1, hd2, hd3, _⟩ := he.open_
  obtain ⟨A, c, rfl, hu1, hu2, hu3, HC⟩ := hu.open_
  clear hv he hu
  obtain ⟨n, hn⟩ : ∃ n, n = U.length := ⟨_, rfl⟩
  rw [← hn] at hu1 hu3 ⊢
  have HN := Lib.hid hn
  clear hn
  obtain ⟨nV, hnV⟩ : ∃ n, n = V.length := ⟨_, rfl⟩
  obtain ⟨nE, hnE⟩ : ∃ n, n = E.length := ⟨_, rfl⟩
  rw [← hnV] at hc1 hc3 HV ⊢
  rw [← hnE] at hd1 hd3 HE ⊢
  clear hnV hnE
  have hz0 : (w.alloc (.cells #[.slice Av nV cv, .slice Ae nE ce] 25)).heap.size = w.heap.size + 1 := by simp
  have HV1 : Hid (RI (w.alloc (.cells #[.slice Av nV cv, .slice Ae nE ce] 25)) B (.slice Av nV cv) V) := HV.out.alloc hB _
  have HE1 : Hid (RE (w.alloc (.cells #[.slice Av nV cv, .slice Ae nE ce] 25)) B (.slice Ae nE ce) E) := HE.out.alloc hB _
  cases hr : rightN V E with
  | false =>
    rw [askL_no U hr]
    have HR := Lib.hid hr
    clear hr
    go_enter Tryz.func44, Tryz.ntmps44
    go_wp2_with fail
    refine (refCheck_any _ _ V E _ B HV1.out HE1.out (by omega)).mono ?_
    rintro e w1 ⟨rfl, hb⟩
    rw [refChk_no HR.out]
    have HB1 : Hid (Below w.heap.size w w1) := ((Below.refl _ _).alloc (Nat.le_refl _) _).trans (hb.mono (by omega))
    clear hb
    go_wp2
    go_ret
    exact ⟨rfl, HB1.out⟩
  | true =>
    have HR := Lib.hid hr
    clear hr
    go_enter Tryz.func44, Tryz.ntmps44
    go_wp2_with fail
    refine (refCheck_any _ _ V E _ B HV1.out HE1.out (by omega)).mono ?_
    rintro e w1 ⟨rfl, hb⟩
    rw [refChk_yes HR.out]
    have HB1 : Hid (Below w.heap.size w w1) := ((Below.refl _ _).alloc (Nat.le_refl _) _).trans (hb.mono (by omega))
    have HNb : Hid (Blk w1 w.heap.size 25 #[.slice Av nV cv, .slice Ae nE ce]) := (Blk.new w 25 #[.slice Av nV cv, .slice Ae nE ce]).below hb (by omega)
    clear hb
    go_wp2_with fail
    go_loopw [6] (fun i wr => ∃ (k q : Nat), k ≤ n ∧ i = .int .i64 k ∧ wr = w1.drewN q ∧ ∀ x ∈ U.take k, V.contains x = true) (fun i wr => n - (intOf i).toNat)
    case atStart => exact ⟨0, 0, Nat.zero_le _, rfl, rfl, by simp⟩
    case round =>
      obtain ⟨k, q, hk, rfl, rfl, hall⟩ := hrel
      by_cases hlt : k < n
      · obtain ⟨b, o, rfl, hb, hx⟩ := HC.out k (by have := HN.out; omega)
        obtain ⟨y, hy⟩ : ∃ y, y = U[k]'(by have := HN.out; omega) := ⟨_, rfl⟩
        have hT : U.take (k + 1) = U.take k ++ [y] := by rw [List.take_succ_eq_append_getElem (by have := HN.out; omega), ← hy]
        have hyU : y ∈ U := by rw [hy]; exact List.getElem_mem _
        rw [← hy] at hx
        have hx := cellI hx
        obtain ⟨wr, hwr⟩ : ∃ wr, wr = w1.drewN q := ⟨_, rfl⟩
        have HB7 : Hid (Below w.heap.size w wr) := by rw [hwr]; exact below_drewN HB1.out _
        have hnb : Blk wr w.heap.size 25 #[.slice Av nV cv, .slice Ae nE ce] := by rw [hwr]; exact HNb.out
        have c0 : wr.cell? ⟨w.heap.size, 0, none⟩ = some (.slice Av nV cv) := hnb.cell 0
        have c1 : wr.cell? ⟨w.heap.size, 1, none⟩ = some (.slice Ae nE ce) := hnb.cell 1
        have hx := (HB7.out.cell (p := ⟨b, o + k, none⟩) (by show b < _; omega)).trans hx
        have HVr : Hid (RI wr B (.slice Av nV cv) V) := HV.out.below (HB7.out.mono hB)
        rw [← hwr]
        have HWr := Lib.hid hwr
        have HT := Lib.hid hT
        have HAll := Lib.hid hall
        have HyU := Lib.hid hyU
        clear hwr hT hall hy hnb hyU
        cases hc : V.contains y with
        | true =>
          have HC' := Lib.hid hc
          clear hc
          go_wp2_with fail
          go_quiet ((go_at_call 30; exact Calls.quiet_of ((Has_any _ V y true HC'.out _ _ (HVr.out.drewN _)).mono (by rintro e w' ⟨rfl, rfl⟩; exact ⟨rfl, 0, rfl⟩))))
          go_wp2_with fail
          go_roundw
          case rel => exact ⟨k + 1, _, by omega, by go_num, by rw [HWr.out, World.drewN_drewN], by rw [HT.out]; intro x hx; rcases List.mem_append.1 hx with h | h; exact HAll.out x h; rw [List.mem_singleton.1 h]; exact HC'.out⟩
          case measure => simp [intOf]; omega
        | false =>
          have HC' := Lib.hid hc
          clear hc
          go_wp2_with fail
          go_quiet ((go_at_call 30; exact Calls.quiet_of ((Has_any _ V y false HC'.out _ _ (HVr.out.drewN _)).mono (by rintro e w' ⟨rfl, rfl⟩; exact ⟨rfl, 0, rfl⟩))))
          go_wp2_with fail
          go_ret
          exact ⟨by rw [askL_off HR.out HyU.out HC'.out]; rfl, below_drewN HB7.out _⟩
      · obtain rfl : k = n := by omega
        rw [HN.out, List.take_length] at hall
        have HAll := Lib.hid hall
        clear hall
        go_wp2
        go_ret
        exact ⟨by rw [askL_yes HR.out HAll.out]; rfl, below_drewN HB1.out _⟩
end Go.Proofs.YtghacfhpafbdmaaGreat

/-
  The walk of skeinref05.With.
-/
namespace Go.Proofs.YtghacfhpafbdmaaGreat
open Go.RowKit
set_option linter.unusedVariables false

/-- A number put into a list ahead of the first that is greater. -/
def insI (n : Int) : List Int → List Int
  | [] => [n]
  | x :: r => if n < x then n :: x :: r else x :: insI n r

theorem insI_cons (n x : Int) (r : List Int) : insI n (x :: r) = if n < x then n :: x :: r else x :: insI n r := rfl

def WitRel (w : World) (V : List Int) (x : Int) (n : Nat) (t d i : Value) (wr : World) : Prop :=
  ∃ (k : Nat) (q : Bool) (O : List Int), k ≤ n ∧ O.length ≤ 2 * k ∧ i = .int .i64 k ∧ d = .bool q ∧ Below w.heap.size w wr ∧ OK encI 1 3 wr w.heap.size t O ∧ O ++ (if q then V.drop k else insI x (V.drop k)) = insI x V
set_option maxRecDepth 100000 in
set_option maxHeartbeats 4000000 in
theorem With_any (v : Value) (V : List Int) (x : Int) (w : World) (B : Nat) (hv : RI w B v V) (hB : B ≤ w.heap.size) (hlen : V.length ≤ 100000) :
    Calls Tryz.prog 51 #[v, .int .i64 x] w fun e w' => ∃ v', e = .returned v' ∧ OK encI 1 3 w' w.heap.size v' (insI x V) ∧ Below w.heap.size w w' := by
  obtain ⟨A, c, rfl, hc1, hc2, hc3, HC⟩ := hv.open_
  clear hv
  obtain ⟨n, hn⟩ : ∃ n, n = V.length := ⟨_, rfl⟩
  rw [← hn] at hc1 hc3 hlen ⊢
  have HN := Lib.hid hn
  clear hn
  go_enter Tryz.func51, Tryz.ntmps51
  go_wp2
  go_loopw [5, 6, 7] (fun t d i wr => WitRel w V x n t d i wr) (fun _ _ i wr => n - (intOf i).toNat)
  case atStart =>
    refine ⟨0, false, [], Nat.zero_le _, by simp, rfl, rfl, (Below.refl _ _).alloc (Nat.le_refl _) _, ?_, rfl⟩
    exact ⟨by simp, World.ownsRow_lit w #[] 0 (by omega) (by decide) rfl⟩
  case round =>
    obtain ⟨k, q, O, hk, hol, rfl, rfl, hbel, ho, hins⟩ := hrel
    have HB := Lib.hid hbel
    have HO := Lib.hid ho
    have HI := Lib.hid hins
    have hz := hbel.size
    by_cases hlt : k < n
    · obtain ⟨b, o, rfl, hb, hx⟩ := HC.out k (by have := HN.out; omega)
      obtain ⟨y, hy⟩ : ∃ y, y = V[k]'(by have := HN.out; omega) := ⟨_, rfl⟩
      have hT : V.drop k = y :: V.drop (k + 1) := by rw [List.drop_eq_getElem_cons (by have := HN.out; omega), ← hy]
      rw [← hy] at hx
      have hx := cellI hx
      have HT := Lib.hid hT
      have HX0 := Lib.hid hx
      have hx := (hbel.cell (p := ⟨b, o + k, none⟩) (by show b < _; omega)).trans hx
      have HLo := Lib.hid HO.out.lt
      have hxy : (decide (x < y)) = (decide (x < y)) := rfl
      have HL := Lib.hid hol
      clear hy hT hbel ho hins hxy
      cases q with
      | true =>
        go_wp2_with (at_builtin; refine wpList_app1 etInts encI_len encI_one rfl (.tmp 29) (.tmp 34) rfl rfl (OK.alloc (w := wr) HO.out _) _ rfl (y := y) (by intro j u hu; rw [World.cell?_alloc_at _ _ _ _ (by simp), ← hu, ← Array.getElem?_toList]; rfl) (by have := HL.out; simp; omega) (by simp; omega) ?_; intro v5 w5 ho5 hg5 hb5; have HO5 := Lib.hid ho5; have HG5 := Lib.hid hg5; clear ho5 hg5 hb5)
        go_roundw
        case measure => simp [intOf]; omega
        case rel =>
          refine ⟨k + 1, true, O ++ [y], by omega, by simp; omega, by go_num, rfl, Below.grown (Below.alloc HB.out (by omega) _) HG5.out (by simp; omega) (fun q hq => (HLo.out q hq).1), HO5.out, ?_⟩
          have := HI.out
          rw [if_pos rfl, HT.out] at this
          rw [if_pos rfl, List.append_assoc]; exact this
      | false =>
        by_cases hxy : x < y
        · have hd := decide_eq_true hxy
          have HXY := Lib.hid hxy
          go_wp2_with (first | (at_builtin; refine wpList_app1 etInts encI_len encI_one rfl (.tmp 25) (.tmp 27) rfl rfl (OK.alloc (w := wr) HO.out _) _ rfl (y := x) (by intro j u hu; rw [World.cell?_alloc_at _ _ _ _ (by simp), ← hu, ← Array.getElem?_toList]; rfl) (by have := HL.out; simp; omega) (by simp; omega) ?_; intro v5 w5 ho5 hg5 hb5; have HO5 := Lib.hid ho5; have HG5 := Lib.hid hg5; clear ho5 hg5 hb5; have HB5 := Lib.hid (Below.grown (Below.alloc HB.out (by omega) _) HG5.out (by simp; omega) (fun q hq => (HLo.out q hq).1)); have hx := (HB5.out.cell (p := ⟨b, o + k, none⟩) (by show b < _; omega)).trans HX0.out; have HLo5 := Lib.hid HO5.out.lt; have hz5 := HB5.out.size) | (at_builtin; refine wpList_app1 etInts encI_len encI_one rfl (.tmp 29) (.tmp 34) rfl rfl (OK.alloc (w := w5) HO5.out _) _ rfl (y := y) (by intro j u hu; rw [World.cell?_alloc_at _ _ _ _ (by simp), ← hu, ← Array.getElem?_toList]; rfl) (by have := HL.out; simp; omega) (by simp; omega) ?_; intro v6 w6 ho6 hg6 hb6; have HO6 := Lib.hid ho6; have HG6 := Lib.hid hg6; clear ho6 hg6 hb6))
          go_roundw
          case measure => simp [intOf]; omega
          case rel =>
            refine ⟨k + 1, true, O ++ [x] ++ [y], by omega, by simp; omega, by go_num, rfl, Below.grown (Below.alloc HB5.out (by omega) _) HG6.out (by simp; omega) (fun q hq => (HLo5.out q hq).1), HO6.out, ?_⟩
            have := HI.out
            rw [if_neg (by decide), HT.out] at this
            rw [insI_cons, if_pos HXY.out] at this
            rw [if_pos rfl, List.append_assoc, List.append_assoc]; exact this
        · have hd := decide_eq_false hxy
          have HXY := Lib.hid hxy
          go_wp2_with (at_builtin; refine wpList_app1 etInts encI_len encI_one rfl (.tmp 29) (.tmp 34) rfl rfl (OK.alloc (w := wr) HO.out _) _ rfl (y := y) (by intro j u hu; rw [World.cell?_alloc_at _ _ _ _ (by simp), ← hu, ← Array.getElem?_toList]; rfl) (by have := HL.out; simp; omega) (by simp; omega) ?_; intro v5 w5 ho5 hg5 hb5; have HO5 := Lib.hid ho5; have HG5 := Lib.hid hg5; clear ho5 hg5 hb5)
          go_roundw
          case measure => simp [intOf]; omega
          case rel =>
            refine ⟨k + 1, false, O ++ [y], by omega, by simp; omega, by go_num, rfl, Below.grown (Below.alloc HB.out (by omega) _) HG5.out (by simp; omega) (fun q hq => (HLo.out q hq).1), HO5.out, ?_⟩
            have := HI.out
            rw [if_neg (by decide), HT.out] at this
            rw [insI_cons, if_neg HXY.out] at this
            rw [if_neg (by decide), List.append_assoc]; exact this
    · obtain rfl : k = n := by omega
      have HL := Lib.hid hol
      have HLo := Lib.hid HO.out.lt
      clear hbel ho hins
      cases q with
      | true =>
        have HF : Hid (O = insI x V) := by
          have := HI.out
          rw [if_pos rfl, HN.out, List.drop_length, List.append_nil] at this
          exact this
        obtain ⟨At, nt, ct, rfl⟩ := HO.out.slice
        go_wp2
        go_ret
        exact ⟨_, rfl, by rw [← HF.out]; exact HO.out, HB.out⟩
      | false =>
        have HF : Hid (O ++ [x] = insI x V) := by
          have := HI.out
          rw [if_neg (by decide), HN.out, List.drop_length] at this
          exact this
        go_wp2_with (at_builtin; refine wpList_app1 etInts encI_len encI_one rfl (.tmp 38) (.tmp 40) rfl rfl (OK.alloc (w := wr) HO.out _) _ rfl (y := x) (by intro j u hu; rw [World.cell?_alloc_at _ _ _ _ (by simp), ← hu, ← Array.getElem?_toList]; rfl) (by have := HL.out; omega) (by simp; omega) ?_; intro v5 w5 ho5 hg5 hb5; have HO5 := Lib.hid ho5; have HG5 := Lib.hid hg5; clear ho5 hg5 hb5)
        go_ret
        exact ⟨_, rfl, by rw [← HF.out]; exact HO5.out, Below.grown (Below.alloc HB.out (by omega) _) HG5.out (by simp; omega) (fun q hq => (HLo.out q hq).1)⟩
end Go.Proofs.YtghacfhpafbdmaaGreat

/-
  The walk of skeinref05.SameEdges at equal lists.
-/
namespace Go.Proofs.YtghacfhpafbdmaaGreat
open Go.RowKit
set_option linter.unusedVariables false

theorem run_neE (W : World) (i u v x : Int) : (binOp .neq 47 (.agg #[.int .i64 i, .int .i64 u, .int .i64 v, .int .i64 x]) (.agg #[.int .i64 i, .int .i64 u, .int .i64 v, .int .i64 x])).run Tryz.prog W = .ok (.bool false) W := by
  simp [binOp, go_sem]
  unfold Op.equal
  rw [show Op.maxDepth = 9998 + 2 from rfl, run_eqE]; rfl

set_option maxRecDepth 100000 in
set_option maxHeartbeats 2000000 in
theorem SameEdges_yes (v v2 : Value) (V : List Ed) (w : World) (B B2 : Nat) (hv : RE w B v V) (hv2 : RE w B2 v2 V) :
    Calls Tryz.prog 63 #[v, v2] w fun e w' => e = .returned (.bool true) ∧ ∃ q, w' = w.drewN q := by
  obtain ⟨A, c, rfl, hc1, hc2, hc3, HC⟩ := hv.open_
  obtain ⟨A2, c2, rfl, hd1, hd2, hd3, HD⟩ := hv2.open_
  clear hv hv2
  obtain ⟨n, hn⟩ : ∃ n, n = V.length := ⟨_, rfl⟩
  rw [← hn] at hc1 hc3 hd1 hd3 ⊢
  have HN := Lib.hid hn
  clear hn
  go_enter Tryz.func63, Tryz.ntmps63
  go_wp2
  go_loopw [5] (fun i wr => ∃ (k q : Nat), k ≤ n ∧ i = .int .i64 k ∧ wr = w.drewN q) (fun i wr => n - (intOf i).toNat)
  case atStart => exact ⟨0, 0, Nat.zero_le _, rfl, rfl⟩
  case round =>
    obtain ⟨k, q, hk, rfl, rfl⟩ := hrel
    by_cases hlt : k < n
    · obtain ⟨b, o, rfl, hb, hx⟩ := HC.out k (by have := HN.out; omega)
      obtain ⟨b2, o2, rfl, hb2, hx2⟩ := HD.out k (by have := HN.out; omega)
      obtain ⟨⟨i, u, y, z⟩, hy⟩ : ∃ y, y = V[k]'(by have := HN.out; omega) := ⟨_, rfl⟩
      rw [← hy] at hx hx2
      obtain ⟨wr, hwr⟩ : ∃ wr, wr = w.drewN q := ⟨_, rfl⟩
      obtain ⟨x0, x1, x2, x3⟩ := cellE (w := w.drewN q) hx
      obtain ⟨y0, y1, y2, y3⟩ := cellE (w := w.drewN q) hx2
      rw [← hwr] at x0 x1 x2 x3 y0 y1 y2 y3 ⊢
      dsimp only at x0 x1 x2 x3 y0 y1 y2 y3
      have hne := fun W => run_neE W i u y z
      have HWr := Lib.hid hwr
      clear hwr hy hx hx2
      go_wp2_with fail
      go_quiet (fail)
      go_wp2_with fail
      go_roundw
      case rel => exact ⟨k + 1, _, by omega, by go_num, by rw [HWr.out, World.drewN_drewN]⟩
      case measure => simp [intOf]; omega
    · obtain rfl : k = n := by omega
      go_wp2
      go_ret
      exact ⟨rfl, q, rfl⟩
end Go.Proofs.YtghacfhpafbdmaaGreat

/-
  The walk of skeinref05.SameNet at equal nets.
-/
namespace Go.Proofs.YtghacfhpafbdmaaGreat
open Go.RowKit
set_option linter.unusedVariables false

set_option maxRecDepth 100000 in
set_option maxHeartbeats 2000000 in
theorem SameNet_yes (sv se sv2 se2 : Value) (V : List Int) (E : List Ed) (w : World) (B : Nat) (hv : RI w B sv V) (he : RE w B se E) (hv2 : RI w B sv2 V) (he2 : RE w B se2 E) (hB : B ≤ w.heap.size) :
    Calls Tryz.prog 28 #[netV sv se, netV sv2 se2] w fun e w' => e = .returned (.bool true) ∧ Below w.heap.size w w' := by
  have HV := Lib.hid ((hv.alloc hB (.cells #[sv, se] 25)).alloc (by simp; omega) (.cells #[sv2, se2] 25))
  have HE := Lib.hid ((he.alloc hB (.cells #[sv, se] 25)).alloc (by simp; omega) (.cells #[sv2, se2] 25))
  have HV2 := Lib.hid ((hv2.alloc hB (.cells #[sv, se] 25)).alloc (by simp; omega) (.cells #[sv2, se2] 25))
  have HE2 := Lib.hid ((he2.alloc hB (.cells #[sv, se] 25)).alloc (by simp; omega) (.cells #[sv2, se2] 25))
  obtain ⟨A1, c1, rfl, _, _, _, _⟩ := hv.open_
  obtain ⟨A2, c2, rfl, _, _, _, _⟩ := he.open_
  obtain ⟨A3, c3, rfl, _, _, _, _⟩ := hv2.open_
  obtain ⟨A4, c4, rfl, _, _, _, _⟩ := he2.open_
  clear hv he hv2 he2
  obtain ⟨nV, hnV⟩ : ∃ n, n = V.length := ⟨_, rfl⟩
  obtain ⟨nE, hnE⟩ : ∃ n, n = E.length := ⟨_, rfl⟩
  simp only [← hnV, ← hnE] at HV HE HV2 HE2 ⊢
  clear hnV hnE
  go_enter Tryz.func28, Tryz.ntmps28
  go_wp2_with fail
  have n0 := Blk.new w 25 #[.slice A1 nV c1, .slice A2 nE c2]
  have m0 := Blk.new (w.alloc (.cells #[.slice A1 nV c1, .slice A2 nE c2] 25)) 25 #[.slice A3 nV c3, .slice A4 nE c4]
  have hz : (w.alloc (.cells #[.slice A1 nV c1, .slice A2 nE c2] 25)).heap.size = w.heap.size + 1 := by simp
  rw [hz] at m0
  obtain ⟨W, hW⟩ : ∃ W, W = (w.alloc (.cells #[.slice A1 nV c1, .slice A2 nE c2] 25)).alloc (.cells #[.slice A3 nV c3, .slice A4 nE c4] 25) := ⟨_, rfl⟩
  have HBW : Hid (Below w.heap.size w W) := by rw [hW]; exact ((Below.refl _ _).alloc (Nat.le_refl _) _).alloc (by simp) _
  have n1 := n0.alloc (.cells #[.slice A3 nV c3, .slice A4 nE c4] 25)
  rw [← hW] at n1 m0 HV HE HV2 HE2 ⊢
  clear n0 hz hW
  have a0 : W.cell? ⟨w.heap.size, 0, none⟩ = some (.slice A1 nV c1) := n1.cell 0
  have a1 : W.cell? ⟨w.heap.size, 1, none⟩ = some (.slice A2 nE c2) := n1.cell 1
  have b0 : W.cell? ⟨w.heap.size + 1, 0, none⟩ = some (.slice A3 nV c3) := m0.cell 0
  have b1 : W.cell? ⟨w.heap.size + 1, 1, none⟩ = some (.slice A4 nE c4) := m0.cell 1
  clear n1 m0
  refine (SameInts_yes _ _ V _ _ _ HV.out HV2.out).mono ?_
  rintro e w1 ⟨rfl, q, hw1⟩
  have HB1 : Hid (Below w.heap.size w w1) := by rw [hw1]; exact below_drewN HBW.out _
  have HE1 : Hid (RE w1 B (.slice A2 nE c2) E) := by rw [hw1]; exact HE.out.drewN _
  have HE3 : Hid (RE w1 B (.slice A4 nE c4) E) := by rw [hw1]; exact HE2.out.drewN _
  have a1 : w1.cell? ⟨w.heap.size, 1, none⟩ = some (.slice A2 nE c2) := by rw [hw1]; exact a1
  have b1 : w1.cell? ⟨w.heap.size + 1, 1, none⟩ = some (.slice A4 nE c4) := by rw [hw1]; exact b1
  clear hw1
  go_wp2_with fail
  refine (SameEdges_yes _ _ E _ _ _ HE1.out HE3.out).mono ?_
  rintro e w2 ⟨rfl, q2, rfl⟩
  go_wp2_with fail
  go_ret
  exact ⟨rfl, below_drewN HB1.out _⟩
end Go.Proofs.YtghacfhpafbdmaaGreat
