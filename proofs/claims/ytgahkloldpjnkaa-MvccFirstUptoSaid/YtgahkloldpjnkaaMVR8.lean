/-
  The walk of skeinref14's Touch.
-/
import Derived.Test.YtgahkloldpjnkaaMVR7
namespace Go.Proofs.Ytgahkloldpjnkaa
open Go.RowKit Go.Maps
set_option linter.unusedVariables false

theorem touch_eq {M : MV} {n : Int} {x : Tx} (hl : M.live? n = some x) (rs : List Rf) : M.touch n rs = M.put n { x with refs := x.refs ++ rs } := by unfold MV.touch; rw [hl]

theorem touch_last (M : MV) (n : Int) (rs : List Rf) : (M.touch n rs).last = M.last := by
  unfold MV.touch
  split
  · rfl
  · rfl

theorem touch_ok {M : MV} (h : M.Ok) (n : Int) {rs : List Rf} (hr : ∀ r ∈ rs, I64 r.snd) : (M.touch n rs).Ok := by
  cases hl : M.live? n with
  | none => unfold MV.touch; rw [hl]; exact h
  | some x =>
    have hx := h.tx x (live_mem hl)
    refine ⟨by rw [touch_last]; exact h.last, ?_, ?_, ?_, by rw [len_touch]; exact h.count⟩
    · intro z hz
      rw [touch_last]
      rw [touch_eq hl] at hz
      rcases mem_set hz with rfl | hz
      · exact hx
      · exact h.tx z hz
    · intro z hz r hr'
      rw [touch_eq hl] at hz
      rcases mem_set hz with rfl | hz
      · rcases List.mem_append.1 hr' with hr' | hr'
        · exact h.refs x (live_mem hl) r hr'
        · exact hr r hr'
      · exact h.refs z hz r hr'
    · refine Nat.le_trans ((nums_nodup _).length_le_of_subset fun k hk => ?_) h.few
      rw [mem_nums] at hk ⊢
      obtain ⟨z, hz⟩ := Option.isSome_iff_exists.1 hk
      rw [touch_eq hl] at hz
      obtain ⟨u, hu, _⟩ := (live_put' hl (y := { x with refs := x.refs ++ rs }) rfl).1 k z hz
      rw [hu]
      rfl

theorem oneR (w : World) (y : Rf) (t : TypeId) : ∀ (j : Nat) u, (encR y)[j]? = some u → (w.alloc (.cells #[.bool y.fst, .int .i64 y.snd] t)).cell? ⟨w.heap.size, j, none⟩ = some u := by
  intro j u hu; rw [(Blk.new w _ _).cell j]; simpa [encR] using hu

theorem OK.offAt {α : Type} {enc : α → List Value} {k E : Nat} {w : World} {B b : Nat} {v : Value} {xs : List α} (h : OK enc k E w B v xs) (hlt : b < B) : Off (fun k => k = b) v xs :=
  .inr fun k hk e => by have := (h.lt k hk).1; omega

set_option maxRecDepth 100000 in
set_option maxHeartbeats 2000000 in
theorem rTouch_any (w : World) (v : Value) (xs : List TxV) (M : MV) (h : RTab w v xs M) (n : Int) (u : Value) (rs : List Rf) (hu : RR w w.heap.size u rs) (hr : ∀ r ∈ rs, I64 r.snd) (hroom : M.bulk + rs.length ≤ 800000) :
    Calls Try.prog 26 #[rtV v M.last, .int .i64 n, u] w (RefOut w (M.touch n rs) [.int .i64 (M.touchE n)]) := by
  obtain ⟨A, c, rfl, hc1, hc2, hc3, HC⟩ := h.row.rk.open_
  have HRU := Lib.hid hu
  obtain ⟨uA, uc, rfl, hd1, hd2, hd3, HD⟩ := hu.open_
  have HRI := Lib.hid hr
  have HROOM := Lib.hid hroom
  have hsm := h.small.1
  have hlen := h.len
  rw [hlen] at hsm
  obtain ⟨N, hN⟩ : ∃ N, N = xs.length := ⟨_, rfl⟩
  rw [← hN] at hc1 hc3 hsm
  obtain ⟨W, hW⟩ : ∃ W, W = (w.alloc (.cells #[.slice A N c, .int .i64 M.last] 28)).alloc (.cells #[.slice none 0 0, .int .i64 0] 28) := ⟨_, rfl⟩
  have hbW : Below w.heap.size w W := by rw [hW]; exact ((Below.refl _ _).alloc (Nat.le_refl _) _).alloc (by simp) _
  have hk1 : Blk W w.heap.size 28 #[.slice A N c, .int .i64 M.last] := by rw [hW]; exact (Blk.new _ _ _).alloc _
  have hk2 : Blk W (w.heap.size + 1) 28 #[.slice none 0 0, .int .i64 0] := by
    rw [hW]
    have := Blk.new (w.alloc (.cells #[.slice A N c, .int .i64 M.last] 28)) 28 #[.slice none 0 0, .int .i64 0]
    simpa using this
  have z0 : W.cell? ⟨w.heap.size, 0, none⟩ = some (.slice A N c) := hk1.cell 0
  have z1 : W.cell? ⟨w.heap.size, 1, none⟩ = some (.int .i64 M.last) := hk1.cell 1
  have hiN := rIs_any W (.slice A xs.length c) xs M (h.below hbW) n
  rw [← hN] at hiN ⊢
  have HN := Lib.hid hN
  have H := Lib.hid h
  have HBW := Lib.hid hbW
  have HK1 := Lib.hid hk1
  have HK2 := Lib.hid hk2
  have HW := Lib.hid hW
  clear hN h hlen hbW hk1 hk2 hW hu hr
  unfold rtV at hiN ⊢
  go_enter Try.func26, Try.ntmps26
  go_wp2_with fail
  rw [← HW.out]
  refine hiN.mono ?_
  rintro e w1 ⟨rfl, hb1⟩
  have HB1 := Lib.hid (HBW.out.trans (hb1.mono HBW.out.size))
  have HL1 := Lib.hid (HK1.out.below hb1 HK1.out.lt)
  have HL2 := Lib.hid (HK2.out.below hb1 HK2.out.lt)
  clear hb1 z0 z1 hiN
  have z0 : w1.cell? ⟨w.heap.size, 0, none⟩ = some (.slice A N c) := HL1.out.cell 0
  have z1 : w1.cell? ⟨w.heap.size, 1, none⟩ = some (.int .i64 M.last) := HL1.out.cell 1
  have p0 : w1.cell? ⟨w.heap.size + 1, 0, none⟩ = some (.slice none 0 0) := HL2.out.cell 0
  have p1 : w1.cell? ⟨w.heap.size + 1, 1, none⟩ = some (.int .i64 0) := HL2.out.cell 1
  have f0 : w1.frozen? ⟨w.heap.size + 1, 0, none⟩ = false := HL2.out.frozen 0
  have f1 : w1.frozen? ⟨w.heap.size + 1, 1, none⟩ = false := HL2.out.frozen 1
  have hw1 : w.heap.size + 1 < w1.heap.size := HL2.out.lt
  have hw0 : w.heap.size < w1.heap.size := by omega
  cases hl : M.live? n with
  | none =>
    have HE : Hid (M.touchE n = 141) := Lib.hid (touchE_none hl)
    have HM : Hid (M.touch n rs = M) := Lib.hid (by unfold MV.touch; rw [hl])
    simp only [Option.isSome_none]
    clear hl
    go_wp2_with fail
    have bE := two_below HB1.out (show w.heap.size ≤ w.heap.size + 1 by omega) (.slice A N c) (.int .i64 M.last)
    have kE := two_set HL2.out (.slice A N c) (.int .i64 M.last)
    generalize (w1.setCell ⟨w.heap.size + 1, 0, none⟩ (.slice A N c)).setCell ⟨w.heap.size + 1, 1, none⟩ (.int .i64 M.last) = WE at *
    have r0 : WE.cell? ⟨w.heap.size + 1, 0, none⟩ = some (.slice A N c) := kE.cell 0
    have r1 : WE.cell? ⟨w.heap.size + 1, 1, none⟩ = some (.int .i64 M.last) := kE.cell 1
    refine bodyPost_ret (v := .tuple #[.agg #[.slice A N c, .int .i64 M.last], .int .i64 141]) (by simp [results, Try.results26, go_sem, r0, r1]) rfl ?_
    refine ⟨.slice A N c, xs, by rw [HM.out, HE.out]; rfl, ?_, bE⟩
    rw [HM.out, HN.out]
    exact H.out.below bE
  | some x =>
    have HE : Hid (M.touchE n = 0) := Lib.hid (touchE_live hl)
    simp only [Option.isSome_some]
    have hlt := live_lt hl
    obtain ⟨j, rfl⟩ : ∃ j : Nat, n = (j : Int) + 1 := ⟨(n - 1).toNat, by omega⟩
    obtain ⟨hj, hjx, hjl⟩ := H.out.some_ hl
    have hjN : j < N := by have := HN.out; omega
    have hj3 : (j : Int) ≤ 400000 := by omega
    obtain ⟨b1, o1, rfl, hb1, hx1⟩ := HC.out j hj
    obtain ⟨u0, u1, u2, u3⟩ := cellTx hx1
    have x0 : w1.cell? ⟨b1, o1 + j * 4, none⟩ = _ := (HB1.out.cell (p := ⟨b1, o1 + j * 4, none⟩) hb1).trans u0
    have x1 : w1.cell? ⟨b1, o1 + j * 4 + 1, none⟩ = _ := (HB1.out.cell (p := ⟨b1, o1 + j * 4 + 1, none⟩) hb1).trans u1
    have x2 : w1.cell? ⟨b1, o1 + j * 4 + 2, none⟩ = _ := (HB1.out.cell (p := ⟨b1, o1 + j * 4 + 2, none⟩) hb1).trans u2
    have x3 : w1.cell? ⟨b1, o1 + j * 4 + 3, none⟩ = _ := (HB1.out.cell (p := ⟨b1, o1 + j * 4 + 3, none⟩) hb1).trans u3
    have HRJ := Lib.hid (H.out.row.refs _ (List.getElem_mem hj))
    have hsum := mem_sum (fun x : Tx => x.refs.length) M.txns (xs[j]).tx (by rw [H.out.txs]; exact List.mem_map.2 ⟨_, List.getElem_mem hj, rfl⟩)
    obtain ⟨xv, hxv⟩ : ∃ xv, xv = xs[j] := ⟨_, rfl⟩
    rw [← hxv] at x0 x1 x2 x3 HRJ hjx hsum
    obtain ⟨q0, qA, qn, qc, ql, qa, qr⟩ := xv
    dsimp only at x0 x1 x2 x3
    have HSJ : Hid (qr.length ≤ M.bulk) := Lib.hid hsum
    have HX : Hid (x = ⟨q0, qr, ql, qa⟩) := Lib.hid hjx.symm
    have HL := Lib.hid hl
    have HJ := Lib.hid hj
    have HRJ : Hid (RR w w.heap.size (.slice qA qn qc) qr) := HRJ
    obtain ⟨eA, ec, ee, he1, he2, he3, HE2⟩ := HRJ.out.open_
    injection ee with ea eb ec'
    subst eb
    subst ea
    subst ec'
    clear hxv hl hlt hjx hjl u0 u1 u2 u3 hx1 hj hsum
    have HA1 := Lib.hid ((HL1.out.alloc (.cells #[.int .i64 q0, .slice qA qr.length qc, .bool ql, .int .i64 qa] 73)).alloc (.cells #[] 62))
    have HA2 := Lib.hid ((HL2.out.alloc (.cells #[.int .i64 q0, .slice qA qr.length qc, .bool ql, .int .i64 qa] 73)).alloc (.cells #[] 62))
    have HA3 := Lib.hid ((Blk.new w1 73 #[.int .i64 q0, .slice qA qr.length qc, .bool ql, .int .i64 qa]).alloc (.cells #[] 62))
    have HA4 := Lib.hid ((HB1.out.alloc (by omega) (.cells #[.int .i64 q0, .slice qA qr.length qc, .bool ql, .int .i64 qa] 73)).alloc (by simp; omega) (.cells #[] 62))
    have hl0 : OK encR 2 62 ((w1.alloc (.cells #[.int .i64 q0, .slice qA qr.length qc, .bool ql, .int .i64 qa] 73)).alloc (.cells #[] 62)) (w1.heap.size + 1) (.slice (some ⟨w1.heap.size + 1, 0, none⟩) 0 0) (qr.take 0) := by
      have := World.ownsRow_made (e := 62) (size := 2) (w1.alloc (.cells #[.int .i64 q0, .slice qA qr.length qc, .bool ql, .int .i64 qa] 73)) #[] 0 (base := w1.heap.size + 1) (by simp) (by simp) (by simp)
      have hz : (w1.alloc (.cells #[.int .i64 q0, .slice qA qr.length qc, .bool ql, .int .i64 qa] 73)).heap.size = w1.heap.size + 1 := by simp
      rw [hz] at this
      exact ⟨by simp, this⟩
    have HL0 := Lib.hid hl0
    clear hl0
    go_wp2_with fail
    go_loopw [9, 10] (fun l i wr => ∃ (m : Nat) (vA : Option Addr) (vn vc : Nat), m ≤ qr.length ∧ i = .int .i64 m ∧ l = .slice vA vn vc ∧ Hid (OK encR 2 62 wr (w1.heap.size + 1) (.slice vA vn vc) (qr.take m)) ∧ Hid (Blk wr w.heap.size 28 #[.slice (some ⟨b1, o1, none⟩) N c, .int .i64 M.last]) ∧ Hid (Blk wr (w.heap.size + 1) 28 #[.slice none 0 0, .int .i64 0]) ∧ Hid (Blk wr w1.heap.size 73 #[.int .i64 q0, .slice qA qr.length qc, .bool ql, .int .i64 qa]) ∧ Hid (Below w.heap.size w wr)) (fun _ i _ => qr.length - (intOf i).toNat)
    case atStart => exact ⟨0, _, _, _, Nat.zero_le _, rfl, rfl, HL0, HA1, HA2, HA3, HA4⟩
    case round =>
      obtain ⟨m, vA, vn, vc, hm, rfl, rfl, HLI, HB1r, HB2r, HB3r, HB⟩ := hrel
      have hw3 := HB3r.out.lt
      have z1x : wr.cell? ⟨w1.heap.size, 1, none⟩ = some (.slice qA qr.length qc) := HB3r.out.cell 1
      have HLNm : Hid ((qr.take m).length + 1 ≤ 1000000) := Lib.hid (by simp only [List.length_take]; have := HROOM.out; have := HSJ.out; omega)
      have hb3 : w1.heap.size + 1 ≤ wr.heap.size := by omega
      have hm9 : m ≤ 800000 := by have := HROOM.out; have := HSJ.out; omega
      by_cases hmo : m < qr.length
      · obtain ⟨b2, o2, rfl, hb2, hx2⟩ := HE2.out m hmo
        obtain ⟨u0, u1⟩ := cellR hx2
        have HT : Hid (qr.take (m + 1) = qr.take m ++ [qr[m]]) := Lib.hid (List.take_succ_eq_append_getElem hmo)
        have x0 : wr.cell? ⟨b2, o2 + m * 2, none⟩ = _ := (HB.out.cell (p := ⟨b2, o2 + m * 2, none⟩) hb2).trans u0
        have x1 : wr.cell? ⟨b2, o2 + m * 2 + 1, none⟩ = _ := (HB.out.cell (p := ⟨b2, o2 + m * 2 + 1, none⟩) hb2).trans u1
        obtain ⟨r, hr⟩ : ∃ r, r = qr[m] := ⟨_, rfl⟩
        rw [← hr] at x0 x1 HT
        obtain ⟨r0, r1⟩ := r
        dsimp only at x0 x1
        clear hr u0 u1 hx2
        go_wp2_with (first
          | (at_builtin; refine wpList_appE etR encR_len encR_one (y := ⟨r0, r1⟩) rfl (.tmp 31) (.tmp 37) rfl rfl (HLI.out.alloc _) wr.heap.size rfl (oneR wr ⟨r0, r1⟩ _) HLNm.out (Nat.le_trans hb3 (base1 (Nat.le_refl _) _)) ?_; intro v6 w6 k1 k2 k3; obtain ⟨A6, c6, rfl, -, -, -, -⟩ := (k1.rk encR_len (Nat.le_refl _)).open_; have K1 := Lib.hid k1; have K2 := Lib.hid k2; clear k1 k2 k3))
        go_roundw
        case rel =>
          have k1 := K1.out
          rw [← HT.out] at k1
          rw [show (qr.take (m + 1)).length = m + 1 by rw [List.length_take]; omega] at k1
          exact ⟨m + 1, _, _, _, by omega, by go_num, rfl, Lib.hid k1, Lib.hid (HB1r.out.low HLI.out (by omega) K2.out), Lib.hid (HB2r.out.low HLI.out (by omega) K2.out), Lib.hid (HB3r.out.low HLI.out (by omega) K2.out), Lib.hid (below_low HB.out (by omega) HLI.out K2.out)⟩
        case measure => simp [intOf]; omega
      · have e : qr.take m = qr := List.take_of_length_le (by omega)
        have hli := HLI.out
        rw [e] at hli
        have HLI2 : Hid (OK encR 2 62 wr (w1.heap.size + 1) (.slice vA vn vc) (qr ++ rs.take 0)) := Lib.hid (by rw [List.take_zero, List.append_nil]; exact hli)
        clear e hli HLI
        go_wp2_with fail
        go_loopw [9, 11] (fun l i wr => ∃ (m : Nat) (vA : Option Addr) (vn vc : Nat), m ≤ rs.length ∧ i = .int .i64 m ∧ l = .slice vA vn vc ∧ Hid (OK encR 2 62 wr (w1.heap.size + 1) (.slice vA vn vc) (qr ++ rs.take m)) ∧ Hid (Blk wr w.heap.size 28 #[.slice (some ⟨b1, o1, none⟩) N c, .int .i64 M.last]) ∧ Hid (Blk wr (w.heap.size + 1) 28 #[.slice none 0 0, .int .i64 0]) ∧ Hid (Blk wr w1.heap.size 73 #[.int .i64 q0, .slice qA qr.length qc, .bool ql, .int .i64 qa]) ∧ Hid (Below w.heap.size w wr)) (fun _ i _ => rs.length - (intOf i).toNat)
        case atStart => exact ⟨0, _, _, _, Nat.zero_le _, rfl, rfl, HLI2, HB1r, HB2r, HB3r, HB⟩
        case round =>
          obtain ⟨m, vA, vn, vc, hm, rfl, rfl, HLI, HB1r, HB2r, HB3r, HB⟩ := hrel
          have hw3 := HB3r.out.lt
          have z1x : wr.cell? ⟨w1.heap.size, 1, none⟩ = some (.slice qA qr.length qc) := HB3r.out.cell 1
          have HLNm : Hid ((qr ++ rs.take m).length + 1 ≤ 1000000) := Lib.hid (by simp only [List.length_append, List.length_take]; have := HROOM.out; have := HSJ.out; omega)
          have hb3 : w1.heap.size + 1 ≤ wr.heap.size := by omega
          have hm9 : m ≤ 800000 := by have := HROOM.out; have := HSJ.out; omega
          by_cases hmo : m < rs.length
          · obtain ⟨b2, o2, rfl, hb2, hx2⟩ := HD.out m hmo
            obtain ⟨u0, u1⟩ := cellR hx2
            have HT : Hid (rs.take (m + 1) = rs.take m ++ [rs[m]]) := Lib.hid (List.take_succ_eq_append_getElem hmo)
            have x0 : wr.cell? ⟨b2, o2 + m * 2, none⟩ = _ := (HB.out.cell (p := ⟨b2, o2 + m * 2, none⟩) hb2).trans u0
            have x1 : wr.cell? ⟨b2, o2 + m * 2 + 1, none⟩ = _ := (HB.out.cell (p := ⟨b2, o2 + m * 2 + 1, none⟩) hb2).trans u1
            obtain ⟨r, hr⟩ : ∃ r, r = rs[m] := ⟨_, rfl⟩
            rw [← hr] at x0 x1 HT
            obtain ⟨r0, r1⟩ := r
            dsimp only at x0 x1
            clear hr u0 u1 hx2
            go_wp2_with (first
              | (at_builtin; refine wpList_appE etR encR_len encR_one (y := ⟨r0, r1⟩) rfl (.tmp 45) (.tmp 50) rfl rfl (HLI.out.alloc _) wr.heap.size rfl (oneR wr ⟨r0, r1⟩ _) HLNm.out (Nat.le_trans hb3 (base1 (Nat.le_refl _) _)) ?_; intro v6 w6 k1 k2 k3; obtain ⟨A6, c6, rfl, -, -, -, -⟩ := (k1.rk encR_len (Nat.le_refl _)).open_; have K1 := Lib.hid k1; have K2 := Lib.hid k2; clear k1 k2 k3))
            go_roundw
            case rel =>
              have k1 := K1.out
              rw [List.append_assoc] at k1
              rw [← HT.out] at k1
              rw [show (qr ++ rs.take (m + 1)).length = qr.length + (m + 1) by rw [List.length_append, List.length_take]; omega] at k1
              exact ⟨m + 1, _, _, _, by omega, by go_num, rfl, Lib.hid k1, Lib.hid (HB1r.out.low HLI.out (by omega) K2.out), Lib.hid (HB2r.out.low HLI.out (by omega) K2.out), Lib.hid (HB3r.out.low HLI.out (by omega) K2.out), Lib.hid (below_low HB.out (by omega) HLI.out K2.out)⟩
            case measure => simp [intOf]; omega
          · have e : rs.take m = rs := List.take_of_length_le (by omega)
            have hli := HLI.out
            rw [e] at hli
            obtain ⟨A7, c7, hv7, -, -, -, -⟩ := (hli.rk encR_len (Nat.le_refl _)).open_
            injection hv7 with ea7 eb7 ec7
            rw [List.length_append] at eb7
            subst eb7
            clear ea7 ec7
            have HLI3 := Lib.hid hli
            have t1 := HB1r.out.cell 0
            have t2 := HB1r.out.cell 1
            have s0 := HB3r.out.cell 0
            have s1 := HB3r.out.cell 1
            have s2 := HB3r.out.cell 2
            have s3 := HB3r.out.cell 3
            have s4 := HB3r.out.frozen 1
            clear e hli HLI
            go_wp2_with fail
            have HW3 : Hid (Below w.heap.size w (wr.setCell ⟨w1.heap.size, 1, none⟩ (.slice vA (qr.length + rs.length) vc))) := Lib.hid (HB.out.setCell (p := ⟨w1.heap.size, 1, none⟩) (by dsimp only; omega) _)
            have ho3 := HLI3.out.setBlk HB3r.out (by decide) 1 (.slice vA (qr.length + rs.length) vc)
            have hput := rPut_any _ (.slice (some ⟨b1, o1, none⟩) xs.length c) xs M.last (H.out.row.below HW3.out).rk (by rw [← HN.out]; exact hsm) j HJ.out ⟨q0, vA, qr.length + rs.length, vc, ql, qa, qr ++ rs⟩
            rw [← HN.out] at hput
            refine hput.mono ?_
            rintro e w2 ⟨v', rfl, hrow, hb2⟩
            have HB2 := Lib.hid (HW3.out.trans (hb2.mono HW3.out.size))
            have hk2 := HB2r.out.far (p := ⟨w1.heap.size, 1, none⟩) (show w.heap.size + 1 ≠ w1.heap.size by omega) (.slice vA (qr.length + rs.length) vc)
            have HM2 := Lib.hid (hk2.below hb2 hk2.lt)
            have hnew : RR w2 w2.heap.size (.slice vA (qr.length + rs.length) vc) (qr ++ rs) := ((ho3.rk encR_len (Nat.le_refl _)).below hb2).more hb2.size
            have hoff : Off (fun k => k = w.heap.size + 1) (.slice vA (qr.length + rs.length) vc) (qr ++ rs) := ho3.offAt (by have := HL2.out.lt; omega)
            have HNEW := Lib.hid hnew
            have HOFF := Lib.hid hoff
            obtain ⟨ys, hys⟩ : ∃ ys, ys = xs.set j ⟨q0, vA, qr.length + rs.length, vc, ql, qa, qr ++ rs⟩ := ⟨_, rfl⟩
            rw [← hys] at hrow
            have HYS := Lib.hid hys
            have HROW := Lib.hid hrow
            clear hb2 hput hrow p0 p1 f0 f1 hys hk2 hnew hoff ho3
            have p0 : w2.cell? ⟨w.heap.size + 1, 0, none⟩ = some (.slice none 0 0) := HM2.out.cell 0
            have p1 : w2.cell? ⟨w.heap.size + 1, 1, none⟩ = some (.int .i64 0) := HM2.out.cell 1
            have f0 : w2.frozen? ⟨w.heap.size + 1, 0, none⟩ = false := HM2.out.frozen 0
            have f1 : w2.frozen? ⟨w.heap.size + 1, 1, none⟩ = false := HM2.out.frozen 1
            obtain ⟨yA, yc, rfl, -, -, -, -⟩ := (HROW.out.rk encTx_len (Nat.le_refl _)).open_
            unfold rtV
            go_wp2_with fail
            obtain ⟨kE, rE, bE⟩ := ref_fin (last := M.last) HB2.out HM2.out (by omega) HROW.out (fun y hy => by
              rw [HYS.out] at hy
              rcases List.mem_or_eq_of_mem_set hy with hy | rfl
              · exact old_row (H.out.row.refs y hy) HB2.out (by omega)
              · exact ⟨HNEW.out, HOFF.out⟩)
            generalize (w2.setCell ⟨w.heap.size + 1, 0, none⟩ (.slice yA ys.length yc)).setCell ⟨w.heap.size + 1, 1, none⟩ (.int .i64 M.last) = WE at *
            have r0 : WE.cell? ⟨w.heap.size + 1, 0, none⟩ = some (.slice yA ys.length yc) := kE.cell 0
            have r1 : WE.cell? ⟨w.heap.size + 1, 1, none⟩ = some (.int .i64 M.last) := kE.cell 1
            refine bodyPost_ret (v := .tuple #[.agg #[.slice yA ys.length yc, .int .i64 M.last], .int .i64 0]) (by simp [results, Try.results26, go_sem, r0, r1]) rfl ?_
            refine ⟨.slice yA ys.length yc, ys, by rw [HE.out, touch_last]; rfl, ⟨rE, ?_, touch_ok H.out.ok _ HRI.out, by rw [len_touch]; have := bulk_touch M ((j : Int) + 1) rs; have := H.out.small; have := HROOM.out; omega⟩, bE⟩
            rw [touch_eq HL.out, HYS.out, ← put_txs H.out.txs]
            unfold MV.put
            rw [show ((j : Int) + 1 - 1).toNat = j by omega, HX.out]
            rfl

end Go.Proofs.Ytgahkloldpjnkaa
