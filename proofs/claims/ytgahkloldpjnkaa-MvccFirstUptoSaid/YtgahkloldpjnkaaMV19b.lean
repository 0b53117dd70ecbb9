/-
  skeinlaw14's asks: kinds 5 and 6.
-/
import Derived.Test.YtgahkloldpjnkaaMV19
import Derived.Deep.RegionHeld3
namespace Go.Proofs.Ytgahkloldpjnkaa
open Go.RowKit Go.Maps
set_option linter.unusedVariables false

theorem AskS.drew {w W : World} {g : Nat} {S : Nat → Prop} {N M' : MV} {A : Option Addr} {c : Nat} {xs : List TxV} {cs : Array Value} (h : AskS w g S N M' A c xs cs W) : AskS w g S N M' A c xs cs W.drew := h.below ⟨rfl, rfl, rfl, Nat.le_refl _, fun _ _ => rfl⟩

theorem AskS.three {w W : World} {g : Nat} {S : Nat → Prop} {N M' : MV} {A : Option Addr} {c : Nat} {xs : List TxV} {cs : Array Value} (h : AskS w g S N M' A c xs cs W) : W.cell? ⟨w.heap.size, 0, none⟩ = some (.slice A xs.length c) ∧ W.cell? ⟨w.heap.size, 1, none⟩ = some (.int .i64 M'.last) ∧ W.cell? ⟨w.heap.size + 1, 1, none⟩ = cs[1]? := ⟨h.k1.cell 0, h.k1.cell 1, h.k2.cell 1⟩

theorem AskS.three_set {w W : World} {g : Nat} {S : Nat → Prop} {N M' : MV} {A : Option Addr} {c : Nat} {xs : List TxV} {cs : Array Value} (h : AskS w g S N M' A c xs cs W) (u0 u1 : Value) : ((W.setCell ⟨w.heap.size + 1 + 1, 0, none⟩ u0).setCell ⟨w.heap.size + 1 + 1, 1, none⟩ u1).cell? ⟨w.heap.size, 0, none⟩ = some (.slice A xs.length c) ∧ ((W.setCell ⟨w.heap.size + 1 + 1, 0, none⟩ u0).setCell ⟨w.heap.size + 1 + 1, 1, none⟩ u1).cell? ⟨w.heap.size, 1, none⟩ = some (.int .i64 M'.last) ∧ ((W.setCell ⟨w.heap.size + 1 + 1, 0, none⟩ u0).setCell ⟨w.heap.size + 1 + 1, 1, none⟩ u1).cell? ⟨w.heap.size + 1, 1, none⟩ = cs[1]? :=
  ⟨(h.k1.far2 (by omega) u0 u1).cell 0, (h.k1.far2 (by omega) u0 u1).cell 1, (h.k2.far2 (by omega) u0 u1).cell 1⟩

set_option maxRecDepth 100000 in
set_option maxHeartbeats 2000000 in
theorem asks_5 (w : World) (g : Nat) (S : Nat → Prop) (M : MV) (hT : Tb w g S M) (v : Value) (xs : List TxV) (M' : MV) (h : RTab w v xs M') (n : Int) (rA : Option Addr) (rn rc : Nat) (hn : I64 n) :
    Calls Try.prog 11 #[.pointer (some ⟨g, 0, none⟩), rtV v M'.last, .agg #[.int .i64 5, .int .i64 n, .slice rA rn rc]] w (AskOut w g S M M' (M' = M)) := by
  obtain ⟨A, c, hv, hc1, hc2, hc3, HC⟩ := h.row.rk.open_
  subst hv
  obtain ⟨HS0, hT1⟩ := ask_start hT h #[.int .i64 5, .int .i64 n, .slice rA rn rc]
  have hbW := askW_below w A xs.length c M'.last #[.int .i64 5, .int .i64 n, .slice rA rn rc]
  obtain ⟨W, hW⟩ : ∃ W, W = askW w A xs.length c M'.last #[.int .i64 5, .int .i64 n, .slice rA rn rc] := ⟨_, rfl⟩
  rw [← hW] at HS0 hT1 hbW
  have HW := Lib.hid hW
  unfold askW at HW
  have HS := Lib.hid HS0
  have HT := Lib.hid hT1
  have HBW := Lib.hid hbW
  have H := Lib.hid h
  obtain ⟨z0, z1, o0, o1, o2, p0, p1, f0, f1⟩ := HS0.cells
  change _ = some (Value.int .i64 5) at o0
  change _ = some (Value.int .i64 n) at o1
  change _ = some (Value.slice rA rn rc) at o2
  have HT0 := Lib.hid hT
  clear hW HS0 hT1 hbW hT h
  obtain ⟨a0, ha0⟩ : ∃ x, x = M.tryE n := ⟨_, rfl⟩
  obtain ⟨b0, hb0⟩ : ∃ x, x = M'.tryE n := ⟨_, rfl⟩
  have HP : Hid (M' = M → a0 = b0) := Lib.hid (fun e => by rw [ha0, hb0, e])
  have HCT : Hid (∀ wx, Tb wx g S M → Calls Try.prog 24 #[.pointer (some ⟨g, 0, none⟩), .int .i64 n] wx fun e w' => e = .returned (.int .i64 a0) ∧ Below wx.heap.size wx w') := Lib.hid (fun wx hx => by rw [ha0]; exact tTry wx g S M hx n hn)
  have HCR : Hid (∀ wx, AskS w g S M M' A c xs #[.int .i64 5, .int .i64 n, .slice rA rn rc] wx → Calls Try.prog 29 #[.agg #[.slice A xs.length c, .int .i64 M'.last], .int .i64 n] wx fun e w' => e = .returned (.int .i64 b0) ∧ Below wx.heap.size wx w') := Lib.hid (fun wx hx => by rw [hb0]; exact rTry_any wx _ xs M' hx.rt n)
  have HTD : Hid (Tb W.drew g S M) := Lib.hid (HT.out.below ⟨rfl, rfl, rfl, Nat.le_refl _, fun _ _ => rfl⟩)
  have HD := Lib.hid HS.out.drew
  obtain ⟨-, -, -, -, -, p0d, p1d, f0d, f1d⟩ := HD.out.cells
  have hsz := HS.out.size
  clear ha0 hb0
  unfold rtV
  go_enter Try.func11, Try.ntmps11
  go_wp2_with fail
  rw [← HW.out]
  go_region_held3 (fun w' => w'.cell? ⟨w.heap.size, 0, none⟩ = some (.slice A xs.length c) ∧ w'.cell? ⟨w.heap.size, 1, none⟩ = some (.int .i64 M'.last) ∧ w'.cell? ⟨w.heap.size + 1, 1, none⟩ = some (.int .i64 n)) (first | exact HZ.out.three | exact HD.out.three | exact HZ.out.three_set _ _)
    (first | (go_at_call 24; refine (HCT.out _ (by first | exact HTZ.out | exact HTD.out)).mono ?_; rintro e wz ⟨rfl, hbz⟩; have hz := AskS.below (by first | exact HZ.out | exact HD.out : AskS w g S M M' A c xs #[.int .i64 5, .int .i64 n, .slice rA rn rc] _) hbz; have htz := Tb.below (by first | exact HTZ.out | exact HTD.out : Tb _ g S M) hbz; have HZ := Lib.hid hz; have HTZ := Lib.hid htz; obtain ⟨-, -, -, -, -, p0, p1, f0, f1⟩ := hz.cells; have hsz := hz.size; clear hz htz hbz) | (go_at_call 29; refine (HCR.out _ (by first | exact HZ.out | exact HD.out)).mono ?_; rintro e wz ⟨rfl, hbz⟩; have hz := AskS.below (by first | exact HZ.out | exact HD.out : AskS w g S M M' A c xs #[.int .i64 5, .int .i64 n, .slice rA rn rc] _) hbz; have htz := Tb.below (by first | exact HTZ.out | exact HTD.out : Tb _ g S M) hbz; have HZ := Lib.hid hz; have HTZ := Lib.hid htz; obtain ⟨-, -, -, -, -, p0, p1, f0, f1⟩ := hz.cells; have hsz := hz.size; clear hz htz hbz))
  all_goals go_wp2_with fail
  all_goals
    rw [show w.heap.size + 1 + 1 = w.heap.size + 2 from rfl]
    obtain ⟨tE, kE⟩ := HZ.out.fin (.slice A xs.length c) (.int .i64 M'.last)
    have rE := HZ.out.rt.setRes HZ.out.k3 (.slice A xs.length c) (.int .i64 M'.last)
    generalize ((wz).setCell ⟨w.heap.size + 2, 0, none⟩ (.slice A xs.length c)).setCell ⟨w.heap.size + 2, 1, none⟩ (.int .i64 M'.last) = WE at *
    have r0 : WE.cell? ⟨w.heap.size + 2, 0, none⟩ = some (.slice A xs.length c) := kE.cell 0
    have r1 : WE.cell? ⟨w.heap.size + 2, 1, none⟩ = some (.int .i64 M'.last) := kE.cell 1
    refine bodyPost_ret (v := .tuple #[.agg #[.slice A xs.length c, .int .i64 M'.last], .bool (a0 == b0)]) (by simp [results, Try.results11, go_sem, r0, r1]) rfl ?_
    exact ⟨_, _, _, rfl, rE, tE, fun e => by rw [HP.out e]; simp⟩

set_option maxRecDepth 100000 in
set_option maxHeartbeats 2000000 in
theorem asks_6 (w : World) (g : Nat) (S : Nat → Prop) (M : MV) (hT : Tb w g S M) (v : Value) (xs : List TxV) (M' : MV) (h : RTab w v xs M') (n : Int) (rA : Option Addr) (rn rc : Nat) (hn : I64 n) :
    Calls Try.prog 11 #[.pointer (some ⟨g, 0, none⟩), rtV v M'.last, .agg #[.int .i64 6, .int .i64 n, .slice rA rn rc]] w (AskOut w g S M M' (M' = M)) := by
  obtain ⟨A, c, hv, hc1, hc2, hc3, HC⟩ := h.row.rk.open_
  subst hv
  obtain ⟨HS0, hT1⟩ := ask_start hT h #[.int .i64 6, .int .i64 n, .slice rA rn rc]
  have hbW := askW_below w A xs.length c M'.last #[.int .i64 6, .int .i64 n, .slice rA rn rc]
  obtain ⟨W, hW⟩ : ∃ W, W = askW w A xs.length c M'.last #[.int .i64 6, .int .i64 n, .slice rA rn rc] := ⟨_, rfl⟩
  rw [← hW] at HS0 hT1 hbW
  have HW := Lib.hid hW
  unfold askW at HW
  have HS := Lib.hid HS0
  have HT := Lib.hid hT1
  have HBW := Lib.hid hbW
  have H := Lib.hid h
  obtain ⟨z0, z1, o0, o1, o2, p0, p1, f0, f1⟩ := HS0.cells
  change _ = some (Value.int .i64 6) at o0
  change _ = some (Value.int .i64 n) at o1
  change _ = some (Value.slice rA rn rc) at o2
  have HT0 := Lib.hid hT
  have hlen := h.len
  have hsm := h.small.1
  clear hW HS0 hT1 hbW hT h
  unfold rtV
  go_enter Try.func11, Try.ntmps11
  go_wp2_with fail
  rw [← HW.out]
  refine (tStart W g S M HT.out n hn).mono ?_
  rintro e w1 ⟨rfl, hb1⟩
  have HS1 := Lib.hid (HS.out.below hb1)
  clear hb1 z0 z1 o0 o1 o2 p0 p1 f0 f1
  have hsz := HS1.out.size
  obtain ⟨z0, z1, o0, o1, o2, p0, p1, f0, f1⟩ := HS1.out.cells
  change _ = some (Value.int .i64 6) at o0
  change _ = some (Value.int .i64 n) at o1
  change _ = some (Value.slice rA rn rc) at o2
  have hcall := rIs_any w1 _ xs M' HS1.out.rt n
  unfold rtV at hcall
  go_wp2_with fail
  refine hcall.mono ?_
  rintro e w2 ⟨rfl, hb2⟩
  have HS2 := Lib.hid (HS1.out.below hb2)
  clear hb2 hcall hsz z0 z1 o0 o1 o2 p0 p1 f0 f1
  have hsz := HS2.out.size
  obtain ⟨z0, z1, o0, o1, o2, p0, p1, f0, f1⟩ := HS2.out.cells
  change _ = some (Value.int .i64 6) at o0
  change _ = some (Value.int .i64 n) at o1
  change _ = some (Value.slice rA rn rc) at o2
  obtain ⟨a0, ha0⟩ : ∃ x, x = M.startOf n := ⟨_, rfl⟩
  obtain ⟨a1, ha1⟩ : ∃ x, x = M.touchE n := ⟨_, rfl⟩
  rw [← ha0, ← ha1]
  cases hl : M'.live? n with
  | none =>
    have HP : Hid (M' = M → a0 = 0 ∧ a1 = 141) := Lib.hid (fun e => by rw [ha0, ha1, ← e]; exact ⟨by unfold MV.startOf; rw [hl], touchE_none hl⟩)
    simp only [Option.isSome_none]
    clear hl ha0 ha1
    by_cases hab : a0 = 0
    · have hab2 : (a0 == 0) = true := by simpa using hab
      subst hab
      go_wp2_with fail
      rw [show w.heap.size + 1 + 1 = w.heap.size + 2 from rfl]
      obtain ⟨tE, kE⟩ := HS2.out.fin (.slice A xs.length c) (.int .i64 M'.last)
      have rE := HS2.out.rt.setRes HS2.out.k3 (.slice A xs.length c) (.int .i64 M'.last)
      generalize ((w2).setCell ⟨w.heap.size + 2, 0, none⟩ (.slice A xs.length c)).setCell ⟨w.heap.size + 2, 1, none⟩ (.int .i64 M'.last) = WE at *
      have r0 : WE.cell? ⟨w.heap.size + 2, 0, none⟩ = some (.slice A xs.length c) := kE.cell 0
      have r1 : WE.cell? ⟨w.heap.size + 2, 1, none⟩ = some (.int .i64 M'.last) := kE.cell 1
      refine bodyPost_ret (v := .tuple #[.agg #[.slice A xs.length c, .int .i64 M'.last], .bool (a1 == 141)]) (by simp [results, Try.results11, go_sem, r0, r1]) rfl ?_
      exact ⟨_, _, _, rfl, rE, tE, fun e => by rw [(HP.out e).2]; rfl⟩
    · have hab2 : (a0 == 0) = false := by simpa using hab
      go_wp2_with fail
      rw [show w.heap.size + 1 + 1 = w.heap.size + 2 from rfl]
      obtain ⟨tE, kE⟩ := HS2.out.fin (.slice A xs.length c) (.int .i64 M'.last)
      have rE := HS2.out.rt.setRes HS2.out.k3 (.slice A xs.length c) (.int .i64 M'.last)
      generalize ((w2).setCell ⟨w.heap.size + 2, 0, none⟩ (.slice A xs.length c)).setCell ⟨w.heap.size + 2, 1, none⟩ (.int .i64 M'.last) = WE at *
      have r0 : WE.cell? ⟨w.heap.size + 2, 0, none⟩ = some (.slice A xs.length c) := kE.cell 0
      have r1 : WE.cell? ⟨w.heap.size + 2, 1, none⟩ = some (.int .i64 M'.last) := kE.cell 1
      refine bodyPost_ret (v := .tuple #[.agg #[.slice A xs.length c, .int .i64 M'.last], .bool (false)]) (by simp [results, Try.results11, go_sem, r0, r1]) rfl ?_
      exact ⟨_, _, _, rfl, rE, tE, fun e => absurd (HP.out e).1 hab⟩
  | some x =>
    simp only [Option.isSome_some]
    have hlt := live_lt hl
    obtain ⟨j, rfl⟩ : ∃ j : Nat, n = (j : Int) + 1 := ⟨(n - 1).toNat, by omega⟩
    obtain ⟨hj, hjx, hjl⟩ := HS2.out.rt.some_ hl
    obtain ⟨A9, c9, e9, -, -, -, HCX⟩ := HS2.out.rt.row.rk.open_
    injection e9 with e91 e92 e93
    subst e91
    clear e93
    obtain ⟨b1, q1, rfl, hb1, hx1⟩ := HCX.out j hj
    obtain ⟨u0, u1, u2, u3⟩ := cellTx hx1
    have hst : (xs[j]).start = x.start := by rw [← hjx]; rfl
    rw [hst] at u0
    have HP : Hid (M' = M → a0 = x.start ∧ a1 = 0) := Lib.hid (fun e => by rw [ha0, ha1, ← e]; exact ⟨by unfold MV.startOf; rw [hl], touchE_live hl⟩)
    obtain ⟨q0, hq0⟩ : ∃ q, q = x.start := ⟨_, rfl⟩
    rw [← hq0] at u0 HP
    have hjN : j < xs.length := hj
    have hj3 : (j : Int) ≤ 400000 := by omega
    have HSD := Lib.hid HS2.out.drew
    clear hl ha0 ha1 hlt hjx hjl u1 u2 u3 hx1 hj hst hq0
    by_cases hab : a0 = q0
    · subst hab
      have hab2 : (a0 == a0) = true := by simp
      go_wp2_with fail
      go_region
      go_wp2_with fail
      rw [show w.heap.size + 1 + 1 = w.heap.size + 2 from rfl]
      rw [show ((w2.setCell ⟨w.heap.size + 2, 0, none⟩ (.slice (some ⟨b1, q1, none⟩) xs.length c)).setCell ⟨w.heap.size + 2, 1, none⟩ (.int .i64 M'.last)).drew = ((w2.drew.setCell ⟨w.heap.size + 2, 0, none⟩ (.slice (some ⟨b1, q1, none⟩) xs.length c)).setCell ⟨w.heap.size + 2, 1, none⟩ (.int .i64 M'.last)) from rfl]
      obtain ⟨tE, kE⟩ := HSD.out.fin (.slice (some ⟨b1, q1, none⟩) xs.length c) (.int .i64 M'.last)
      have rE := HSD.out.rt.setRes HSD.out.k3 (.slice (some ⟨b1, q1, none⟩) xs.length c) (.int .i64 M'.last)
      generalize ((w2.drew).setCell ⟨w.heap.size + 2, 0, none⟩ (.slice (some ⟨b1, q1, none⟩) xs.length c)).setCell ⟨w.heap.size + 2, 1, none⟩ (.int .i64 M'.last) = WE at *
      have r0 : WE.cell? ⟨w.heap.size + 2, 0, none⟩ = some (.slice (some ⟨b1, q1, none⟩) xs.length c) := kE.cell 0
      have r1 : WE.cell? ⟨w.heap.size + 2, 1, none⟩ = some (.int .i64 M'.last) := kE.cell 1
      refine bodyPost_ret (v := .tuple #[.agg #[.slice (some ⟨b1, q1, none⟩) xs.length c, .int .i64 M'.last], .bool (a1 == 0)]) (by simp [results, Try.results11, go_sem, r0, r1]) rfl ?_
      exact ⟨_, _, _, rfl, rE, tE, fun e => by rw [(HP.out e).2]; rfl⟩
    · have hab2 : (a0 == q0) = false := by simpa using hab
      go_wp2_with fail
      go_region
      go_wp2_with fail
      rw [show w.heap.size + 1 + 1 = w.heap.size + 2 from rfl]
      rw [show ((w2.setCell ⟨w.heap.size + 2, 0, none⟩ (.slice (some ⟨b1, q1, none⟩) xs.length c)).setCell ⟨w.heap.size + 2, 1, none⟩ (.int .i64 M'.last)).drew = ((w2.drew.setCell ⟨w.heap.size + 2, 0, none⟩ (.slice (some ⟨b1, q1, none⟩) xs.length c)).setCell ⟨w.heap.size + 2, 1, none⟩ (.int .i64 M'.last)) from rfl]
      obtain ⟨tE, kE⟩ := HSD.out.fin (.slice (some ⟨b1, q1, none⟩) xs.length c) (.int .i64 M'.last)
      have rE := HSD.out.rt.setRes HSD.out.k3 (.slice (some ⟨b1, q1, none⟩) xs.length c) (.int .i64 M'.last)
      generalize ((w2.drew).setCell ⟨w.heap.size + 2, 0, none⟩ (.slice (some ⟨b1, q1, none⟩) xs.length c)).setCell ⟨w.heap.size + 2, 1, none⟩ (.int .i64 M'.last) = WE at *
      have r0 : WE.cell? ⟨w.heap.size + 2, 0, none⟩ = some (.slice (some ⟨b1, q1, none⟩) xs.length c) := kE.cell 0
      have r1 : WE.cell? ⟨w.heap.size + 2, 1, none⟩ = some (.int .i64 M'.last) := kE.cell 1
      refine bodyPost_ret (v := .tuple #[.agg #[.slice (some ⟨b1, q1, none⟩) xs.length c, .int .i64 M'.last], .bool (false)]) (by simp [results, Try.results11, go_sem, r0, r1]) rfl ?_
      exact ⟨_, _, _, rfl, rE, tE, fun e => absurd (HP.out e).1 hab⟩

end Go.Proofs.Ytgahkloldpjnkaa
