/-
  The walk of disk.Load.
-/
import Derived.Test.YtbagmmncjmbboaaGreatD10
namespace Go.Proofs.YtbagmmncjmbboaaGreat
open Go.RowKit Go.Maps
set_option linter.unusedVariables false

/-- The sectors when k of them have their bytes. -/
def loadMid (l : List Nat) (k : Nat) : List (List Nat) := (List.range (secsOf l)).map fun i => if i < k then pad ((l.drop (i * 512)).take 512) else sec0

theorem loadMid_len (l : List Nat) (k : Nat) : (loadMid l k).length = secsOf l := by unfold loadMid; simp

theorem loadMid_get (l : List Nat) (k i : Nat) (hi : i < secsOf l) : (loadMid l k)[i]? = some (if i < k then pad ((l.drop (i * 512)).take 512) else sec0) := by unfold loadMid; simp [hi]

theorem loadMid_zero (l : List Nat) : loadMid l 0 = List.replicate (secsOf l) sec0 := by
  apply List.ext_getElem?
  intro i
  by_cases hi : i < secsOf l
  · rw [loadMid_get l 0 i hi, List.getElem?_replicate, if_pos hi]; simp
  · rw [List.getElem?_eq_none (by rw [loadMid_len]; omega), List.getElem?_eq_none (by simp; omega)]

theorem loadMid_step (l : List Nat) (k : Nat) (hk : k < secsOf l) : (loadMid l k).set k (over (l.drop (k * 512)) sec0) = loadMid l (k + 1) := by
  apply List.ext_getElem?
  intro i
  by_cases hi : i < secsOf l
  · rw [loadMid_get l (k + 1) i hi]
    by_cases e : i = k
    · subst e
      rw [List.getElem?_set_self (by rw [loadMid_len]; exact hi), over_sec0]
      simp
    · rw [List.getElem?_set_ne (Ne.symm e), loadMid_get l k i hi]
      by_cases h1 : i < k
      · rw [if_pos h1, if_pos (by omega)]
      · rw [if_neg h1, if_neg (by omega)]
  · rw [List.getElem?_eq_none (by rw [List.length_set, loadMid_len]; omega), List.getElem?_eq_none (by rw [loadMid_len]; omega)]

theorem loadMid_all (l : List Nat) : loadMid l (secsOf l) = (DS.load l).safe := by
  unfold loadMid DS.load
  dsimp only
  refine List.map_congr_left fun i hi => ?_
  rw [if_pos (List.mem_range.1 hi)]

theorem RB.drop {w : World} {B : Nat} {c : Nat} {l : List Nat} {b off k : Nat} (h : RB w B (.slice (some ⟨b, off, none⟩) l.length c) l) (hk : k < l.length) : RB w B (.slice (some ⟨b, off + k, none⟩) (l.length - k) (c - k)) (l.drop k) := by
  obtain ⟨h1, h2, A', c', e, h3, h4, h5⟩ := h
  injection e with e1 e2 e3
  subst e1 e3
  refine ⟨fun x hx => h1 x (List.mem_of_mem_drop hx), by rw [List.length_drop]; omega, some ⟨b, off + k, none⟩, c - k, by rw [List.length_drop], by rw [List.length_drop]; omega, by omega, ?_⟩
  rcases h5 with rfl | ⟨b', off', e, hb, hc⟩
  · simp at hk
  · injection e with e
    injection e with e1 e2
    subst e1 e2
    refine .inr ⟨b, off + k, rfl, hb, fun j x hx => ?_⟩
    rw [List.getElem?_drop] at hx
    have := hc (k + j) x hx
    rw [← Nat.add_assoc] at this
    exact this

theorem still_sliceB {ops : Array Oper} {rest : List Oper} {o : Oper} {a : Act} {w : World} {Q : Act → Prop} (hg : o.guard = none) (x y : Operand) (hop : o.op = .slice 22 x (some y) none none) (b off n c m : Nat) (j : Int)
    (hx : a.eval x = .slice (some ⟨b, off, none⟩) n c) (hy : a.eval y = .int .i64 j) (hj : j = (m : Int)) (hm : m ≤ n) (hc : m < c)
    (h : wpStill Tryz.prog ops w Q rest (a.put o.dst (.slice (some ⟨b, off + m, none⟩) (n - m) (c - m)))) : wpStill Tryz.prog ops w Q (o :: rest) a := by
  subst hj
  obtain ⟨i0, hi0, hz0, hz1, hz2⟩ := info_parts info5
  have hne : ¬ (c = m) := by omega
  have hadd : (⟨b, off, none⟩ : Addr).add m = ⟨b, off + m, none⟩ := Addr.add_mid b off m
  refine still_val hg (v := .slice (some ⟨b, off + m, none⟩) (n - m) (c - m)) ?_ h
  simp only [execOp, hop, Option.map_some, Option.map_none, hx, hy]
  have h1 : (0 : Int) ≤ (m : Int) := by omega
  have h2 : (m : Int) ≤ (n : Int) := by omega
  go_simp

set_option maxRecDepth 100000 in
set_option maxHeartbeats 1000000 in
theorem Load_any (w : World) (v : Value) (l : List Nat) (hv : RB w w.heap.size v l) :
    Calls Tryz.prog 39 #[v] w fun e w' => e = .returned (.pointer (some ⟨w.heap.size + 2, 0, none⟩)) ∧ DiskAt w' (w.heap.size + 2) w.heap.size (w.heap.size + 1) none (DS.load l) ∧ Below w.heap.size w w' := by
  obtain ⟨A, c, rfl, hv1, hv2, hv3, HA⟩ := hv.open_
  obtain ⟨whole, hwh⟩ : ∃ n : Nat, n = (l.length + 511) / 512 := ⟨_, rfl⟩
  have hN : secsOf l = min whole 4096 := by rw [hwh]; rfl
  have hnew : (DS.new (whole : Int)).safe = loadMid l 0 := by
    rw [loadMid_zero, hN]
    unfold DS.new
    dsimp only
    congr 1
    omega
  have hns : DS.new (whole : Int) = ⟨loadMid l 0, fun _ => none, fun _ => 0, 0, false⟩ := by rw [← hnew]; rfl
  have hb256 := hv.1
  have HB256 := Lib.hid hb256
  have HV := Lib.hid hv
  have HN := Lib.hid hN
  have HNS := Lib.hid hns
  have HWH := Lib.hid hwh
  have hw1 : whole ≤ (l.length + 511) / 512 := by omega
  clear hv hN hnew hns hb256
  have hbase : Calls Tryz.prog 74 #[.int .i64 (whole : Int)] w fun e w' => e = .returned (.pointer (some ⟨w.heap.size + 2, 0, none⟩)) ∧ DiskAt w' (w.heap.size + 2) w.heap.size (w.heap.size + 1) none ⟨loadMid l 0, fun _ => none, fun _ => 0, 0, false⟩ ∧ w'.heap.size = w.heap.size + 3 ∧ Below w.heap.size w w' := by
    have := New_any (whole : Int) w
    rw [HNS.out] at this
    exact this
  have HBASE := Lib.hid hbase
  clear hbase
  by_cases hr : l.length % 512 = 0
  · have q1 : (l.length : Int) / 512 = (whole : Int) := by omega
    have q2 : (l.length : Int) % 512 = 0 := by omega
    clear hwh hr
    go_enter Tryz.func39, Tryz.ntmps39
    go_wp2_with fail
    refine HBASE.out.mono ?_
    rintro e W0 ⟨rfl, hd0, hz0, hb0⟩
    have d0 : W0.cell? ⟨w.heap.size + 2, 0, none⟩ = some (.slice (some ⟨w.heap.size, 0, none⟩) (secsOf l) (secsOf l)) := by
      have := hd0.blk.cell 0
      simp only [loadMid_len] at this
      exact this
    have HD0 := Lib.hid hd0
    have HB0 := Lib.hid hb0
    have HZ0 := Lib.hid hz0
    have hn0 : secsOf l ≤ 4096 := by rw [HN.out]; omega
    have hsl : ∀ k, k < secsOf l → k * 512 < l.length := by intro k hk; rw [HN.out] at hk; omega
    have HSL := Lib.hid hsl
    clear hd0 hb0 hz0 hsl hw1 q1 q2
    go_wp2_with fail
    go_loopw [24] (fun i wr => ∃ k : Nat, k ≤ secsOf l ∧ i = .int .i64 k ∧ Hid (Secs wr w.heap.size (loadMid l k)) ∧ Hid (Mod (fun k => k = w.heap.size) W0 wr)) (fun i wr => secsOf l - (intOf i).toNat)
    case atStart => exact ⟨0, Nat.zero_le _, rfl, HD0.out.rows, Mod.refl _ _⟩
    case round =>
      obtain ⟨k, hk, rfl, HS, HW⟩ := hrel
      by_cases hkl : k < secsOf l
      · have hkb := HSL.out k hkl
        obtain ⟨b1, o1, rfl, hb, _⟩ := HA.out 0 (by omega)
        have hst := loadMid_step l k hkl
        have hg0 := loadMid_get l k k hkl
        rw [if_neg (Nat.lt_irrefl _)] at hg0
        have HST := Lib.hid hst
        have HG0 := Lib.hid hg0
        have hr0 : RB w w.heap.size (.slice (some ⟨b1, o1 + k * 512, none⟩) (l.length - k * 512) (c - k * 512)) (l.drop (k * 512)) := HV.out.drop hkb
        have hd2 := (HD0.out.blk.mod HW.out (by omega)).cell 0
        obtain ⟨W4, hm4, hs4, hr4, hp4, hW4⟩ : ∃ W4, Mod (fun k => k = w.heap.size) W0 W4 ∧ Secs W4 w.heap.size (loadMid l k) ∧ RB W4 w.heap.size (.slice (some ⟨b1, o1 + k * 512, none⟩) (l.length - k * 512) (c - k * 512)) (l.drop (k * 512)) ∧
            W4.cell? ⟨w.heap.size + 2, 0, none⟩ = some (.slice (some ⟨w.heap.size, 0, none⟩) (secsOf l) (secsOf l)) ∧ W4 = wr.drew := by
          refine ⟨wr.drew, HW.out.drew, ⟨HS.out.blk, HS.out.ok⟩, ?_, ?_, rfl⟩
          · have hbw : Below w.heap.size w wr.drew := (HB0.out.trans ((HW.out.drew).below (B := w.heap.size) (by have := HZ0.out; omega) (fun k e => by omega)))
            exact hr0.below hbw
          · simp only [loadMid_len] at hd2
            exact hd2
        have HM4 := Lib.hid hm4
        have HS4 := Lib.hid hs4
        have HR4 := Lib.hid hr4
        clear hst hg0 hr0 hd2 hm4 hs4 hr4 d0
        have hwr : IntKind.i64.wrap ((k : Int) * 512) = (k : Int) * 512 := by rw [IntKind.wrap_i64]; omega
        go_wp2_with fail
        refine still_tail_at 11 W4 hW4 (by kernel_rfl) (by kernel_rfl) ?_
        clear hW4
        simp only [List.take_succ_cons, List.take_zero, List.drop_succ_cons, List.drop_zero]
        iterate 10 still_step
        refine still_sliceB rfl _ _ rfl b1 o1 l.length c (k * 512) ((k : Int) * 512) rfl rfl (by omega) (by omega) (by omega) ?_
        refine wpStill_nil ?_
        go_wp2_with (first | (refine wpList_copyS_ rfl _ _ rfl w.heap.size w.heap.size (loadMid l k) k sec0 (l.drop (k * 512)) _ rfl rfl HS4.out HG0.out HR4.out ?_; intro W5 u5 hS5 hm5 hz5; have HS5 := Lib.hid hS5; have HM5 := Lib.hid hm5; clear hS5 hm5 hz5))
        go_roundw
        case rel => exact ⟨k + 1, by omega, by go_num, by rw [← HST.out]; exact HS5, HM4.out.trans' HM5.out⟩
        case measure => simp [intOf]; omega
      · obtain rfl : k = secsOf l := by omega
        have hS := HS.out
        rw [loadMid_all] at hS
        have hlen : (DS.load l).safe.length = secsOf l := by rw [← loadMid_all, loadMid_len]
        have HSF := Lib.hid hS
        have HLE := Lib.hid hlen
        clear hS hlen HS
        go_wp2_with fail
        go_ret
        have hmw := HW.out
        have hne := HD0.out.ne
        refine ⟨rfl, ⟨⟨by rw [HLE.out]; exact hn0, HSF.out.ok, fun i u h => by cases h⟩, ?_, HSF.out, ?_, .inl ⟨rfl, fun _ => rfl⟩⟩, ?_⟩
        · have := HD0.out.blk.mod hmw (by omega)
          rw [HLE.out]
          simp only [loadMid_len] at this
          exact this
        · obtain ⟨n, hp⟩ := HD0.out.pend
          exact ⟨n, hp.mod hmw (by omega)⟩
        · exact HB0.out.trans (hmw.below (by have := HZ0.out; omega) (fun k e => by omega))
  · have q1 : (l.length : Int) / 512 + 1 = (whole : Int) := by omega
    have q2 : (0 : Int) < (l.length : Int) % 512 := by omega
    clear hwh hr
    go_enter Tryz.func39, Tryz.ntmps39
    go_wp2_with fail
    refine HBASE.out.mono ?_
    rintro e W0 ⟨rfl, hd0, hz0, hb0⟩
    have d0 : W0.cell? ⟨w.heap.size + 2, 0, none⟩ = some (.slice (some ⟨w.heap.size, 0, none⟩) (secsOf l) (secsOf l)) := by
      have := hd0.blk.cell 0
      simp only [loadMid_len] at this
      exact this
    have HD0 := Lib.hid hd0
    have HB0 := Lib.hid hb0
    have HZ0 := Lib.hid hz0
    have hn0 : secsOf l ≤ 4096 := by rw [HN.out]; omega
    have hsl : ∀ k, k < secsOf l → k * 512 < l.length := by intro k hk; rw [HN.out] at hk; omega
    have HSL := Lib.hid hsl
    clear hd0 hb0 hz0 hsl hw1 q1 q2
    go_wp2_with fail
    go_loopw [24] (fun i wr => ∃ k : Nat, k ≤ secsOf l ∧ i = .int .i64 k ∧ Hid (Secs wr w.heap.size (loadMid l k)) ∧ Hid (Mod (fun k => k = w.heap.size) W0 wr)) (fun i wr => secsOf l - (intOf i).toNat)
    case atStart => exact ⟨0, Nat.zero_le _, rfl, HD0.out.rows, Mod.refl _ _⟩
    case round =>
      obtain ⟨k, hk, rfl, HS, HW⟩ := hrel
      by_cases hkl : k < secsOf l
      · have hkb := HSL.out k hkl
        obtain ⟨b1, o1, rfl, hb, _⟩ := HA.out 0 (by omega)
        have hst := loadMid_step l k hkl
        have hg0 := loadMid_get l k k hkl
        rw [if_neg (Nat.lt_irrefl _)] at hg0
        have HST := Lib.hid hst
        have HG0 := Lib.hid hg0
        have hr0 : RB w w.heap.size (.slice (some ⟨b1, o1 + k * 512, none⟩) (l.length - k * 512) (c - k * 512)) (l.drop (k * 512)) := HV.out.drop hkb
        have hd2 := (HD0.out.blk.mod HW.out (by omega)).cell 0
        obtain ⟨W4, hm4, hs4, hr4, hp4, hW4⟩ : ∃ W4, Mod (fun k => k = w.heap.size) W0 W4 ∧ Secs W4 w.heap.size (loadMid l k) ∧ RB W4 w.heap.size (.slice (some ⟨b1, o1 + k * 512, none⟩) (l.length - k * 512) (c - k * 512)) (l.drop (k * 512)) ∧
            W4.cell? ⟨w.heap.size + 2, 0, none⟩ = some (.slice (some ⟨w.heap.size, 0, none⟩) (secsOf l) (secsOf l)) ∧ W4 = wr.drew := by
          refine ⟨wr.drew, HW.out.drew, ⟨HS.out.blk, HS.out.ok⟩, ?_, ?_, rfl⟩
          · have hbw : Below w.heap.size w wr.drew := (HB0.out.trans ((HW.out.drew).below (B := w.heap.size) (by have := HZ0.out; omega) (fun k e => by omega)))
            exact hr0.below hbw
          · simp only [loadMid_len] at hd2
            exact hd2
        have HM4 := Lib.hid hm4
        have HS4 := Lib.hid hs4
        have HR4 := Lib.hid hr4
        clear hst hg0 hr0 hd2 hm4 hs4 hr4 d0
        have hwr : IntKind.i64.wrap ((k : Int) * 512) = (k : Int) * 512 := by rw [IntKind.wrap_i64]; omega
        go_wp2_with fail
        refine still_tail_at 11 W4 hW4 (by kernel_rfl) (by kernel_rfl) ?_
        clear hW4
        simp only [List.take_succ_cons, List.take_zero, List.drop_succ_cons, List.drop_zero]
        iterate 10 still_step
        refine still_sliceB rfl _ _ rfl b1 o1 l.length c (k * 512) ((k : Int) * 512) rfl rfl (by omega) (by omega) (by omega) ?_
        refine wpStill_nil ?_
        go_wp2_with (first | (refine wpList_copyS_ rfl _ _ rfl w.heap.size w.heap.size (loadMid l k) k sec0 (l.drop (k * 512)) _ rfl rfl HS4.out HG0.out HR4.out ?_; intro W5 u5 hS5 hm5 hz5; have HS5 := Lib.hid hS5; have HM5 := Lib.hid hm5; clear hS5 hm5 hz5))
        go_roundw
        case rel => exact ⟨k + 1, by omega, by go_num, by rw [← HST.out]; exact HS5, HM4.out.trans' HM5.out⟩
        case measure => simp [intOf]; omega
      · obtain rfl : k = secsOf l := by omega
        have hS := HS.out
        rw [loadMid_all] at hS
        have hlen : (DS.load l).safe.length = secsOf l := by rw [← loadMid_all, loadMid_len]
        have HSF := Lib.hid hS
        have HLE := Lib.hid hlen
        clear hS hlen HS
        go_wp2_with fail
        go_ret
        have hmw := HW.out
        have hne := HD0.out.ne
        refine ⟨rfl, ⟨⟨by rw [HLE.out]; exact hn0, HSF.out.ok, fun i u h => by cases h⟩, ?_, HSF.out, ?_, .inl ⟨rfl, fun _ => rfl⟩⟩, ?_⟩
        · have := HD0.out.blk.mod hmw (by omega)
          rw [HLE.out]
          simp only [loadMid_len] at this
          exact this
        · obtain ⟨n, hp⟩ := HD0.out.pend
          exact ⟨n, hp.mod hmw (by omega)⟩
        · exact HB0.out.trans (hmw.below (by have := HZ0.out; omega) (fun k e => by omega))

end Go.Proofs.YtbagmmncjmbboaaGreat
