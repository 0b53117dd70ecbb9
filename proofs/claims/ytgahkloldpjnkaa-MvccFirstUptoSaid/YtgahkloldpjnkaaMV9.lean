/-
  The walk of the table's end.
-/
import Derived.Test.YtgahkloldpjnkaaMV5
import Derived.Test.YtgahkloldpjnkaaMV8
namespace Go.Proofs.Ytgahkloldpjnkaa
open Go.RowKit Go.Maps
set_option linter.unusedVariables false

theorem over_eq {M : MV} {n : Int} {x : Tx} (hl : M.live? n = some x) : M.over n = M.put n { x with live := false } := by unfold MV.over; rw [hl]

theorem over_live {M : MV} {n : Int} {x : Tx} (hl : M.live? n = some x) (k : Int) : (M.over n).live? k = if k = n then none else M.live? k := by
  rw [over_eq hl, live_put hl]
  by_cases hk : k = n
  · rw [if_pos hk, if_pos hk]; rfl
  · rw [if_neg hk, if_neg hk]

theorem put_spent {M : MV} {n : Int} {x y : Tx} (hl : M.live? n = some x) (h1 : y.at_ = x.at_) (h2 : y.refs = x.refs) : (M.put n y).spent = M.spent := by
  have := sum_set (fun x => if x.at_ < 0 then 0 else x.refs.length) M.txns (n - 1).toNat x y (live_iff.1 hl).2.1
  unfold MV.spent MV.put
  dsimp only at this ⊢
  rw [h1, h2] at this
  omega

/-- A transaction with the same time and elements in the place of another one. -/
theorem com_put {M : MV} {n : Int} {x y : Tx} {cm : Rf → Option Int} (hl : M.live? n = some x) (hs : y.start = x.start) (h1 : y.at_ = x.at_) (h2 : y.refs = x.refs) (hco : ComOk M cm) : ComOk (M.put n y) cm := by
  have hhor := (live_put' hl hs).2
  have l2 := (live_iff.1 hl).2.1
  refine ⟨fun r t hrt => ?_, fun z hz r hr hlt => ?_⟩
  · obtain ⟨z, hz, e1, e2⟩ := hco.from_ r t hrt
    obtain ⟨i, hi⟩ := List.getElem?_of_mem hz
    by_cases hin : i = (n - 1).toNat
    · subst hin
      rw [l2] at hi
      injection hi with hi
      subst hi
      exact ⟨y, List.mem_of_getElem? (List.getElem?_set_self (List.getElem?_eq_some_iff.1 l2).1), h1.trans e1, by rw [h2]; exact e2⟩
    · exact ⟨z, List.mem_of_getElem? (by rw [← hi]; exact List.getElem?_set_ne (Ne.symm hin)), e1, e2⟩
  · rcases mem_set hz with rfl | hz
    · rw [h1]
      exact hco.there x (live_mem hl) r (by rw [← h2]; exact hr) (by omega)
    · exact hco.there z hz r hr (by omega)

theorem over_nums {M : MV} {n : Int} {x : Tx} (hl : M.live? n = some x) : (M.over n).nums.length ≤ M.nums.length := by
  refine (nums_nodup _).length_le_of_subset fun k hk => ?_
  rw [mem_nums, over_live hl] at hk
  rw [mem_nums]
  split at hk
  · cases hk
  · exact hk

theorem over_at {w w' : World} {g lb cb : Nat} {bl : Int → Nat} {M : MV} (h : MvAt w g lb cb bl M) {n : Int} {x : Tx} (hl : M.live? n = some x)
    (hM : MapG kI pT w' lb 8 (fun c : Int => if c = n then none else (M.live? c).map fun x => txV x.start (bl c))) (hm : Mod (fun k => k = lb) w w') :
    MvAt w' g lb cb bl (M.over n) ∧ (∀ k, OwnM g lb cb bl (M.over n) k → OwnM g lb cb bl M k) := by
  have hne := h.ne
  obtain ⟨cm, hcm, hco⟩ := h.com
  have hlive := over_live hl
  have hlive2 : ∀ k z, (M.over n).live? k = some z → M.live? k = some z := by
    intro k z hz
    rw [hlive] at hz
    split at hz
    · cases hz
    · exact hz
  have hnums := over_nums hl
  have hsp : (M.over n).spent = M.spent := by rw [over_eq hl]; exact put_spent hl rfl rfl
  have hcp : ComOk (M.over n) cm := by rw [over_eq hl]; exact com_put hl rfl rfl rfl hco
  have hlen : (M.over n).txns.length = M.txns.length := by rw [over_eq hl]; simp [MV.put]
  have hlast : (M.over n).last = M.last := by rw [over_eq hl]; rfl
  have htx : ∀ z ∈ (M.over n).txns, z ∈ M.txns ∨ z = { x with live := false } := by
    intro z hz
    rw [over_eq hl] at hz
    exact (mem_set hz).symm
  refine ⟨⟨⟨by rw [hlast]; exact h.ok.last, ?_, ?_, Nat.le_trans hnums h.ok.few, by rw [hlen]; exact h.ok.count⟩, ?_, ?_, ?_, ⟨cm, by rw [hsp]; exact hcm.mod hm (fun e => h.ap1 e.symm), hcp⟩, h.ap1, ?_, ?_⟩, ?_⟩
  · intro z hz
    rw [hlast]
    rcases htx z hz with hz | rfl
    · exact h.ok.tx z hz
    · exact h.ok.tx x (live_mem hl)
  · intro z hz r hr'
    rcases htx z hz with hz | rfl
    · exact h.ok.refs z hz r hr'
    · exact h.ok.refs x (live_mem hl) r hr'
  · rw [hlen, hlast]; exact h.blk.mod hm (fun e => hne.1 e.symm)
  · refine hM.cast fun k _ => ?_
    rw [hlive]
    by_cases hk : k = n
    · simp [hk]
    · simp [hk]
  · intro k z hz
    have h2 := hlive2 k z hz
    exact (h.sets k z h2).mod hm (h.ap2 k z h2).1
  · intro k z hz
    exact h.ap2 k z (hlive2 k z hz)
  · intro k z j y hz hy e
    exact h.ap3 k z j y (hlive2 k z hz) (hlive2 j y hy) e
  · rintro k (e | e | e | ⟨j, y, hy, e⟩)
    · exact .inl e
    · exact .inr (.inl e)
    · exact .inr (.inr (.inl e))
    · exact .inr (.inr (.inr ⟨j, y, hlive2 j y hy, e⟩))

theorem MvAt.recom {w w' : World} {g lb cb : Nat} {bl : Int → Nat} {M : MV} (h : MvAt w g lb cb bl M) (hm : Mod (fun k => k = cb) w w') {cm : Rf → Option Int} (hcm : MapG kR pI w' cb M.spent (fun r : Rf => (cm r).map (.int .i64))) (hco : ComOk M cm) : MvAt w' g lb cb bl M :=
  ⟨h.ok, h.blk.mod hm (fun e => h.ne.2.1 e.symm), h.live.mod hm h.ap1, fun n x hx => (h.sets n x hx).mod hm (h.ap2 n x hx).2, ⟨cm, hcm, hco⟩, h.ap1, h.ap2, h.ap3⟩

theorem com_drop {M : MV} {cm : Rf → Option Int} (hco : ComOk M cm) {r : Rf} {t : Int} (hr : cm r = some t) (ht : t ≤ M.hor) : ComOk M (fun q => if q = r then none else cm q) := by
  refine ⟨fun q u hq => ?_, fun z hz q hq hlt => ?_⟩
  · try dsimp only at hq
    split at hq
    · cases hq
    · exact hco.from_ q u hq
  · obtain ⟨u, hu, hle⟩ := hco.there z hz q hq hlt
    try dsimp only
    by_cases e : q = r
    · subst e
      rw [hr] at hu
      injection hu with hu
      omega
    · rw [if_neg e]; exact ⟨u, hu, hle⟩

theorem invPI (v : Value) (h : pI v) : ∃ c : Int, v = .int .i64 c := h

theorem field_tx (s : Int) (m : Option Nat) (w : World) : (Instr.field 80 (.agg #[.int .i64 s, .map m]) 0).run Try.prog w = .ok (.int .i64 s) w := by kernel_rfl

set_option maxRecDepth 100000 in
set_option maxHeartbeats 1000000 in
theorem end_any (w : World) (g lb cb : Nat) (bl : Int → Nat) (M : MV) (h : MvAt w g lb cb bl M) (n : Int) (hn : I64 n) (x : Tx) (hl : M.live? n = some x) :
    Calls Try.prog 33 #[.pointer (some ⟨g, 0, none⟩), .int .i64 n] w fun e w' => e = .returned (.tuple #[]) ∧ MvAt w' g lb cb bl (M.over n) ∧ Mod (OwnM g lb cb bl M) w w' ∧ ∀ k, OwnM g lb cb bl (M.over n) k → OwnM g lb cb bl M k := by
  have a2 : w.cell? ⟨g, 2, none⟩ = some (.map (some lb)) := h.blk.cell 2
  have hM := h.live
  have hvv : ((M.live? n).map fun x => txV x.start (bl n)).getD (.agg #[.int .i64 0, .map none]) = .agg #[.int .i64 x.start, .map (some (bl n))] := by rw [hl]; rfl
  have HM := Lib.hid hM
  have HV := Lib.hid hvv
  have H := Lib.hid h
  have HL := Lib.hid hl
  clear h hM hvv hl
  go_enter Try.func33, Try.ntmps33
  have hfd := field_tx x.start (some (bl n))
  go_wp2_with (first
    | (at_lookup; refine wpList_lookG1 (X := kI) rfl _ _ _ rfl _ Try.underlying57 (zeroT _) pT_zero lb 8 rfl HM.out n rfl hn _ HV.out ?_)
    | (at_delete; refine wpList_dropG (X := kI) rfl _ _ _ rfl _ Try.underlying57 lb 8 rfl HM.out n rfl hn ?_; intro w1 hM1 hT1))
  obtain ⟨hA1, hO1⟩ := over_at H.out HL.out hM1 (Mod.turned (Mod.refl (fun k => k = lb) w) hT1 (fun _ => rfl))
  have hm1 : Mod (OwnM g lb cb bl M) w w1 := (Mod.turned (Mod.refl (fun k => k = lb) w) hT1 (fun _ => rfl)).mono (fun k _ e => .inr (.inl e))
  have HA1 := Lib.hid hA1
  have HO1 := Lib.hid hO1
  have HM1 := Lib.hid hm1
  clear hM1 hT1 hA1 hO1 hm1 hfd
  refine (Horizon_any w1 g lb cb bl (M.over n) HA1.out).mono ?_
  rintro e w2 ⟨rfl, hb2⟩
  have hA2 := HA1.out.below hb2
  have HM2 : Hid (Mod (OwnM g lb cb bl M) w w2) := Lib.hid (HM1.out.trans' (Mod.of_below hb2 _))
  have HA2 := Lib.hid hA2
  clear hb2 hA2
  obtain ⟨h, hh⟩ : ∃ h, h = (M.over n).hor := ⟨_, rfl⟩
  have HH := Lib.hid hh
  rw [← hh]
  clear hh
  by_cases hle : h ≤ x.start
  · go_wp2
    refine bodyPost_ret (results_none Try.results33 _ _ _) rfl ?_
    exact ⟨rfl, HA2.out, HM2.out, HO1.out⟩
  · have b3 : w2.cell? ⟨g, 3, none⟩ = some (.map (some cb)) := HA2.out.blk.cell 3
    obtain ⟨cm0, hcm0, hco0⟩ := HA2.out.com
    have HC0 := Lib.hid hcm0
    have HCO0 := Lib.hid hco0
    have hgl := HA2.out.blk.lt
    have hcl := hcm0.lt
    have hgc := HA2.out.ne.2.1
    clear hcm0 hco0 a2
    go_wp2_with (at_range; refine wpList_rangeG (X := kR) rfl _ _ rfl _ Try.underlying58 cb _ rfl HC0.out ?_; intro w3 cnt3 hrg3 hcl3 hg3 hs3)
    have HR3 := Lib.hid hrg3
    have HG3 : Hid (Mod (fun k => k = cb) w2 w3) := Lib.hid (Mod.of_below (below_grownBy hg3 (Nat.le_refl _) (by simp)) _)
    clear hrg3 hg3 hcl3
    go_loopw [30] (fun _ wr => ∃ (cm : Rf → Option Int) (left : Rf → Bool) (cnt : Nat), Hid (RangeG kR pI wr cb w2.heap.size (M.over n).spent (fun r : Rf => (cm r).map (.int .i64)) left cnt) ∧ Hid (ComOk (M.over n) cm) ∧ Hid (Mod (fun k => k = cb) w2 wr)) (fun _ wr => wr.rangeLeft cb w2.heap.size)
    case atStart => exact ⟨cm0, _, cnt3, HR3, HCO0, HG3⟩
    case round =>
      obtain ⟨cm, left, cnt, HR, HCO, HW⟩ := hrel
      go_wp2_with (at_next; refine wpList_nextG (X := kR) rfl _ rfl (fun c : Int => .int .i64 c) invPI cb w2.heap.size _ left cnt rfl HR.out ?_ ?_)
      · intro hdone
        clear hdone
        go_wp2
        go_end0
        exact ⟨rfl, HA2.out.recom HW.out HR.out.map HCO.out, HM2.out.trans' (HW.out.mono (fun k _ e => .inr (.inr (.inl e)))), HO1.out⟩
      · intro r t w4 cnt4 hnx hrg4 hlt4 hg4 hs4 hen
        have HNX := Lib.hid hnx
        have HR4 := Lib.hid hrg4
        have HW4 : Hid (Mod (fun k => k = cb) w2 w4) := Lib.hid (HW.out.trans (Mod.of_grown hg4) (fun k hk e => by injection e with e; omega))
        have hcm := hnx.val
        have hi64 : I64 r.snd := hnx.ok
        have HI := Lib.hid hi64
        clear hnx hrg4 hi64 hcm
        obtain ⟨ed, id⟩ := r
        simp only [valR] at hen ⊢
        have HS4 := Lib.hid hs4
        clear hs4
        have hz4 : w2.heap.size ≤ w4.heap.size := HW4.out.size
        have hb4 : Blk w4 g 60 _ := HA2.out.blk.mod HW4.out (fun e => hgc e.symm)
        obtain ⟨W, hWe⟩ : ∃ W, W = w4.alloc (.cells #[.bool ed, .int .i64 id] 62) := ⟨_, rfl⟩
        have d3 : W.drew.cell? ⟨g, 3, none⟩ = some (.map (some cb)) := by rw [hWe]; exact (hb4.alloc _).drew.cell 3
        have hbr : Blk W.drew w4.heap.size 62 #[.bool ed, .int .i64 id] := by rw [hWe]; exact Blk.new _ _ _
        have e0 : W.drew.cell? ⟨w4.heap.size, 0, none⟩ = some (.bool ed) := hbr.cell 0
        have e1 : W.drew.cell? ⟨w4.heap.size, 1, none⟩ = some (.int .i64 id) := hbr.cell 1
        have hrW : RangeG kR pI W.drew cb w2.heap.size (M.over n).spent (fun r : Rf => (cm r).map (.int .i64)) (fun j => left j && !decide (j = ⟨ed, id⟩)) cnt4 := by
          rw [hWe]; exact HR4.out.mod (((Mod.refl (fun _ => False) _).alloc _).drew) (fun h => h) (fun h => h)
        have HRW := Lib.hid hrW
        have HWW : Hid (Mod (fun k => k = cb) w2 W) := by rw [hWe]; exact Lib.hid (HW4.out.alloc _)
        have HWe := Lib.hid hWe
        clear hWe hbr hrW hb4
        by_cases hth : t ≤ h
        · go_wp2
          rw [← HWe.out]
          obtain ⟨w5, cnt5, hrun, hr5, hc5, ht5⟩ := HRW.out.drop (X := kR) (k := (⟨ed, id⟩ : Rf)) Try.underlying58 HI.out 0
          have hrun' : (Builtin.delete_ #[58, 62] 0 #[.map (some cb), .agg #[.bool ed, .int .i64 id]]).run Try.prog W.drew = .ok (.tuple #[]) w5 := hrun
          have HR5 := Lib.hid hr5
          have HT5 := Lib.hid ht5
          have HC5 := Lib.hid hc5
          clear hrun hr5 ht5 hc5
          go_region
          go_wp2
          go_roundw
          case rel =>
            have hcm : cm ⟨ed, id⟩ = some t := by
              have := HNX.out.val
              cases hc : cm ⟨ed, id⟩ with
              | none => rw [hc] at this; cases this
              | some u =>
                rw [hc] at this
                simp only [Option.map_some, Option.some.injEq, Value.int.injEq, true_and] at this
                rw [this]
            refine ⟨_, _, cnt5, Lib.hid (HR5.out.cast fun q _ => ?_), Lib.hid (com_drop HCO.out hcm (by rw [← HH.out]; exact hth)), Lib.hid (HWW.out.drew.turned HT5.out (fun _ => rfl))⟩
            try dsimp only
            by_cases e : q = (⟨ed, id⟩ : Rf)
            · rw [if_pos e, if_pos e]; rfl
            · rw [if_neg e, if_neg e]
          case measure => rw [HR5.out.left_eq, HR.out.left_eq]; have := HC5.out; omega
        · go_wp2
          rw [← HWe.out]
          go_roundw
          case rel => exact ⟨cm, _, cnt4, HRW, HCO, HWW⟩
          case measure => rw [RangeG.left_eq (w := W) HRW.out, HR.out.left_eq]; omega

end Go.Proofs.Ytgahkloldpjnkaa
