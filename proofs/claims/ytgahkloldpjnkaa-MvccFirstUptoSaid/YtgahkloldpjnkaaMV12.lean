/-
  The walk of a Commit that goes well.
-/
import Derived.Test.YtgahkloldpjnkaaMV11
import Derived.Deep.RegionHeld3
namespace Go.Proofs.Ytgahkloldpjnkaa
open Go.RowKit Go.Maps
set_option linter.unusedVariables false

theorem win_eq {M : MV} {n : Int} {x : Tx} (hl : M.live? n = some x) : M.win n = ⟨(M.put n { x with at_ := M.last + 1 }).txns, M.last + 1⟩ := by unfold MV.win MV.put; rw [hl]

theorem win_live {M : MV} {n : Int} {x : Tx} (hl : M.live? n = some x) (k : Int) : (M.win n).live? k = if k = n then some { x with at_ := M.last + 1 } else M.live? k := by
  have h1 := live_put (y := { x with at_ := M.last + 1 }) hl k
  rw [if_pos (show ({ x with at_ := M.last + 1 } : Tx).live = true from (live_iff.1 hl).2.2)] at h1
  rw [win_eq hl]
  exact h1

theorem win_hor {M : MV} {n : Int} {x : Tx} (hl : M.live? n = some x) : M.hor ≤ (M.win n).hor := by
  rcases hor_get (M.win n) with e | ⟨k, z, hz, e⟩
  · rw [e, win_eq hl]
    have := hor_le_last M
    show M.hor ≤ M.last + 1
    omega
  · rw [e]
    rw [win_live hl] at hz
    by_cases hk : k = n
    · rw [if_pos hk] at hz
      injection hz with hz
      subst hz
      have := hor_le hl
      exact this
    · rw [if_neg hk] at hz
      exact hor_le hz

theorem win_at {w w' : World} {g lb cb : Nat} {bl : Int → Nat} {M : MV} (h : MvAt w g lb cb bl M) {n : Int} {x : Tx} (hl : M.live? n = some x) (hat : x.at_ < 0) (hlast : M.last < 1099511627776) {cm : Rf → Option Int} (hco : ComOk M cm)
    (hb : Blk w' g 60 #[.int .i64 (M.last + 1), .int .i64 (M.txns.length : Int), .map (some lb), .map (some cb)])
    (hM : MapG kR pI w' cb (M.spent + x.refs.length) (fun r : Rf => (if r ∈ x.refs then some (M.last + 1) else cm r).map (.int .i64))) (hm : Mod (fun k => k = g ∨ k = cb) w w') :
    MvAt w' g lb cb bl (M.win n) ∧ (∀ k, OwnM g lb cb bl (M.win n) k → OwnM g lb cb bl M k) := by
  have hne := h.ne
  have hlive := win_live hl
  obtain ⟨l1, l2, l3⟩ := live_iff.1 hl
  have hok := h.ok.last
  have hlen : (M.win n).txns.length = M.txns.length := by rw [win_eq hl]; simp [MV.put]
  have hlst : (M.win n).last = M.last + 1 := by rw [win_eq hl]
  have htx : ∀ z ∈ (M.win n).txns, z = { x with at_ := M.last + 1 } ∨ z ∈ M.txns := by
    intro z hz
    rw [win_eq hl] at hz
    exact mem_set hz
  have hlive2 : ∀ k z, (M.win n).live? k = some z → ∃ u, M.live? k = some u ∧ u.start = z.start ∧ u.refs = z.refs := by
    intro k z hz
    rw [hlive] at hz
    by_cases hk : k = n
    · rw [if_pos hk] at hz
      injection hz with hz
      subst hz hk
      exact ⟨x, hl, rfl, rfl⟩
    · rw [if_neg hk] at hz
      exact ⟨z, hz, rfl, rfl⟩
  have hself : ({ x with at_ := M.last + 1 } : Tx) ∈ (M.win n).txns := by
    rw [win_eq hl]
    exact List.mem_of_getElem? (List.getElem?_set_self (List.getElem?_eq_some_iff.1 l2).1)
  have hnums : (M.win n).nums.length ≤ M.nums.length := by
    refine (nums_nodup _).length_le_of_subset fun k hk => ?_
    rw [mem_nums] at hk ⊢
    obtain ⟨z, hz⟩ := Option.isSome_iff_exists.1 hk
    obtain ⟨u, hu, _⟩ := hlive2 k z hz
    rw [hu]; rfl
  have hspent : M.spent + x.refs.length ≤ (M.win n).spent := by
    have := sum_set (fun x => if x.at_ < 0 then 0 else x.refs.length) M.txns (n - 1).toNat x { x with at_ := M.last + 1 } l2
    rw [win_eq hl]
    unfold MV.spent MV.put
    dsimp only at this ⊢
    rw [if_pos hat, if_neg (by omega)] at this
    omega
  have hhor := win_hor hl
  refine ⟨⟨⟨by rw [hlst]; omega, ?_, ?_, Nat.le_trans hnums h.ok.few, by rw [hlen]; exact h.ok.count⟩, ?_, ?_, ?_, ⟨fun r => if r ∈ x.refs then some (M.last + 1) else cm r, hM.mono hspent, ?_, ?_⟩, h.ap1, ?_, ?_⟩, ?_⟩
  · intro z hz
    rw [hlst]
    rcases htx z hz with rfl | hz
    · have := h.ok.tx x (live_mem hl); dsimp only; omega
    · have := h.ok.tx z hz; omega
  · intro z hz r hr'
    rcases htx z hz with rfl | hz
    · exact h.ok.refs x (live_mem hl) r hr'
    · exact h.ok.refs z hz r hr'
  · rw [hlen, hlst]; exact hb
  · refine (h.live.mod hm (by rintro (e | e); exact hne.1 e; exact h.ap1 e)).cast fun k _ => ?_
    rw [hlive]
    by_cases hk : k = n
    · subst hk
      rw [if_pos rfl, hl]; rfl
    · rw [if_neg hk]
  · intro k z hz
    obtain ⟨u, hu, _, h2⟩ := hlive2 k z hz
    rw [← h2]
    exact (h.sets k u hu).mod hm (by rintro (e | e); exact hne.2.2 k u hu e; exact (h.ap2 k u hu).2 e)
  · intro r t hrt
    try dsimp only at hrt
    by_cases hr : r ∈ x.refs
    · rw [if_pos hr] at hrt
      injection hrt with hrt
      exact ⟨_, hself, hrt, hr⟩
    · rw [if_neg hr] at hrt
      obtain ⟨z, hz, e1, e2⟩ := hco.from_ r t hrt
      obtain ⟨i, hi⟩ := List.getElem?_of_mem hz
      by_cases hin : i = (n - 1).toNat
      · subst hin
        rw [l2] at hi
        injection hi with hi
        subst hi
        exact absurd e2 hr
      · refine ⟨z, ?_, e1, e2⟩
        rw [win_eq hl]
        exact List.mem_of_getElem? (by rw [← hi]; exact List.getElem?_set_ne (Ne.symm hin))
  · intro z hz r hr' hlt
    try dsimp only
    rcases htx z hz with rfl | hz
    · exact ⟨M.last + 1, by rw [if_pos hr'], Int.le_refl _⟩
    · by_cases hr : r ∈ x.refs
      · exact ⟨M.last + 1, by rw [if_pos hr], by have := h.ok.tx z hz; omega⟩
      · rw [if_neg hr]
        exact hco.there z hz r hr' (by omega)
  · intro k z hz
    obtain ⟨u, hu, _⟩ := hlive2 k z hz
    exact h.ap2 k u hu
  · intro k z j y hz hy e
    obtain ⟨u, hu, _⟩ := hlive2 k z hz
    obtain ⟨v, hv, _⟩ := hlive2 j y hy
    exact h.ap3 k u j v hu hv e
  · rintro k (e | e | e | ⟨j, y, hy, e⟩)
    · exact .inl e
    · exact .inr (.inl e)
    · exact .inr (.inr (.inl e))
    · obtain ⟨u, hu, _⟩ := hlive2 j y hy
      exact .inr (.inr (.inr ⟨j, u, hu, e⟩))

set_option maxRecDepth 100000 in
set_option maxHeartbeats 2000000 in
theorem Commit_win (w : World) (g lb cb : Nat) (bl : Int → Nat) (M : MV) (h : MvAt w g lb cb bl M) (n : Int) (hn : I64 n) (x : Tx) (hl : M.live? n = some x) (hat : x.at_ < 0) (hc0 : M.tryE n = 0) (hr0 : x.refs ≠ []) (hsp : M.spent + x.refs.length ≤ 4611686018427387904) :
    Calls Try.prog 21 #[.pointer (some ⟨g, 0, none⟩), .int .i64 n] w (ComOut w g lb cb bl M ((M.win n).over n) (M.last + 1) 0) := by
  have hlast : M.last < 1099511627776 := by
    have h1 := h.ok.last
    by_cases e : M.last = 1099511627776
    · exfalso
      unfold MV.tryE at hc0
      rw [hl] at hc0
      dsimp only at hc0
      split at hc0
      · cases hc0
      · rw [if_pos ⟨hr0, e⟩] at hc0; cases hc0
    · omega
  have hl0 := h.ok.last.1
  have hc := Try_some w g lb cb bl M h n hn x hl
  unfold TryOut at hc
  rw [hc0] at hc
  have H := Lib.hid h
  have HL := Lib.hid hl
  have HR0 := Lib.hid hr0
  clear h hl hc0 hr0
  go_enter_defers Try.func21, Try.ntmps21
  go_wp2_with fail
  refine hc.mono ?_
  rintro e w1 ⟨rfl, hb⟩
  have HB := Lib.hid hb
  clear hb hc
  have h1 := H.out.below HB.out
  have hvv : ((M.live? n).map fun x => txV x.start (bl n)).getD (.agg #[.int .i64 0, .map none]) = .agg #[.int .i64 x.start, .map (some (bl n))] := by rw [HL.out]; rfl
  obtain ⟨N, hN⟩ : ∃ N, N = (nub x.refs).length := ⟨_, rfl⟩
  have hN0 : 0 < N := by
    rcases Nat.eq_zero_or_pos N with e | e
    · exact absurd (nub_nil.1 (List.eq_nil_of_length_eq_zero (by omega))) HR0.out
    · exact e
  have hset := (h1.sets n x HL.out).mod (w' := w1.alloc (.cells #[.int .i64 x.start, .map (some (bl n))] 80)) ((Mod.refl (fun _ => False) _).alloc _) (fun h => h)
  obtain ⟨cm, hcm, hco⟩ := h1.com
  have b0 : w1.cell? ⟨g, 0, none⟩ = some (.int .i64 M.last) := h1.blk.cell 0
  have b2 : w1.cell? ⟨g, 2, none⟩ = some (.map (some lb)) := h1.blk.cell 2
  have f0 : w1.frozen? ⟨g, 0, none⟩ = false := h1.blk.frozen 0
  have hgl := h1.blk.lt
  have hsl := (h1.sets n x HL.out).lt
  have hcl := hcm.lt
  have hne := h1.ne
  have hgb : bl n ≠ g := hne.2.2 n x HL.out
  have hgc : cb ≠ g := hne.2.1
  have hbc : bl n ≠ cb := (h1.ap2 n x HL.out).2
  have HM := Lib.hid h1.live
  have HV := Lib.hid hvv
  have HSET := Lib.hid hset
  have HN := Lib.hid hN.symm
  have HNI := Lib.hid (nub_in h1.ok HL.out)
  have H1 := Lib.hid h1
  have HCM := Lib.hid hcm
  have HCO := Lib.hid hco
  have hm0 : Mod (fun k => k = g) w1 (w1.setCell ⟨g, 0, none⟩ (.int .i64 (M.last + 1))) := (Mod.refl (fun k => k = g) w1).setCell (p := ⟨g, 0, none⟩) (fun _ => rfl) _
  have HMG : Hid (Mod (fun k => k = g) w1 ((w1.setCell ⟨g, 0, none⟩ (.int .i64 (M.last + 1))).alloc (.cells #[.int .i64 x.start, .map (some (bl n))] 80))) := Lib.hid (hm0.alloc _)
  have HMW : Hid (Mod (fun k => k = g ∨ k = cb) w1 ((w1.setCell ⟨g, 0, none⟩ (.int .i64 (M.last + 1))).alloc (.cells #[.int .i64 x.start, .map (some (bl n))] 80))) := Lib.hid (HMG.out.mono fun k _ e => .inl e)
  have hbw := (h1.blk.set_ 0 (.int .i64 (M.last + 1))).alloc (.cells #[.int .i64 x.start, .map (some (bl n))] 80)
  simp only [List.setIfInBounds_toArray, List.set_cons_zero] at hbw
  have HBW := Lib.hid hbw
  have HSW : Hid (MapG kR pU ((w1.setCell ⟨g, 0, none⟩ (.int .i64 (M.last + 1))).alloc (.cells #[.int .i64 x.start, .map (some (bl n))] 80)) (bl n) x.refs.length (fun r : Rf => if r ∈ x.refs then some (.agg #[]) else none)) := Lib.hid ((h1.sets n x HL.out).mod HMG.out hgb)
  clear h1 hvv hset hN hcm hco hne hm0 hbw
  go_wp2_with (first
    | (at_lookup; refine wpList_lookG1 (X := kI) rfl _ _ _ rfl _ Try.underlying57 (zeroT _) pT_zero lb 8 rfl HM.out n rfl hn _ HV.out ?_)
    | (at_len; refine wpList_lenG (X := kR) rfl _ _ rfl _ Try.underlying78 (bl n) _ rfl HSET.out (nub x.refs) (nodup_nub _) (fun r => HNI.out r) N HN.out ?_)
    | (at_range; refine wpList_rangeG (X := kR) rfl _ _ rfl _ Try.underlying78 (bl n) _ rfl HSW.out ?_; intro w3 cnt3 hrg3 hcl3 hg3 hs3))
  have hzW : ((w1.setCell ⟨g, 0, none⟩ (.int .i64 (M.last + 1))).alloc (.cells #[.int .i64 x.start, .map (some (bl n))] 80)).heap.size = w1.heap.size + 1 := by simp
  rw [hzW] at hrg3 hs3
  have HR3 := Lib.hid hrg3
  have hmw : Mod (fun k => k = g ∨ k = cb) w1 w3 := HMW.out.trans (Mod.of_grown hg3) (fun k hk e => by cases e)
  have HW3 := Lib.hid hmw
  have HB3 : Hid (Blk w3 g 60 #[.int .i64 (M.last + 1), .int .i64 (M.txns.length : Int), .map (some lb), .map (some cb)]) := Lib.hid (HBW.out.grown hg3 (by simp))
  have HC3 : Hid (MapG kR pI w3 cb M.spent (fun r : Rf => (cm r).map (.int .i64))) := Lib.hid (HCM.out.mod (S := fun k => k = g) (HMG.out.trans (Mod.of_grown hg3) (fun k hk e => by cases e)) hgc)
  have hz3 : w1.heap.size + 1 < w3.heap.size := by omega
  have HCL := Lib.hid hcl3
  clear hrg3 hg3 hcl3 hmw hzW hs3
  go_loopw [42] (fun _ wr => ∃ (left : Rf → Bool) (cnt : Nat), Hid (RangeG kR pU wr (bl n) (w1.heap.size + 1) x.refs.length (fun r : Rf => if r ∈ x.refs then some (.agg #[]) else none) left cnt) ∧ Hid (cnt ≤ x.refs.length) ∧
    Hid (MapG kR pI wr cb (M.spent + (x.refs.length - cnt)) (fun r : Rf => (if r ∈ x.refs ∧ left r = false then some (M.last + 1) else cm r).map (.int .i64))) ∧
    Hid (Blk wr g 60 #[.int .i64 (M.last + 1), .int .i64 (M.txns.length : Int), .map (some lb), .map (some cb)]) ∧ Hid (Mod (fun k => k = g ∨ k = cb) w1 wr) ∧ w1.heap.size + 1 < wr.heap.size) (fun _ wr => wr.rangeLeft (bl n) (w1.heap.size + 1))
  case atStart =>
    refine ⟨_, cnt3, HR3, HCL, Lib.hid ((HC3.out.mono (by omega)).cast fun r _ => ?_), HB3, HW3, hz3⟩
    by_cases hr : r ∈ x.refs
    · simp [hr]
    · simp [hr]
  case round =>
    obtain ⟨left, cnt, HR, HCN, HC, HBR, HW, hzr⟩ := hrel
    have z0 : wr.cell? ⟨g, 0, none⟩ = some (.int .i64 (M.last + 1)) := HBR.out.cell 0
    go_wp2_with (at_next; refine wpList_nextG (X := kR) rfl _ rfl (fun _ : Unit => .agg #[]) invPU (bl n) (w1.heap.size + 1) _ left cnt rfl HR.out ?_ ?_)
    · intro hdone
      have hm2 : MapG kR pI wr cb (M.spent + x.refs.length) (fun r : Rf => (if r ∈ x.refs then some (M.last + 1) else cm r).map (.int .i64)) := (HC.out.mono (by omega)).cast fun r hr => by
        have h2 := hdone r hr.1 hr.2
        by_cases h3 : r ∈ x.refs
        · simp [h3, h2]
        · simp [h3]
      obtain ⟨hA, hO⟩ := win_at H1.out HL.out hat hlast HCO.out HBR.out hm2 HW.out
      have HA := Lib.hid hA
      have HO := Lib.hid hO
      have HWX : Hid ((M.win n).live? n = some { x with at_ := M.last + 1 }) := Lib.hid (by rw [win_live HL.out, if_pos rfl])
      clear hdone hm2 hA hO
      go_wp2
      refine leaves_cons (f := 33) (args := #[.pointer (some ⟨g, 0, none⟩), .int .i64 n]) (by simp) (by simp [go_sem]) ?_
      refine (end_d .returning _ g lb cb bl (M.win n) HA.out n hn _ HWX.out).mono ?_
      rintro e u' w'' ⟨rfl, rfl, h1, h2, h3⟩
      refine ⟨_, results_tmp2 rfl _ _ _, rfl, h1, ((Mod.of_below HB.out _).trans' (HW.out.mono ?_)).trans' (h2.mono fun k _ e => HO.out k e), fun k e => HO.out k (h3 k e)⟩
      rintro k _ (e | e)
      · exact .inl e
      · exact .inr (.inr (.inl e))
    · intro r w4 cnt4 hnx hrg4 hlt4 hg4 hs4 hen
      have hrr : r ∈ x.refs := by
        have := hnx.val
        split at this
        · assumption
        · cases this
      have HRR := Lib.hid hrr
      have hi64 : I64 r.snd := hnx.ok
      have HI := Lib.hid hi64
      have HR4 := Lib.hid hrg4
      have hmw4 : Mod (fun k => k = g ∨ k = cb) w1 w4 := HW.out.trans (Mod.of_grown hg4) (fun k hk e => by injection e with e; omega)
      have hb4 : Blk w4 g 60 #[.int .i64 (M.last + 1), .int .i64 (M.txns.length : Int), .map (some lb), .map (some cb)] := HBR.out.grown hg4 (fun e => by injection e with e; omega)
      have hc4 := HC.out.mod (Mod.of_grown hg4) (fun e => by injection e with e; omega)
      have HW4 := Lib.hid hmw4
      have HB4 := Lib.hid hb4
      have HC4 := Lib.hid hc4
      have hz4 : w1.heap.size + 1 < w4.heap.size := by omega
      clear hnx hrg4 hrr hi64 hs4 z0 hmw4 hb4 hc4 b0 b2 f0
      obtain ⟨ed, id⟩ := r
      simp only [valR] at hen ⊢
      obtain ⟨W, hWe⟩ : ∃ W, W = w4.alloc (.cells #[.bool ed, .int .i64 id] 62) := ⟨_, rfl⟩
      have hmW : Mod (fun k => k = g ∨ k = cb) w1 W := by rw [hWe]; exact HW4.out.alloc _
      have hbW : Blk W.drew g 60 #[.int .i64 (M.last + 1), .int .i64 (M.txns.length : Int), .map (some lb), .map (some cb)] := by rw [hWe]; exact (HB4.out.alloc _).drew
      have x0 : W.drew.cell? ⟨g, 0, none⟩ = some (.int .i64 (M.last + 1)) := hbW.cell 0
      have x3 : W.drew.cell? ⟨g, 3, none⟩ = some (.map (some cb)) := hbW.cell 3
      have hbr : Blk W.drew w4.heap.size 62 #[.bool ed, .int .i64 id] := by rw [hWe]; exact Blk.new _ _ _
      have e0 : W.drew.cell? ⟨w4.heap.size, 0, none⟩ = some (.bool ed) := hbr.cell 0
      have e1 : W.drew.cell? ⟨w4.heap.size, 1, none⟩ = some (.int .i64 id) := hbr.cell 1
      have hrW : RangeG kR pU W.drew (bl n) (w1.heap.size + 1) x.refs.length (fun r : Rf => if r ∈ x.refs then some (.agg #[]) else none) (fun j => left j && !decide (j = ⟨ed, id⟩)) cnt4 := by
        rw [hWe]; exact HR4.out.mod (((Mod.refl (fun _ => False) _).alloc _).drew) (fun h => h) (fun h => h)
      have hcW : MapG kR pI W.drew cb (M.spent + (x.refs.length - cnt)) (fun r : Rf => (if r ∈ x.refs ∧ left r = false then some (M.last + 1) else cm r).map (.int .i64)) := by
        rw [hWe]; exact HC4.out.mod (S := fun _ => False) (((Mod.refl (fun _ => False) _).alloc _).drew) (fun h => h)
      obtain ⟨w5, hrun, hM5, hT5⟩ := hcW.store (X := kR) (a := (⟨ed, id⟩ : Rf)) Try.underlying58 (by omega) HI.out (pI_int (M.last + 1))
      have hrun' : (Instr.mapUpdate 58 (.map (some cb)) (.agg #[.bool ed, .int .i64 id]) (.int .i64 (M.last + 1))).run Try.prog W.drew = .ok () w5 := hrun
      have hr5 : RangeG kR pU w5 (bl n) (w1.heap.size + 1) x.refs.length (fun r : Rf => if r ∈ x.refs then some (.agg #[]) else none) (fun j => left j && !decide (j = ⟨ed, id⟩)) cnt4 :=
        hrW.mod (Mod.turned (Mod.refl (fun k => k = cb) _) hT5 (fun _ => rfl)) hbc (by omega)
      have hb5 : Blk w5 g 60 #[.int .i64 (M.last + 1), .int .i64 (M.txns.length : Int), .map (some lb), .map (some cb)] := hbW.mod (Mod.turned (Mod.refl (fun k => k = cb) _) hT5 (fun _ => rfl)) (fun e => hgc e.symm)
      have hm5 : Mod (fun k => k = g ∨ k = cb) w1 w5 := hmW.drew.turned hT5 (fun _ => .inr rfl)
      have hz5 : w1.heap.size + 1 < w5.heap.size := by
        have := hT5.grown.size
        have h2 : W.drew.heap.size = w4.heap.size + 1 := by rw [hWe]; simp
        omega
      have HR5 := Lib.hid hr5
      have HB5 := Lib.hid hb5
      have HM5 := Lib.hid hM5
      have HMM := Lib.hid hm5
      have HWe := Lib.hid hWe
      clear hWe hbr hrW hcW hbW hmW hrun hM5 hT5 hr5 hb5 hm5
      go_wp2_with fail
      rw [← HWe.out]
      go_region
      go_wp2
      go_roundw
      case rel =>
        refine ⟨_, cnt4, HR5, Lib.hid (by have := HCN.out; omega), Lib.hid ((HM5.out.mono (by have := HCN.out; omega)).cast fun q _ => ?_), HB5, HMM, hz5⟩
        try dsimp only
        by_cases e : q = (⟨ed, id⟩ : Rf)
        · subst e
          simp [HRR.out]
        · rw [if_neg e]
          simp [e]
      case measure => rw [HR5.out.left_eq, HR.out.left_eq]; exact hlt4

end Go.Proofs.Ytgahkloldpjnkaa
