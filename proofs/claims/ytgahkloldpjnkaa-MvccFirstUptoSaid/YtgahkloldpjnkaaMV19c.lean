/-
  skeinlaw14's asks: kind 2; all kinds.
-/
import Derived.Test.YtgahkloldpjnkaaMV19b
namespace Go.Proofs.Ytgahkloldpjnkaa
open Go.RowKit Go.Maps
set_option linter.unusedVariables false

/-- A row of elements of the law's own, written up to k. -/
def OwnRow (B : Nat) (w : World) (vA : Option Addr) (rs : List Rf) (k : Nat) : Prop := ∃ b cur, vA = some ⟨b, 0, none⟩ ∧ B ≤ b ∧ Blk w b 62 cur ∧ ∀ i, k ≤ i → ∀ hi : i < rs.length, cur[i * 2]? = some (.bool (rs[i]).fst) ∧ cur[i * 2 + 1]? = some (.int .i64 (rs[i]).snd)

theorem ownRow_of {w : World} {B : Nat} {vA : Option Addr} {n vc : Nat} {rs : List Rf} (h : OK encR 2 62 w B (.slice vA n vc) rs) (hne : 0 < rs.length) : OwnRow B w vA rs 0 := by
  have hrk := h.rk encR_len (Nat.le_refl _)
  obtain ⟨h1, h2, h3⟩ := h
  rcases h3 with ⟨e, hn⟩ | ⟨g, cap, cur, e, hgB, hg, hnc, hcm, hsz, htk⟩
  · omega
  · injection e with e1 e2 e3
    subst e1
    refine ⟨g, cur, rfl, hgB, hg, fun i _ hi => ?_⟩
    obtain ⟨A', c', e', -, -, -, HA⟩ := hrk.open_
    injection e' with e'
    obtain ⟨b, off, e4, hb, hx⟩ := HA.out i hi
    rw [e4] at e'
    injection e' with e'
    injection e' with e5 e6
    subst e5
    subst e6
    obtain ⟨x0, x1⟩ := cellR hx
    have hblk : Blk w g 62 cur := hg
    rw [hblk.cell] at x0 x1
    simp only [Nat.zero_add] at x0 x1
    exact ⟨x0, x1⟩

theorem OwnRow.set {B : Nat} {w : World} {b k : Nat} {cur : Array Value} {rs : List Rf} (hB : B ≤ b) (h : Blk w b 62 cur) (hc : ∀ i, k ≤ i → ∀ hi : i < rs.length, cur[i * 2]? = some (.bool (rs[i]).fst) ∧ cur[i * 2 + 1]? = some (.int .i64 (rs[i]).snd)) (u : Value) : OwnRow B (w.setCell ⟨b, k * 2 + 1, none⟩ u) (some ⟨b, 0, none⟩) rs (k + 1) := by
  refine ⟨b, _, rfl, hB, h.set_ (k * 2 + 1) u, fun i hk hi => ?_⟩
  obtain ⟨h1, h2⟩ := hc i (by omega) hi
  rw [Array.getElem?_setIfInBounds_ne (by omega), Array.getElem?_setIfInBounds_ne (by omega)]
  exact ⟨h1, h2⟩

theorem AskS.setOwn {w W : World} {g : Nat} {S : Nat → Prop} {N M M' : MV} {A : Option Addr} {c : Nat} {xs : List TxV} {cs cur : Array Value} {b : Nat} (h : AskS w g S N M' A c xs cs W) (hT : Tb w g S M) (hr : RTab w (.slice A xs.length c) xs M') (hb : Blk W b 62 cur) (hB : w.heap.size ≤ b) (j : Nat) (u : Value) : AskS w g S N M' A c xs cs (W.setCell ⟨b, j, none⟩ u) := by
  have ht := h.turn.setRow hb (by decide) hB j u
  refine ⟨ht, by have := h.size; simpa using this, h.k1.far (p := ⟨b, j, none⟩) (h.k1.ne_ hb (by decide)) u, h.k2.far (p := ⟨b, j, none⟩) (h.k2.ne_ hb (by decide)) u, h.k3.far (p := ⟨b, j, none⟩) (h.k3.ne_ hb (by decide)) u, ?_⟩
  obtain ⟨S', _, hm, _⟩ := ht
  exact hr.mod hT hm

set_option maxRecDepth 100000 in
set_option maxHeartbeats 2000000 in
theorem asks_2 (w : World) (g : Nat) (S : Nat → Prop) (M : MV) (hT : Tb w g S M) (v : Value) (xs : List TxV) (M' : MV) (h : RTab w v xs M') (n : Int) (rA : Option Addr) (rc : Nat) (hn : I64 n) (rs : List Rf) (hu : RR w w.heap.size (.slice rA rs.length rc) rs) (hrs : ∀ r ∈ rs, I64 r.snd) (hr2 : M'.bulk + rs.length ≤ 800000) (hr4 : M.bulk + rs.length ≤ 800000) :
    Calls Try.prog 11 #[.pointer (some ⟨g, 0, none⟩), rtV v M'.last, .agg #[.int .i64 2, .int .i64 n, .slice rA rs.length rc]] w (AskOut w g S (M.touch n rs) (M'.touch n rs) (M' = M)) := by
  obtain ⟨A, c, hv, hc1, hc2, hc3, HC⟩ := h.row.rk.open_
  subst hv
  have HOFF := Lib.hid (hT.offR hu)
  have HU := Lib.hid hu
  obtain ⟨uA, uc, hu2, hd1, hd2, hd3, HD⟩ := hu.open_
  injection hu2 with hu3 hu4 hu5
  subst hu3
  subst hu5
  obtain ⟨HS0, hT1⟩ := ask_start hT h #[.int .i64 2, .int .i64 n, .slice rA rs.length rc]
  have hbW := askW_below w A xs.length c M'.last #[.int .i64 2, .int .i64 n, .slice rA rs.length rc]
  obtain ⟨W, hW⟩ : ∃ W, W = askW w A xs.length c M'.last #[.int .i64 2, .int .i64 n, .slice rA rs.length rc] := ⟨_, rfl⟩
  rw [← hW] at HS0 hT1 hbW
  have HW := Lib.hid hW
  unfold askW at HW
  have HS := Lib.hid HS0
  have HT := Lib.hid hT1
  have HBW := Lib.hid hbW
  have H := Lib.hid h
  obtain ⟨z0, z1, o0, o1, o2, p0, p1, f0, f1⟩ := HS0.cells
  change _ = some (Value.int .i64 2) at o0
  change _ = some (Value.int .i64 n) at o1
  change _ = some (Value.slice rA rs.length rc) at o2
  have HT0 := Lib.hid hT
  have hWz : W.heap.size = w.heap.size + 3 := by rw [hW]; simp [askW]
  have hown0 : OK encR 2 62 (W.alloc (.cells #[] 62)) (w.heap.size + 3) (.slice (some ⟨w.heap.size + 3, 0, none⟩) 0 0) [] := by
    have := World.ownsRow_made (e := 62) (size := 2) W #[] 0 (base := w.heap.size + 3) (by omega) (by simp) (by simp)
    rw [hWz] at this
    exact ⟨by simp, this⟩
  have HOWN0 := Lib.hid hown0
  have HRR1 := Lib.hid (((hu.below hbW).more hbW.size).below ((Below.refl W.heap.size W).alloc (Nat.le_refl _) (.cells #[] 62)))
  obtain ⟨a0, ha0⟩ : ∃ x, x = M.touchE n := ⟨_, rfl⟩
  obtain ⟨b0, hb0⟩ : ∃ x, x = M'.touchE n := ⟨_, rfl⟩
  obtain ⟨l2, hl2⟩ : ∃ l2, l2 = (M'.touch n rs).last := ⟨_, rfl⟩
  have HL2 := Lib.hid hl2
  have HP : Hid (M' = M → a0 = b0) := Lib.hid (fun e => by rw [ha0, hb0, e])
  have HA0 := Lib.hid ha0
  have HB0 := Lib.hid hb0
  have HRS := Lib.hid hrs
  clear ha0 hb0 hl2 hown0 hu
  clear hW HS0 hT1 hbW hT h
  unfold rtV
  go_enter Try.func11, Try.ntmps11
  go_wp2_with (first
    | (at_builtin; go_loud (rw [← HW.out]; refine wpList_appN etR encR_len encR_one rfl (.tmp 55) (.tmp 57) rfl rfl HOWN0.out rfl HRR1.out (by simp; omega) (by simp; omega) ?_; intro v6 w6 k1 k2 k3; rw [List.nil_append] at k1; obtain ⟨A6, c6, hv6, -, -, -, -⟩ := (k1.rk encR_len (Nat.le_refl _)).open_; subst hv6; have hb6 : Below W.heap.size W w6 := ((Below.refl W.heap.size W).alloc (Nat.le_refl _) _).grown k2 (by simp) (fun k hk => by have := (HOWN0.out.lt k hk).1; omega); have hs6 := HS.out.below hb6; have HS6 := Lib.hid hs6; have HT6 := Lib.hid (HT.out.below hb6); have HB6 := Lib.hid (HBW.out.trans (hb6.mono HBW.out.size)); have K1 := Lib.hid k1; have hsz := hs6.size; obtain ⟨z0, z1, o0, o1, o2, p0, p1, f0, f1⟩ := hs6.cells; clear k1 k2 k3 hb6 hs6)))
  have hrr6 : RR w6 w6.heap.size (.slice A6 rs.length c6) rs := K1.out.rk encR_len (Nat.le_refl _)
  refine (tTouch w6 g S M HT6.out n hn _ rs hrr6 HRS.out (by omega)).mono ?_
  rintro e w3 ⟨rfl, ht⟩
  rw [← HA0.out]
  have hs3 := HS6.out.turned HT6.out HB6.out ht
  have HS3 := Lib.hid hs3
  have HOW : Hid (0 < rs.length → OwnRow w.heap.size w3 A6 rs 0) := Lib.hid (fun hne => by
    obtain ⟨b, cur, e1, h1, h2, h3⟩ := ownRow_of K1.out hne
    obtain ⟨S', _, hm, _⟩ := ht
    exact ⟨b, cur, e1, by omega, h2.mod hm (HT6.out.not_row h2 (by decide)), h3⟩)
  clear ht hs3 hrr6 hsz z0 z1 o0 o1 o2 p0 p1 f0 f1
  go_wp2_with fail
  go_loopw [66] (fun i wr => ∃ m : Nat, m ≤ rs.length ∧ i = .int .i64 m ∧ Hid (AskS w g S (M.touch n rs) M' A c xs #[.int .i64 2, .int .i64 n, .slice rA rs.length rc] wr) ∧ Hid (0 < rs.length → OwnRow w.heap.size wr A6 rs m)) (fun i _ => rs.length - (intOf i).toNat)
  case atStart => exact ⟨0, Nat.zero_le _, rfl, HS3, HOW⟩
  case round =>
    obtain ⟨m, hm, rfl, HSR, HOR⟩ := hrel
    have hsz := HSR.out.size
    obtain ⟨z0, z1, o0, o1, o2, p0, p1, f0, f1⟩ := HSR.out.cells
    change _ = some (Value.int .i64 2) at o0
    change _ = some (Value.int .i64 n) at o1
    change _ = some (Value.slice rA rs.length rc) at o2
    have hm9 : m ≤ 800000 := by omega
    by_cases hmo : m < rs.length
    · obtain ⟨b, cur, rfl, hbB, hbk, hcur⟩ := HOR.out (by omega)
      have HBK := Lib.hid hbk
      have HCUR := Lib.hid hcur
      obtain ⟨y0, y1⟩ := hcur m (Nat.le_refl _) hmo
      have t0 : wr.cell? ⟨b, m * 2, none⟩ = _ := (hbk.cell (m * 2)).trans y0
      have t1 : wr.cell? ⟨b, m * 2 + 1, none⟩ = _ := (hbk.cell (m * 2 + 1)).trans y1
      have t2 : wr.frozen? ⟨b, m * 2 + 1, none⟩ = false := hbk.frozen _
      obtain ⟨S', _, hmod, _⟩ := HSR.out.turn
      obtain ⟨b2, q2, rfl, hb2, hx⟩ := HD.out m hmo
      have hn2 : ¬ S b2 := by
        rcases HOFF.out with e | e
        · rw [e] at hmo; simp at hmo
        · exact e b2 rfl
      obtain ⟨x0, x1⟩ := cellR hx
      have u0 : wr.cell? ⟨b2, q2 + m * 2, none⟩ = _ := (hmod.cell hb2 hn2 _).trans x0
      have u1 : wr.cell? ⟨b2, q2 + m * 2 + 1, none⟩ = _ := (hmod.cell hb2 hn2 _).trans x1
      obtain ⟨r, hr⟩ : ∃ r, r = rs[m] := ⟨_, rfl⟩
      rw [← hr] at t0 t1 u0 u1
      obtain ⟨r0, r1⟩ := r
      dsimp only at t0 t1 u0 u1
      clear hr x0 x1 hx y0 y1 hmod hbk hcur
      go_wp2_with fail
      go_region
      go_wp2_with fail
      go_roundw
      case rel =>
        exact ⟨m + 1, by omega, by go_num, Lib.hid (HSR.out.drew.setOwn HT0.out H.out HBK.out.drew hbB _ _), Lib.hid (fun _ => OwnRow.set hbB HBK.out.drew HCUR.out _)⟩
      case measure => simp [intOf]; omega
    · obtain ⟨S', _, hmod, _⟩ := HSR.out.turn
      have hcall := rTouch_any wr _ xs M' HSR.out.rt n (.slice rA rs.length rc) rs (HU.out.mod hmod HOFF.out) HRS.out hr2
      unfold rtV at hcall
      clear hmod
      go_wp2_with fail
      refine hcall.mono ?_
      rintro e w2 ⟨v', xs', rfl, hR2, hb2⟩
      obtain ⟨A2, c2, hv2, -, -, -, -⟩ := hR2.row.rk.open_
      subst hv2
      have HS2 := Lib.hid (HSR.out.below hb2)
      have HR2 := Lib.hid hR2
      rw [← HB0.out, ← HL2.out]
      clear hb2 hR2 hcall hsz z0 z1 o0 o1 o2 p0 p1 f0 f1
      have hsz := HS2.out.size
      obtain ⟨z0, z1, o0, o1, o2, p0, p1, f0, f1⟩ := HS2.out.cells
      change _ = some (Value.int .i64 2) at o0
      change _ = some (Value.int .i64 n) at o1
      change _ = some (Value.slice rA rs.length rc) at o2
      unfold rtV
      go_wp2_with fail
      rw [show w.heap.size + 1 + 1 = w.heap.size + 2 from rfl]
      obtain ⟨tE0, kE0⟩ := HS2.out.fin (.slice A2 xs'.length c2) (.int .i64 l2)
      have rE0 := HR2.out.setRes HS2.out.k3 (.slice A2 xs'.length c2) (.int .i64 l2)
      have tE := tE0.below ((Below.refl _ _).alloc (Nat.le_refl _) (.cells #[.slice A2 xs'.length c2, .int .i64 l2] 28))
      have rE := rE0.below ((Below.refl _ _).alloc (Nat.le_refl _) (.cells #[.slice A2 xs'.length c2, .int .i64 l2] 28))
      have kE := kE0.alloc (.cells #[.slice A2 xs'.length c2, .int .i64 l2] 28)
      clear tE0 rE0 kE0
      generalize ((w2.setCell ⟨w.heap.size + 2, 0, none⟩ (.slice A2 xs'.length c2)).setCell ⟨w.heap.size + 2, 1, none⟩ (.int .i64 l2)).alloc (.cells #[.slice A2 xs'.length c2, .int .i64 l2] 28) = WE at *
      have r0 : WE.cell? ⟨w.heap.size + 2, 0, none⟩ = some (.slice A2 xs'.length c2) := kE.cell 0
      have r1 : WE.cell? ⟨w.heap.size + 2, 1, none⟩ = some (.int .i64 l2) := kE.cell 1
      refine bodyPost_ret (v := .tuple #[.agg #[.slice A2 xs'.length c2, .int .i64 l2], .bool (a0 == b0)]) (by simp [results, Try.results11, go_sem, r0, r1]) rfl ?_
      exact ⟨_, _, _, by rw [← HL2.out]; rfl, rE, tE, fun e => by rw [HP.out e]; simp⟩

end Go.Proofs.Ytgahkloldpjnkaa
