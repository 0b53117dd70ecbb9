/-
  The walk of hang.
-/
import Derived.Test.YtlakcldgolpaiaaEP8
namespace Go.Proofs.Ytlakcldgolpaiaa
open Go.RowKit
set_option linter.unusedVariables false

def linkN (N : Nodes SV) (a l r : Nat) : Nodes SV := upd N a { N a with left := l, right := r }

theorem hang_size (N : Nodes SV) {a l r x : Nat} (hx : x ≠ a) : (setUp (setUp (linkN N a l r) l a) r a x).size = (N x).size := by
  rw [(setUp_same _ r a x).2.2.1, (setUp_same _ l a x).2.2.1]
  unfold linkN
  rw [upd_ne _ _ hx]

theorem hang_kids (N : Nodes SV) {a l r : Nat} : (setUp (setUp (linkN N a l r) l a) r a a).left = l ∧ (setUp (setUp (linkN N a l r) l a) r a a).right = r := by
  have h1 := setUp_same (setUp (linkN N a l r) l a) r a a
  have h2 := setUp_same (linkN N a l r) l a a
  refine ⟨(h1.2.2.2.2.1.trans h2.2.2.2.2.1).trans ?_, (h1.2.2.2.2.2.trans h2.2.2.2.2.2).trans ?_⟩
  · unfold linkN; rw [upd_self]
  · unfold linkN; rw [upd_self]

/-- A node's up is stored. -/
theorem Mem.setUp {w W : World} {g B : Nat} {sv : Value} {nb n cap : Nat} {N : Nodes SV} (h : Mem w g B sv nb n cap N) (hm : Mod (fun k => k = nb) W w) {x : Nat} (a : Nat) (hx : x < n) (h0 : x ≠ 0) :
    Mem (w.setCell ⟨nb, x * 11 + 8, none⟩ (.int .i64 (a : Int))) g B sv nb n cap (Go.Proofs.Ytlakcldgolpaiaa.setUp N x a) ∧ Mod (fun k => k = nb) W (w.setCell ⟨nb, x * 11 + 8, none⟩ (.int .i64 (a : Int))) := by
  unfold Go.Proofs.Ytlakcldgolpaiaa.setUp
  rw [if_neg h0]
  exact h.store hx 8 (by omega) { N x with up := a } _ (by simp [encNd]) hm

theorem run_idx0 (x y : Int) (w : World) : (Instr.index 79 (.agg #[.int .i64 x, .int .i64 y]) (.int .i64 0)).run Try.prog w = .ok (.int .i64 x) w := by kernel_rfl

theorem run_idx1 (x y : Int) (w : World) : (Instr.index 79 (.agg #[.int .i64 x, .int .i64 y]) (.int .i64 1)).run Try.prog w = .ok (.int .i64 y) w := by kernel_rfl

set_option maxRecDepth 100000 in
set_option maxHeartbeats 4000000 in
theorem hang_any (w : World) (g B : Nat) (sv : Value) (nb n cap : Nat) (N : Nodes SV) (hM : Mem w g B sv nb n cap N) (hn : n ≤ 65537) (a l r : Nat) (ha : a < n) (hl : l < n) (hr : r < n) (hla : l ≠ a) (hra : r ≠ a) (hs : (N l).size + (N r).size ≤ 200000) :
    Calls Try.prog 99 #[.pointer (some ⟨g, 0, none⟩), .int .i64 (a : Int), .int .i64 (l : Int), .int .i64 (r : Int)] w fun e w' => e = .returned (.tuple #[]) ∧ Mem w' g B sv nb n cap (hangN N a l r) ∧ Mod (fun k => k = nb) w w' := by
  have HM0 := Lib.hid hM
  have b1 : w.cell? ⟨g, 1, none⟩ = _ := hM.blk.cell 1
  have hf7 := hM.frozen (a * 11 + 9)
  have hf8 := hM.frozen (a * 11 + 10)
  obtain ⟨v7, a7⟩ : ∃ v, w.cell? ⟨nb, a * 11 + 9, none⟩ = some v := ⟨_, (hM.cells ha).2.2.2.2.2.2.2.2.2.1⟩
  obtain ⟨v8, a8⟩ : ∃ v, w.cell? ⟨nb, a * 11 + 10, none⟩ = some v := ⟨_, (hM.cells ha).2.2.2.2.2.2.2.2.2.2⟩
  have HS : Hid ((N l).size + (N r).size ≤ 200000) := Lib.hid hs
  obtain ⟨N1, hN1⟩ : ∃ N1, N1 = linkN N a l r := ⟨_, rfl⟩
  obtain ⟨N2, hN2⟩ : ∃ N2, N2 = setUp N1 l a := ⟨_, rfl⟩
  obtain ⟨N3, hN3⟩ : ∃ N3, N3 = setUp N2 r a := ⟨_, rfl⟩
  have HN : Hid (N1 = linkN N a l r ∧ N2 = setUp N1 l a ∧ N3 = setUp N2 r a) := Lib.hid ⟨hN1, hN2, hN3⟩
  have HT : Hid (hangN N a l r = retell N3 a) := Lib.hid (by rw [hN3, hN2, hN1]; rfl)
  have HK : Hid ((N3 a).left = l ∧ (N3 a).right = r ∧ (N3 l).size = (N l).size ∧ (N3 r).size = (N r).size) := Lib.hid (by
    rw [hN3, hN2, hN1]
    exact ⟨(hang_kids N).1, (hang_kids N).2, hang_size N hla, hang_size N hra⟩)
  clear hM hs hN1 hN2 hN3
  have HI0 := run_idx0
  have HI1 := run_idx1
  go_enter Try.func99, Try.ntmps99
  go_wp2_with fail
  go_region
  obtain ⟨w2, hw2⟩ : ∃ w2, w2 = ((w.setCell ⟨nb, a * 11 + 9, none⟩ (.int .i64 (l : Int))).setCell ⟨nb, a * 11 + 10, none⟩ (.int .i64 (r : Int))).drew := ⟨_, rfl⟩
  rw [← hw2]
  obtain ⟨HM2, HW2⟩ : Hid (Mem w2 g B sv nb n cap N1) ∧ Hid (Mod (fun k => k = nb) w w2) := by
    have h1 := HM0.out.store (W := w) ha 9 (by omega) { N a with left := l } (.int .i64 (l : Int)) (by simp [encNd]) (Mod.refl _ _)
    have h2 := h1.1.store (W := w) ha 10 (by omega) { N a with left := l, right := r } (.int .i64 (r : Int)) (by rw [upd_self]; simp [encNd]) h1.2
    rw [upd_upd] at h2
    rw [hw2, HN.out.1]
    exact ⟨Lib.hid h2.1.drew, Lib.hid h2.2.drew⟩
  clear hw2 b1 hf7 hf8 a7 a8 HM0
  go_wp2_with fail
  go_loopw [29] (fun i wr => ((i = .int .i64 0 ∧ Hid (Mem wr g B sv nb n cap N1)) ∨ (i = .int .i64 1 ∧ Hid (Mem wr g B sv nb n cap N2)) ∨ (i = .int .i64 2 ∧ Hid (Mem wr g B sv nb n cap N3))) ∧ Hid (Mod (fun k => k = nb) w wr)) (fun i _ => 2 - (intOf i).toNat)
  case atStart => exact ⟨.inl ⟨rfl, HM2⟩, HW2⟩
  case round =>
    obtain ⟨hor, HWR⟩ := hrel
    rcases hor with ⟨rfl, HMR⟩ | ⟨rfl, HMR⟩ | ⟨rfl, HMR⟩
    · have hm : Mem wr g B sv nb n cap N1 := HMR.out
      have br : wr.cell? ⟨g, 1, none⟩ = _ := hm.blk.cell 1
      have HMK := Lib.hid hm
      by_cases h0 : l = 0
      · have hd : ((l : Int) != 0) = false := by simp [h0]
        have HE : Hid (N2 = N1) := Lib.hid (by rw [HN.out.2.1]; unfold setUp; rw [if_pos h0])
        clear hm HMR h0
        go_wp2_with fail
        go_roundw
        case rel => exact ⟨.inr (.inl ⟨rfl, Lib.hid (by rw [HE.out]; exact HMK.out)⟩), HWR⟩
        case measure => simp [intOf]
      · have hd : ((l : Int) != 0) = true := by simp; omega
        have hf := hm.frozen (l * 11 + 8)
        obtain ⟨v6, c6⟩ : ∃ v, wr.cell? ⟨nb, l * 11 + 8, none⟩ = some v := ⟨_, (hm.cells hl).2.2.2.2.2.2.2.2.1⟩
        have hs1 := hm.setUp HWR.out a hl h0
        have HS1 := Lib.hid hs1
        clear hm HMR hs1
        go_wp2_with fail
        go_roundw
        case rel => exact ⟨.inr (.inl ⟨rfl, Lib.hid (by rw [HN.out.2.1]; exact HS1.out.1)⟩), Lib.hid HS1.out.2⟩
        case measure => simp [intOf]
    · have hm : Mem wr g B sv nb n cap N2 := HMR.out
      have br : wr.cell? ⟨g, 1, none⟩ = _ := hm.blk.cell 1
      have HMK := Lib.hid hm
      by_cases h0 : r = 0
      · have hd : ((r : Int) != 0) = false := by simp [h0]
        have HE : Hid (N3 = N2) := Lib.hid (by rw [HN.out.2.2]; unfold setUp; rw [if_pos h0])
        clear hm HMR h0
        go_wp2_with fail
        go_roundw
        case rel => exact ⟨.inr (.inr ⟨rfl, Lib.hid (by rw [HE.out]; exact HMK.out)⟩), HWR⟩
        case measure => simp [intOf]
      · have hd : ((r : Int) != 0) = true := by simp; omega
        have hf := hm.frozen (r * 11 + 8)
        obtain ⟨v6, c6⟩ : ∃ v, wr.cell? ⟨nb, r * 11 + 8, none⟩ = some v := ⟨_, (hm.cells hr).2.2.2.2.2.2.2.2.1⟩
        have hs1 := hm.setUp HWR.out a hr h0
        have HS1 := Lib.hid hs1
        clear hm HMR hs1
        go_wp2_with fail
        go_roundw
        case rel => exact ⟨.inr (.inr ⟨rfl, Lib.hid (by rw [HN.out.2.2]; exact HS1.out.1)⟩), Lib.hid HS1.out.2⟩
        case measure => simp [intOf]
    · have hm : Mem wr g B sv nb n cap N3 := HMR.out
      have br : wr.cell? ⟨g, 1, none⟩ = _ := hm.blk.cell 1
      obtain ⟨k1, k2, k3, k4⟩ := HK.out
      have hc := tell_any wr g B sv nb n cap N3 hm hn a ha (by rw [k1]; exact hl) (by rw [k2]; exact hr) (by rw [k1]; exact hla) (by rw [k2]; exact hra) (by rw [k1, k2, k3, k4]; exact HS.out)
      rw [← HT.out] at hc
      have HC := Lib.hid hc
      clear hm HMR hc k1 k2 k3 k4
      go_wp2_with fail
      refine HC.out.mono ?_
      rintro e w9 ⟨rfl, h9, m9⟩
      have H9 := Lib.hid h9
      have M9 := Lib.hid m9
      clear h9 m9
      go_wp2_with fail
      go_end0
      exact ⟨rfl, H9.out, HWR.out.trans' M9.out⟩

end Go.Proofs.Ytlakcldgolpaiaa
