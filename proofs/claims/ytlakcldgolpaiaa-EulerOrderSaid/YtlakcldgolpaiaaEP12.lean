/-
  The walk of list, which calls itself.
-/
import Derived.Test.YtlakcldgolpaiaaEP11
import Derived.Test.YtlakcldgolpaiaaAP
namespace Go.Proofs.Ytlakcldgolpaiaa
open Go.RowKit
set_option linter.unusedVariables false

theorem etInts : ElemT 22 3 1 8 := elemT_of (z := .int .i64 0) Try.underlying22 (by kernel_rfl) (by kernel_rfl) (by decide) (by decide) (by decide)

def natI (x : Nat) : Int := (x : Int)

theorem Mem.belowB {w w' : World} {g B B2 : Nat} {sv : Value} {nb n cap : Nat} {N : Nodes SV} (h : Mem w g B sv nb n cap N) (hb : Below B2 w w') (hg : g < B2) (hnb : nb < B2) : Mem w' g B sv nb n cap N := by
  refine ⟨h.blk.below hb hg, h.nodes.1, h.nodes.2.1, ?_⟩
  rcases h.nodes.2.2 with ⟨e, _⟩ | ⟨q, c, cur, e, hq, hh, r⟩
  · cases e
  · refine .inr ⟨q, c, cur, e, hq, ?_, r⟩
    injection e with e1
    injection e1 with e1
    injection e1 with e1
    subst e1
    exact (hb.block nb hnb).trans hh

theorem oneI (w : World) (y : Int) (t : TypeId) : ∀ (j : Nat) u, (encI y)[j]? = some u → (w.alloc (.cells #[.int .i64 y] t)).cell? ⟨w.heap.size, j, none⟩ = some u := by
  intro j u hu; rw [(Blk.new w _ _).cell j]; simpa [encI] using hu

theorem base1 {w : World} {B : Nat} (hz : B ≤ w.heap.size) (o : Obj) : B ≤ (w.alloc o).heap.size := by simp; omega

set_option maxRecDepth 100000 in
set_option maxHeartbeats 4000000 in
theorem list_any {g B : Nat} {sv : Value} {nb n cap B2 : Nat} (hn : n ≤ 65537) (hg : g < B2) (hnb : nb < B2) : ∀ (t : Tr) (w : World) (N : Nodes SV) (v : Value) (xs : List Int), Mem w g B sv nb n cap N → Laid N t → OK encI 1 3 w B2 v xs → B2 ≤ w.heap.size → (∀ i ∈ t.list, 0 < i ∧ i < n) → xs.length + t.list.length ≤ 900000 →
    Calls Try.prog 76 #[.pointer (some ⟨g, 0, none⟩), v, .int .i64 (t.root : Int)] w fun e w' => ∃ v', e = .returned v' ∧ OK encI 1 3 w' B2 v' (xs ++ t.list.map natI) ∧ Below B2 w w' := by
  intro t
  induction t with
  | nil =>
    intro w N v xs hM hL hO hB hp hx
    obtain ⟨A, c, rfl, -, -, -, -⟩ := (hO.rk encI_len (Nat.le_refl _)).open_
    have HO : Hid (OK encI 1 3 w B2 (.slice A xs.length c) (xs ++ Tr.nil.list.map natI)) := Lib.hid (by simpa [Tr.list] using hO)
    change Calls Try.prog _ #[.pointer (some ⟨g, 0, none⟩), .slice A xs.length c, .int .i64 0] w _
    clear hM hL hO hp hx
    go_enter Try.func76, Try.ntmps76
    go_wp2_with fail
    go_ret
    exact ⟨_, rfl, HO.out, Below.refl _ _⟩
  | node l a r ihl ihr =>
    intro w N v xs hM hL hO hB hp hx
    obtain ⟨A, c, rfl, -, -, -, -⟩ := (hO.rk encI_len (Nat.le_refl _)).open_
    change Calls Try.prog _ #[.pointer (some ⟨g, 0, none⟩), .slice A xs.length c, .int .i64 (a : Int)] w _
    have ha := hp a (by simp [Tr.list])
    have ha0 : ((a : Int) == 0) = false := by simp; omega
    have ha2 := ha.2
    have b1 : w.cell? ⟨g, 1, none⟩ = _ := hM.blk.cell 1
    have l7 := (hM.cells ha2).2.2.2.2.2.2.2.2.2.1
    rw [hL.1] at l7
    obtain ⟨lr, hlr⟩ : ∃ x, x = l.root := ⟨_, rfl⟩
    rw [← hlr] at l7
    have hlen : xs.length + (l.list.length + (r.list.length + 1)) ≤ 900000 := by simpa [Tr.list] using hx
    have hc1 := ihl w N (.slice A xs.length c) xs hM hL.2.2.2.2.1 hO hB (fun i hi => hp i (by simp [Tr.list, hi])) (by omega)
    rw [← hlr] at hc1
    have hc2 : ∀ W A2 n2 c2, Below B2 w W → B2 ≤ W.heap.size → OK encI 1 3 W B2 (.slice A2 n2 c2) (xs ++ l.list.map natI ++ [(a : Int)]) → W.cell? ⟨g, 1, none⟩ = some (.slice (some ⟨nb, 0, none⟩) n cap) ∧ W.cell? ⟨nb, a * 11 + 10, none⟩ = some (.int .i64 (r.root : Int)) ∧
        Hid (Calls Try.prog 76 #[.pointer (some ⟨g, 0, none⟩), .slice A2 n2 c2, .int .i64 (r.root : Int)] W fun e w' => ∃ v', e = .returned v' ∧ Hid (OK encI 1 3 w' B2 v' (xs ++ (Tr.node l a r).list.map natI) ∧ Below B2 w w')) := by
      intro W A2 n2 c2 hbW hBW hO2
      have hMW := hM.belowB hbW hg hnb
      have r8 := (hMW.cells ha2).2.2.2.2.2.2.2.2.2.2
      rw [hL.2.1] at r8
      refine ⟨hMW.blk.cell 1, r8, Lib.hid ?_⟩
      refine (ihr W N _ _ hMW hL.2.2.2.2.2.1 hO2 hBW (fun i hi => hp i (by simp [Tr.list, hi])) (by simp; omega)).mono ?_
      rintro e w' ⟨v', rfl, h1, h2⟩
      exact ⟨v', rfl, Lib.hid ⟨by simpa [Tr.list, natI] using h1, hbW.trans h2⟩⟩
    have hL1 : (xs ++ l.list.map natI).length + 1 ≤ 1000000 := by simp; omega
    obtain ⟨ys, hys⟩ : ∃ ys, ys = xs ++ l.list.map natI := ⟨_, rfl⟩
    rw [← hys] at hc1 hc2 hL1
    have HC1 := Lib.hid hc1
    have HC2 := Lib.hid hc2
    have HL1 := Lib.hid hL1
    clear hys hL1
    clear hM hL hO hp hx hc1 hc2 ihl ihr hlr ha hlen
    go_enter Try.func76, Try.ntmps76
    go_wp2_with fail
    refine HC1.out.mono ?_
    rintro e w1 ⟨v1, rfl, o1, b1'⟩
    obtain ⟨A1, c1, hv1, -, -, -, -⟩ := (o1.rk encI_len (Nat.le_refl _)).open_
    subst hv1
    have O1 := Lib.hid o1
    have BW1 := Lib.hid b1'
    have hz1 : B2 ≤ w1.heap.size := Nat.le_trans hB b1'.size
    clear o1 b1' HC1
    go_wp2_with (first
      | (at_builtin; go_loud (refine wpList_appE etInts encI_len encI_one (y := (a : Int)) rfl (.tmp 20) (.tmp 22) rfl rfl (O1.out.alloc _) w1.heap.size rfl (oneI w1 (a : Int) _) HL1.out (base1 hz1 _) ?_; intro v2 w2 k1 k2 k3; obtain ⟨A2, c2, hv2, -, -, -, -⟩ := (k1.rk encI_len (Nat.le_refl _)).open_; obtain ⟨n2, hn2⟩ : ∃ n2, n2 = (ys ++ [(a : Int)]).length := ⟨_, rfl⟩; rw [← hn2] at hv2; clear hn2; subst hv2; have hb2 : Below B2 w w2 := (BW1.out.alloc hz1 _).grown k2 (base1 hz1 _) (fun k hk => (O1.out.lt k hk).1); have hz2 : B2 ≤ w2.heap.size := Nat.le_trans (base1 hz1 _) k2.size; obtain ⟨y1, y8, HCR⟩ := HC2.out w2 A2 _ c2 hb2 hz2 k1; clear k1 k2 k3 hb2 b1 l7)))
    refine HCR.out.mono ?_
    rintro e w3 ⟨v3, rfl, HR3⟩
    obtain ⟨A3, c3, hv3, -, -, -, -⟩ := (HR3.out.1.rk encI_len (Nat.le_refl _)).open_
    obtain ⟨n3, hn3⟩ : ∃ n3, n3 = (xs ++ (Tr.node l a r).list.map natI).length := ⟨_, rfl⟩
    rw [← hn3] at hv3
    clear hn3
    subst hv3
    go_wp2_with fail
    go_ret
    exact ⟨_, rfl, HR3.out.1, HR3.out.2⟩

end Go.Proofs.Ytlakcldgolpaiaa
