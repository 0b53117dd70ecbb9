/-
  The walk of skeinref07's Loose.
-/
import Derived.Test.YtdghanhpeekbhaaB5
namespace Go.Proofs.Ytdghanhpeekbhaa
open Go.RowKit Go.Maps
set_option linter.unusedVariables false

theorem etIB : ElemT 48 3 1 8 := elemT_of (z := .int .i64 0) Try.underlying48 (by kernel_rfl) (by kernel_rfl) (by decide) (by decide) (by decide)
theorem encIB_len (x : Int) : (encI x).length = 1 := rfl
theorem encIB_one (x : Int) : ∀ u ∈ encI x, u.oneCell' = true := by intro u hu; simp [encI] at hu; subst hu; rfl
def looseF (n : Nat) (f : Nat → List Nat × Option (List Nat)) : List Int := ((List.range n).filter fun i => (f i).2.isSome).map fun i : Nat => (i : Int)
theorem looseF_succ (k : Nat) (f : Nat → List Nat × Option (List Nat)) : looseF (k + 1) f = looseF k f ++ if (f k).2.isSome = true then [(k : Int)] else [] := by
  unfold looseF
  rw [List.range_succ, List.filter_append, List.map_append]
  congr 1
  cases h : (f k).2.isSome <;> simp [h]
theorem looseF_len (n : Nat) (f : Nat → List Nat × Option (List Nat)) : (looseF n f).length ≤ n := by
  unfold looseF
  rw [List.length_map]
  have := List.length_filter_le (fun i => (f i).2.isSome) (List.range n)
  rw [List.length_range] at this
  exact this
theorem wpList_appIB {w : World} {B : Nat} {v : Value} {xs : List Int} {k : Int} {ops : Array Oper} {rest : List Oper} {o : Oper} {a : Act} {Q : Exit → Act → World → Prop}
    (h : OK encI 1 3 w B v xs) (hgd : o.guard = none) (s x : Operand)
    (ho : o.op = .call { callee := .builtin .append, args := #[s, x], argTypes := #[48, 48] })
    (hs : a.eval s = v) (hx : a.eval x = .slice (some ⟨w.heap.size, 0, none⟩) 1 1) (hlen : xs.length + 1 ≤ 1000000) (hB : B ≤ w.heap.size)
    (hK : ∀ A' c' w', OK encI 1 3 w' B (.slice A' (xs.length + 1) c') (xs ++ [k]) → Mod (fun q => some q = v.ownBlock) w w' → wpList Try.prog ops Q rest (a.put o.dst (.slice A' (xs.length + 1) c')) w') :
    wpList Try.prog ops Q (o :: rest) a (w.alloc (.cells #[.int .i64 k] 3)) := by
  refine wpList_appE etIB encIB_len encIB_one (y := k) hgd s x ho hs (h.alloc _) w.heap.size hx (by intro j u hu; rw [(Blk.new w _ _).cell j]; simpa [encI] using hu) hlen (by simp; omega) ?_
  intro v' w' k1 k2 k3
  have hm : Mod (fun q => some q = v.ownBlock) w w' := ((Mod.refl _ w).alloc _).trans' (Mod.of_grown k2)
  obtain ⟨A', c', e, -, -, -, -⟩ := (k1.rk encIB_len (Nat.le_refl _)).open_
  have hl : (xs ++ [k]).length = xs.length + 1 := by simp
  rw [hl] at e
  subst e
  exact hK A' c' w' k1 hm

set_option maxRecDepth 100000 in
set_option maxHeartbeats 2000000 in
theorem refLoose_any (w : World) (B : Nat) (A : Option Addr) (n c : Nat) (xs : List Spt) (f : Nat → List Nat × Option (List Nat)) (h : SpRow w B (.slice A n c) xs f) (hn : xs.length = n) (hn4 : n ≤ 4096) (P : Option Addr) (pn pc st : Nat) (off : Bool) :
    Calls Try.prog 55 #[dkV A n c P pn pc st off] w fun e w' => ∃ v', e = .returned v' ∧ OK encI 1 3 w' w.heap.size v' (looseF n f) ∧ Below w.heap.size w w' := by
  have H := Lib.hid h
  have HN := Lib.hid hn
  obtain ⟨W0, hW0⟩ : ∃ W0, W0 = w.alloc (.cells #[.slice A n c, .slice P pn pc, .int .i64 (st : Int), .bool off] 46) := ⟨_, rfl⟩
  have hb0 : Below w.heap.size w W0 := by rw [hW0]; exact (Below.refl _ _).alloc (Nat.le_refl _) _
  have hB0 : Blk W0 w.heap.size 46 #[.slice A n c, .slice P pn pc, .int .i64 (st : Int), .bool off] := by rw [hW0]; exact Blk.new _ _ _
  have hz0 : W0.heap.size = w.heap.size + 1 := by rw [hW0]; simp
  have HB0 := Lib.hid hb0
  have HBD := Lib.hid hB0
  have HW0 := Lib.hid hW0
  have HZ0 := Lib.hid hz0
  unfold dkV
  clear h hn hW0 hb0 hB0 hz0
  go_enter Try.func55, Try.ntmps55
  go_wp2_with fail
  rw [← HW0.out]
  try rw [← HZ0.out]
  go_loopw [3, 4] (fun x q wr => ∃ (k m : Nat) (A1 : Option Addr) (c1 : Nat) (ys : List Int), k ≤ n ∧ q = .int .i64 (k : Int) ∧ x = .slice A1 m c1 ∧ Hid (ys.length = m) ∧ Hid (ys = looseF k f) ∧ Hid (OK encI 1 3 wr W0.heap.size (.slice A1 m c1) ys) ∧ Hid (Below W0.heap.size W0 wr)) (fun x q wr => n - (intOf q).toNat)
  case atStart => exact ⟨0, 0, _, 0, [], Nat.zero_le _, rfl, rfl, rfl, rfl, OK.empty (Nat.le_refl _), Lib.hid ((Below.refl _ _).alloc (Nat.le_refl _) _)⟩
  case round =>
    obtain ⟨k, m, A1, c1, ys, hk, rfl, rfl, HYL, HYE, HY, HB⟩ := hrel
    have hbd := HBD.out.below HB.out HBD.out.lt
    have D0 : wr.cell? ⟨w.heap.size, 0, none⟩ = some (.slice A n c) := hbd.cell 0
    have HBELOW : Hid (Below w.heap.size w wr) := Lib.hid (HB0.out.trans (HB.out.mono HB0.out.size))
    have HYL1 : Hid (ys.length + 1 ≤ 1000000) := Lib.hid (by have := looseF_len k f; rw [HYE.out]; omega)
    clear hbd
    by_cases hlt : k < n
    · obtain ⟨b, o, a1, n1, d1, a2, n2, d2, lo, hg⟩ := ((H.out.below HBELOW.out).get HN.out hlt)
      obtain rfl := hg.eq
      have x2 := hg.x2
      have hlo := hg.at_.lo
      dsimp only at hlo
      have HLO := Lib.hid hlo
      clear hg hlo
      cases lo with
      | true =>
        have HE : Hid (ys ++ [(k : Int)] = looseF (k + 1) f) := Lib.hid (by rw [looseF_succ, HYE.out, ← HLO.out]; rfl)
        have HSZ : Hid (W0.heap.size ≤ wr.heap.size) := Lib.hid HB.out.size
        go_wp2_with (at_builtin; go_must (refine wpList_appIB (k := (k : Int)) HY.out rfl (.tmp 19) (.tmp 21) rfl rfl rfl HYL1.out HSZ.out ?_); intro A4 c4 w4 q1 q2; rw [HYL.out] at q1 ⊢; have Q1 := Lib.hid q1; have Q2 := Lib.hid q2; clear q1 q2)
        go_roundw
        case rel => exact ⟨k + 1, m + 1, A4, c4, _, by omega, by go_num, rfl, Lib.hid (by simp [HYL.out]), HE, Q1, Lib.hid (((Mod.of_below HB.out (fun q => W0.heap.size ≤ q)).trans Q2.out (fun q _ e => (HY.out.lt q e.symm).1)).below (Nat.le_refl _) (fun _ h => h))⟩
        case measure => simp [intOf]; omega
      | false =>
        have HE : Hid (ys = looseF (k + 1) f) := Lib.hid (by rw [looseF_succ, HYE.out, ← HLO.out]; simp)
        go_wp2_with fail
        go_roundw
        case rel => exact ⟨k + 1, m, A1, c1, ys, by omega, by go_num, rfl, HYL, HE, HY, HB⟩
        case measure => simp [intOf]; omega
    · obtain rfl : k = n := by omega
      go_wp2_with fail
      go_ret
      exact ⟨_, rfl, by rw [← HYE.out]; exact HY.out.base (by rw [HZ0.out]; omega), HBELOW.out⟩
end Go.Proofs.Ytdghanhpeekbhaa
