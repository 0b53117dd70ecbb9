/-
  What the laws' proofs share: a slice of bytes that came in reads as a list of numbers, within the form's reach.
-/
import Derived.Test.YtbmjiheclagfiaaBase
import Derived.ProofKit
import Derived.OpenShut
import Derived.ShutString
import Derived.ChangeOld
import Derived.SizedLaws
namespace Go.Proofs.Ytbmjiheclagfiaa
open Go.ChangeShapes Go.WideShapes Go.ChangeAt Go.RowKit
open Go.ChangeMaps (open_string shut_string)
set_option linter.unusedVariables false

theorem own : ownKnob Try.prog.godebug = none := by kernel_rfl
theorem laidOut : laidOutB Try.prog = true := by kernel_rfl
theorem bytes5 : Try.prog.bytesOf 5 = 1 := by kernel_rfl

theorem slice_in {H : Type} {enc : TypeId × Value → H} {W : World} {a0 : Option Addr} {len0 cap0 : Nat} {d0 : DataW H} {p0 : List MemPlace}
    (h0 : DataW.Trod enc Try.prog W 0 (fun _ => true) true 22 (.slice a0 len0 cap0) d0 p0)
    (hs : ∀ elems spare, d0 = .slice elems spare → (elems.length + spare.length) * Try.prog.bytesOf 5 ≤ reachBytes) :
    ∃ l, RB W W.heap.size (.slice a0 len0 cap0) l ∧ l.length ≤ 140737488351232 := by
  obtain ⟨fuel, hf⟩ := h0
  rcases open_ints Try.underlying22 Try.underlying5 (by kernel_rfl) hf with ⟨hcs, _⟩ | ⟨x, l, c, zs, hcs, _, hl, hm, hz, hx, hcell, hwz⟩
  · simp [Value.cells] at hcs
    obtain ⟨rfl, rfl, rfl⟩ := hcs
    exact ⟨[], ⟨by simp, by simp, none, 0, rfl, by simp, by simp, .inl rfl⟩, by simp⟩
  · simp [Value.cells] at hcs
    obtain ⟨rfl, rfl, rfl⟩ := hcs
    simp only [Prod.mk.injEq] at hx
    obtain ⟨hd, _⟩ := hx
    simp only [if_true] at hz
    have hreach := hs _ _ hd
    rw [bytes5] at hreach
    simp only [lits, List.length_map, List.length_take, List.length_drop, reachBytes] at hreach
    have hb : ∀ n ∈ zs, 0 ≤ n ∧ n ≤ 255 := by
      intro n hn
      have := hwz n hn
      simp [Lit.wf, IntKind.min, IntKind.max, IntKind.signed, IntKind.bits] at this
      omega
    have hlen : ((zs.take len0).map Int.toNat).length = len0 := by rw [List.length_map, List.length_take]; omega
    refine ⟨(zs.take len0).map Int.toNat, ?_, by omega⟩
    refine ⟨?_, by omega, some x, cap0, by rw [hlen], by omega, by simpa [maxLen] using hm, ?_⟩
    · intro y hy
      rw [List.mem_map] at hy
      obtain ⟨n, hn, rfl⟩ := hy
      have := hb n (List.mem_of_mem_take hn)
      omega
    · obtain ⟨b, off, spot⟩ := x
      rcases Nat.eq_zero_or_pos zs.length with h0 | h0
      · exact .inl (List.eq_nil_of_length_eq_zero (by rw [hlen]; omega))
      · have hspot : spot = none := by simpa [Addr.add] using World.cell?_spot (hcell 0 h0)
        subst hspot
        have hblt : b < W.heap.size := by
          have := World.block_lt_of_cell? W _ (hcell 0 h0)
          simpa [Addr.add] using this
        refine .inr ⟨b, off, rfl, hblt, ?_⟩
        intro j y hj
        rw [List.getElem?_map] at hj
        have hjl : j < len0 := by
          rcases Nat.lt_or_ge j len0 with h | h
          · exact h
          · rw [List.getElem?_eq_none (by rw [List.length_take]; omega)] at hj; simp at hj
        rw [List.getElem?_take, if_pos hjl] at hj
        have hc := hcell j (by omega)
        rw [List.getD_eq_getElem?_getD] at hc
        cases hz : zs[j]? with
        | none => rw [hz] at hj; simp at hj
        | some n =>
          rw [hz] at hj hc
          simp at hj hc
          have := hb n (List.mem_of_getElem? hz)
          subst hj
          have e : (⟨b, off, none⟩ : Addr).add j = ⟨b, off + j, none⟩ := by unfold Addr.add; split <;> simp_all
          rw [e] at hc
          rw [hc]
          congr 2
          omega
end Go.Proofs.Ytbmjiheclagfiaa
