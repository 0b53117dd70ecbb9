/-
  The walks of plain's idsOf, Forest, Weight.
-/
import Derived.Test.YtghacfhpafbdmaaGreatG22
namespace Go.Proofs.YtghacfhpafbdmaaGreat
open Go.RowKit Go.Sort
set_option linter.unusedVariables false

theorem flat_encI : ∀ xs : List Int, xs.flatMap encI = xs.map (Value.int .i64)
  | [] => rfl
  | x :: r => by rw [List.flatMap_cons, flat_encI r]; rfl

theorem run_make22 (n : Nat) (hn : n ≤ 1000000) (w : World) : (Instr.makeSlice 22 (.int .i64 0) (.int .i64 (n : Int))).run Tryz.prog w = .ok (.slice (some ⟨w.heap.size, 0, none⟩) 0 n) (w.alloc (.cells (madeCells #[.int .i64 0] n) 3)) := by
  obtain ⟨i, hi, hz0, hz1, hz2⟩ := info_parts info3
  have := run_makeSlice (P := Tryz.prog) w 22 3 i _ Tryz.underlying22 hi hz0 .i64 .i64 0 n (by omega) (by omega) (by rw [hz1]; simp; omega) (by rw [hz2]; omega) (by omega)
  rw [this, hz1]
  simp [Value.cells]

/-- What holds at the head of idsOf's loop. -/
def IdsRel (w : World) (es : List Ed) (n : Nat) (t i : Value) (wr : World) : Prop :=
  ∃ k : Nat, k ≤ n ∧ i = .int .i64 k ∧ Below w.heap.size w wr ∧ OK encI 1 3 wr w.heap.size t ((es.take k).map (·.id))

set_option maxRecDepth 100000 in
set_option maxHeartbeats 2000000 in
theorem idsOf_any (v : Value) (es : List Ed) (w : World) (B : Nat) (he : RE w B v es) (hB : B ≤ w.heap.size) (hlen : es.length ≤ 100000) :
    Calls Tryz.prog 47 #[v] w fun e w' => ∃ v', e = .returned v' ∧ OK encI 1 3 w' w.heap.size v' (es.map (·.id)) ∧ Below w.heap.size w w' := by
  obtain ⟨A, c, rfl, hc1, hc2, hc3, HC⟩ := he.open_
  clear he
  obtain ⟨n, hn⟩ : ∃ n, n = es.length := ⟨_, rfl⟩
  rw [← hn] at hc1 hc3 hlen ⊢
  have HN := Lib.hid hn
  clear hn
  have hmk := fun w => run_make22 n (by omega) w
  go_enter Tryz.func47, Tryz.ntmps47
  go_wp2
  clear hmk
  go_loopw [3, 11] (fun t i wr => IdsRel w es n t i wr) (fun _ i wr => n - (intOf i).toNat)
  case atStart =>
    refine ⟨0, Nat.zero_le _, rfl, (Below.refl _ _).alloc (Nat.le_refl _) _, ?_⟩
    rw [List.take_zero]
    exact ⟨by simp, World.ownsRow_made w _ n (Nat.le_refl _) (by simp only [maxLen]; omega) (by simp [madeCells])⟩
  case round =>
    obtain ⟨k, hk, rfl, hbel, ho⟩ := hrel
    have HB := Lib.hid hbel
    have HO := Lib.hid ho
    have hz := hbel.size
    by_cases hlt : k < n
    · obtain ⟨b, o, rfl, hb, hx⟩ := HC.out k (by have := HN.out; omega)
      obtain ⟨e, hy⟩ : ∃ e, e = es[k]'(by have := HN.out; omega) := ⟨_, rfl⟩
      have hT : (es.take (k + 1)).map (·.id) = (es.take k).map (·.id) ++ [e.id] := by
        rw [List.take_succ_eq_append_getElem (by have := HN.out; omega), List.map_append, ← hy]; rfl
      have hl : ((es.take k).map (·.id)).length ≤ k := by rw [List.length_map]; exact List.length_take_le _ _
      rw [← hy] at hx
      obtain ⟨x0, x1, x2, x3⟩ := cellE hx
      have HT := Lib.hid hT
      have HL := Lib.hid hl
      clear hx hy hT hl
      have x0 := (hbel.cell (p := ⟨b, o + k * 4, none⟩) (by show b < _; omega)).trans x0
      have x1 := (hbel.cell (p := ⟨b, o + k * 4 + 1, none⟩) (by show b < _; omega)).trans x1
      have x2 := (hbel.cell (p := ⟨b, o + k * 4 + 2, none⟩) (by show b < _; omega)).trans x2
      have x3 := (hbel.cell (p := ⟨b, o + k * 4 + 3, none⟩) (by show b < _; omega)).trans x3
      clear hbel ho
      obtain ⟨eid, eu, ev, ew⟩ := e
      dsimp only at *
      have HLo := Lib.hid HO.out.lt
      go_wp2_with (at_builtin; refine wpList_app1 etInts encI_len encI_one rfl (.tmp 15) (.tmp 18) rfl rfl ((HO.out.alloc _).alloc _) (wr.heap.size + 1) rfl (y := eid) (by intro j u hu; rw [World.cell?_alloc_at _ _ _ _ (by simp), ← hu, ← Array.getElem?_toList]; rfl) (by have := HL.out; omega) (by simp; omega) ?_; intro v' w5 ho5 hg5 hb5; have HO5 := Lib.hid ho5; have HG5 := Lib.hid hg5; clear ho5 hg5 hb5)
      go_roundw
      case rel =>
        refine ⟨k + 1, by omega, by go_num, ((HB.out.alloc (by omega) _).alloc (by simp; omega) _).grown HG5.out (by simp; omega) (fun q hq => (HLo.out q hq).1), ?_⟩
        rw [HT.out]; exact HO5.out
      case measure => simp [intOf]; omega
    · obtain rfl : k = n := by omega
      clear hbel ho
      go_wp2
      go_ret
      refine ⟨_, rfl, ?_, HB.out⟩
      have := HO.out
      rw [HN.out, List.take_length] at this
      exact this

theorem sortInts_any (v : Value) (xs : List Int) (w : World) (B : Nat) (h : OK encI 1 3 w B v xs) (hlen : xs.length ≤ 1000000) :
    Calls Tryz.prog 49 #[v] w fun e w' => e = .returned (.tuple #[]) ∧ OK encI 1 3 w' B v (xs.mergeSort fun x y => decide (x ≤ y)) ∧ w.grownBy w' v.ownBlock := by
  obtain ⟨h1, h2⟩ := h
  have hl : (xs.mergeSort fun x y => decide (x ≤ y)).length = xs.length := List.length_mergeSort _
  rcases Nat.eq_zero_or_pos xs.length with h0 | h0
  · have hE : xs = [] := List.eq_nil_of_length_eq_zero h0
    subst hE
    have hsl : ∃ A c, v = .slice A 0 c := by
      rcases h2.2 with ⟨h1, h2⟩ | ⟨g, cap, cur, h1, _⟩
      · exact ⟨none, 0, h1⟩
      · exact ⟨_, _, h1⟩
    obtain ⟨A, c, rfl⟩ := hsl
    refine (Go.Proofs.Tryz.slices_Sort_int_none A c w).mono ?_
    rintro e w' ⟨rfl, rfl⟩
    rw [List.mergeSort_nil]
    exact ⟨rfl, ⟨h1, h2⟩, World.grownBy.refl _ _⟩
  · rcases h2.2 with ⟨_, h3⟩ | ⟨g, cap, cur, rfl, hb, hg, hn, hc, hs, ht⟩
    · omega
    · rw [flat_encI, Nat.mul_one] at ht
      refine (Go.Proofs.Tryz.slices_Sort_int g 0 cap xs w (holds_of_blockI hg ht) ((Array.getElem?_eq_some_iff.1 hg).1) (by omega)).mono ?_
      rintro e w' ⟨rfl, n, os, rfl⟩
      have := ownsRow_sortedI (n := n) (os := os) (ts := xs.mergeSort fun x y => decide (x ≤ y)) (ss := xs) hl hb hg hn hc hs
      refine ⟨rfl, ⟨by rw [hl]; exact h1, ?_⟩, grownBy_sortedI _⟩
      rw [hl, flat_encI]
      exact this
end Go.Proofs.YtghacfhpafbdmaaGreat
