/-
  The walks of the references that PlainNets wants: place, ask, other, Sum, CopyInts.
-/
import Derived.Test.YtghacfhpafbdmaaGreatZT12
namespace Go.Proofs.YtghacfhpafbdmaaGreat
open Go.RowKit
set_option linter.unusedVariables false

theorem place_in (v : Value) (V : List Int) (x : Int) (w : World) (B : Nat) (hv : RI w B v V) (hs : V.Pairwise (· < ·)) (hx : x ∈ V) :
    Calls Tryz.prog 46 #[v, .int .i64 x] w fun e w' => e = .returned (.int .i64 (pl V x : Nat)) ∧ w = w' := by
  obtain ⟨A, c, rfl, hc1, hc2, hc3, HC⟩ := hv.open_
  clear hv
  have hpl := pl_lt hs hx
  have hpm := pl_mem hs hx
  obtain ⟨m, hm⟩ : ∃ m, m = pl V x := ⟨_, rfl⟩
  rw [← hm] at hpl hpm ⊢
  obtain ⟨n, hn⟩ : ∃ n, n = V.length := ⟨_, rfl⟩
  rw [← hn] at hc1 hc3 hpl ⊢
  have HN := Lib.hid hn
  have HS := Lib.hid hs
  have HPm := Lib.hid hpm
  clear hn hm hs hpm hx
  go_enter Tryz.func46, Tryz.ntmps46
  go_wp2
  go_loop [5] (fun i => ∃ k : Nat, k ≤ m ∧ i = .int .i64 k) (fun i => n - (intOf i).toNat)
  case atStart => exact ⟨0, Nat.zero_le _, rfl⟩
  case round =>
    obtain ⟨k, hk, rfl⟩ := hrel
    obtain ⟨b, o, rfl, hb, hx⟩ := HC.out k (by have := HN.out; omega)
    have hx := cellI hx
    obtain ⟨y, hy⟩ : ∃ y, y = V[k]'(by have := HN.out; omega) := ⟨_, rfl⟩
    rw [← hy] at hx
    by_cases hlt : k < m
    · have hne : ¬ y = x := by
        have h1 := List.pairwise_iff_getElem.1 HS.out k m (by have := HN.out; omega) (by have := HN.out; omega) hlt
        obtain ⟨h2, h3⟩ := List.getElem?_eq_some_iff.1 HPm.out
        rw [h3, ← hy] at h1
        omega
      clear hy
      go_wp2
      go_round
      case rel => exact ⟨k + 1, by omega, by go_num⟩
      case measure => simp [intOf]; omega
    · obtain rfl : k = m := by omega
      have hye : y = x := by
        obtain ⟨h2, h3⟩ := List.getElem?_eq_some_iff.1 HPm.out
        rw [hy, h3]
      clear hy
      subst hye
      go_wp2
      go_ret
      exact ⟨rfl, rfl⟩

theorem other_any (e : Ed) (v : Int) (w : World) : Calls Tryz.prog 120 #[.agg #[.int .i64 e.id, .int .i64 e.u, .int .i64 e.v, .int .i64 e.w], .int .i64 v] w fun r w' => r = .returned (.int .i64 (if e.u = v then e.v else e.u)) ∧ Below w.heap.size w w' := by
  obtain ⟨eid, eu, ev, ew⟩ := e
  dsimp only
  by_cases h : eu = v
  · subst h
    rw [if_pos rfl]
    go_enter Tryz.func120, Tryz.ntmps120
    go_wp2
    go_ret
    exact ⟨rfl, (Below.refl _ _).alloc (Nat.le_refl _) _⟩
  · rw [if_neg h]
    go_enter Tryz.func120, Tryz.ntmps120
    go_wp2
    go_ret
    exact ⟨rfl, (Below.refl _ _).alloc (Nat.le_refl _) _⟩

theorem Sum_any (v : Value) (es : List Ed) (w : World) (B : Nat) (he : RE w B v es) (hw : ∀ e ∈ es, 0 ≤ e.w ∧ e.w ≤ 1099511627776) (hl : es.length ≤ 2048) :
    Calls Tryz.prog 56 #[v] w fun e w' => e = .returned (.int .i64 (sumW es)) ∧ w = w' := by
  obtain ⟨A, c, rfl, hc1, hc2, hc3, HC⟩ := he.open_
  clear he
  obtain ⟨n, hn⟩ : ∃ n, n = es.length := ⟨_, rfl⟩
  rw [← hn] at hc1 hc3 hl ⊢
  have HN := Lib.hid hn
  have HW := Lib.hid hw
  clear hn hw
  go_enter Tryz.func56, Tryz.ntmps56
  go_wp2
  go_loop [3, 4] (fun s i => ∃ k : Nat, k ≤ n ∧ i = .int .i64 k ∧ s = .int .i64 (sumW (es.take k))) (fun _ i => n - (intOf i).toNat)
  case atStart => exact ⟨0, Nat.zero_le _, rfl, rfl⟩
  case round =>
    obtain ⟨k, hk, rfl, rfl⟩ := hrel
    have hsb := sumW_bd (es.take k) fun e he => HW.out e (List.mem_of_mem_take he)
    have hsl : (es.take k).length ≤ 2048 := by rw [List.length_take]; omega
    by_cases hlt : k < n
    · obtain ⟨b, o, rfl, hb, hx⟩ := HC.out k (by have := HN.out; omega)
      obtain ⟨e, hy⟩ : ∃ e, e = es[k]'(by have := HN.out; omega) := ⟨_, rfl⟩
      have hT : sumW (es.take (k + 1)) = sumW (es.take k) + e.w := by rw [List.take_succ_eq_append_getElem (by have := HN.out; omega), sumW_snoc, ← hy]
      have hew := HW.out e (by rw [hy]; exact List.getElem_mem _)
      rw [← hy] at hx
      obtain ⟨_, _, _, x3⟩ := cellE hx
      obtain ⟨s, hs⟩ : ∃ s, s = sumW (es.take k) := ⟨_, rfl⟩
      rw [← hs] at hT hsb
      rw [← hs]
      have hs1 : 0 ≤ s := hsb.1
      have hs2 : s ≤ 2251799813685248 := by have := hsb.2; omega
      have hw1 := hew.1
      have hw2 := hew.2
      have HT := Lib.hid hT
      clear hx hy hT hs hsb hsl hew
      go_wp2
      go_round
      case rel => exact ⟨k + 1, by omega, by go_num, by rw [HT.out]⟩
      case measure => simp [intOf]; omega
    · obtain rfl : k = n := by omega
      have hte : es.take k = es := by rw [HN.out, List.take_length]
      rw [hte]
      clear hte hsb hsl
      go_wp2
      go_ret
      exact ⟨rfl, rfl⟩

def CopRel (w : World) (V : List Int) (n : Nat) (t i : Value) (wr : World) : Prop :=
  ∃ k : Nat, k ≤ n ∧ i = .int .i64 k ∧ Below w.heap.size w wr ∧ OK encI 1 3 wr w.heap.size t (V.take k)
set_option maxRecDepth 100000 in
set_option maxHeartbeats 2000000 in
theorem CopyInts_any (v : Value) (V : List Int) (w : World) (B : Nat) (hv : RI w B v V) (hB : B ≤ w.heap.size) (hlen : V.length ≤ 100000) :
    Calls Tryz.prog 39 #[v] w fun e w' => ∃ v', e = .returned v' ∧ OK encI 1 3 w' w.heap.size v' V ∧ Below w.heap.size w w' := by
  obtain ⟨A, c, rfl, hc1, hc2, hc3, HC⟩ := hv.open_
  clear hv
  obtain ⟨n, hn⟩ : ∃ n, n = V.length := ⟨_, rfl⟩
  rw [← hn] at hc1 hc3 hlen ⊢
  have HN := Lib.hid hn
  clear hn
  go_enter Tryz.func39, Tryz.ntmps39
  go_wp2
  go_loopw [3, 4] (fun t i wr => CopRel w V n t i wr) (fun _ i wr => n - (intOf i).toNat)
  case atStart =>
    refine ⟨0, Nat.zero_le _, rfl, (Below.refl _ _).alloc (Nat.le_refl _) _, ?_⟩
    rw [List.take_zero]
    exact ⟨by simp, World.ownsRow_lit w #[] 0 (by omega) (by decide) rfl⟩
  case round =>
    obtain ⟨k, hk, rfl, hbel, ho⟩ := hrel
    have HB := Lib.hid hbel
    have HO := Lib.hid ho
    have hz := hbel.size
    by_cases hlt : k < n
    · obtain ⟨b, o, rfl, hb, hx⟩ := HC.out k (by have := HN.out; omega)
      obtain ⟨y, hy⟩ : ∃ y, y = V[k]'(by have := HN.out; omega) := ⟨_, rfl⟩
      have hT : V.take (k + 1) = V.take k ++ [y] := by rw [List.take_succ_eq_append_getElem (by have := HN.out; omega), ← hy]
      have hl : (V.take k).length ≤ k := List.length_take_le _ _
      rw [← hy] at hx
      have hx := cellI hx
      have HT := Lib.hid hT
      have HL := Lib.hid hl
      have hx := (hbel.cell (p := ⟨b, o + k, none⟩) (by show b < _; omega)).trans hx
      have HLo := Lib.hid HO.out.lt
      clear hy hT hl hbel ho
      go_wp2_with (at_builtin; refine wpList_app1 etInts encI_len encI_one rfl (.tmp 12) (.tmp 17) rfl rfl (HO.out.alloc _) wr.heap.size rfl (y := y) (by intro j u hu; rw [World.cell?_alloc_at _ _ _ _ (by simp), ← hu, ← Array.getElem?_toList]; rfl) (by have := HL.out; omega) (by simp; omega) ?_; intro v' w5 ho5 hg5 hb5; have HO5 := Lib.hid ho5; have HG5 := Lib.hid hg5; clear ho5 hg5 hb5)
      go_roundw
      case rel =>
        refine ⟨k + 1, by omega, by go_num, (HB.out.alloc (by omega) _).grown HG5.out (by simp; omega) (fun q hq => (HLo.out q hq).1), ?_⟩
        rw [HT.out]; exact HO5.out
      case measure => simp [intOf]; omega
    · obtain rfl : k = n := by omega
      clear hbel ho
      go_wp2
      go_ret
      refine ⟨_, rfl, ?_, HB.out⟩
      have := HO.out
      rw [HN.out, List.take_length] at this
      exact this
end Go.Proofs.YtghacfhpafbdmaaGreat
