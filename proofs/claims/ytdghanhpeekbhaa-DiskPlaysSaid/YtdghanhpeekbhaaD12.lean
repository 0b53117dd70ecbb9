/-
  The walk of the disk's Loose.
-/
import Derived.Test.YtdghanhpeekbhaaD11
import Derived.Test.YtdghanhpeekbhaaShelf
namespace Go.Proofs.Ytdghanhpeekbhaa
open Go.RowKit Go.Maps Go.Sort Go.Shelf
set_option linter.unusedVariables false

theorem loose_mem (s : DS) (i : Int) : i ∈ s.loose ↔ 0 ≤ i ∧ i < s.safe.length ∧ (s.pend i).isSome = true := by
  unfold DS.loose
  rw [List.mem_map]
  constructor
  · rintro ⟨k, hk, rfl⟩
    rw [List.mem_filter] at hk
    have := List.mem_range.1 hk.1
    exact ⟨by omega, by omega, hk.2⟩
  · rintro ⟨h1, h2, h3⟩
    refine ⟨i.toNat, List.mem_filter.2 ⟨List.mem_range.2 (by omega), ?_⟩, by omega⟩
    rw [show ((i.toNat : Nat) : Int) = i by omega]; exact h3
theorem loose_up (s : DS) : s.loose.Pairwise (· < ·) := by
  unfold DS.loose
  rw [List.pairwise_map]
  exact (List.Pairwise.filter _ (List.pairwise_lt_range)).imp (fun {a b} h => by omega)
theorem loose_sorted (s : DS) : s.loose.mergeSort leI = s.loose :=
  List.mergeSort_of_pairwise ((loose_up s).imp (fun {a b} h => by simp only [leI, decide_eq_true_eq]; omega))
theorem flat_encI (l : List Int) : l.flatMap encI = l.map encZ := by
  induction l with
  | nil => rfl
  | cons x r ih => rw [List.flatMap_cons, List.map_cons, ih]; rfl

theorem sortsI (m : Nat) : AnyZI.SortsIn Try.prog Try.sortedI_ren Fence.wide m :=
  ⟨fun blk off cap ss W hH hblk hsz => callsIn_wide.2 (Try.slices_Sort_int blk off cap ss W hH hblk hsz),
   fun p cap W => callsIn_wide.2 (Try.slices_Sort_int_none p cap W)⟩

set_option maxHeartbeats 1000000 in
theorem Loose_any (w : World) (p sb mb : Nat) (pl : Option Nat) (s : DS) (h : DiskAt w p sb mb pl s) :
    Calls Try.prog 41 #[.pointer (some ⟨p, 0, none⟩)] w fun e w' => ∃ v, e = .returned v ∧ OK encI 1 3 w' w.heap.size v s.loose ∧ Below w.heap.size w w' := by
  obtain ⟨D, hown, hD⟩ := h.pendN
  have a1 : w.cell? ⟨p, 1, none⟩ = some (.map (some mb)) := h.blk.cell 1
  have hperm : s.loose.Perm (intKeys D) := by
    obtain ⟨es, hD1, hpw, _⟩ := hown.entries keyed3
    obtain ⟨es', hD', hko⟩ := hown.keysOf
    obtain rfl : es = es' := by rw [hD1] at hD'; simpa using hD'
    subst hD1
    refine perm_intKeys hpw (fun q hq => by obtain ⟨v, hv⟩ := hko q hq; obtain ⟨x, _, hx, _⟩ := Maps.keyOf_i64 Try.underlying3 hv; exact ⟨x, hx⟩) ((loose_up s).imp (fun {a b} h => by omega)) (fun x => ?_)
    rw [isSome_has hD x, loose_mem]
    cases hp : s.pend x with
    | none => simp
    | some l => have := h.ok.pend x l hp; simp; omega
  have hsize : Maps.size D ≤ 4096 := hown.size_le
  have hmax : Maps.size D ≤ maxLen := by unfold maxLen; omega
  have hbl := hown.lt
  have hll : s.loose.length ≤ 4096 := by
    have h1 : s.loose.length ≤ (List.range s.safe.length).length := by unfold DS.loose; rw [List.length_map]; exact List.length_filter_le _ _
    rw [List.length_range] at h1
    have := h.ok.num
    omega
  have HLL := Lib.hid hll
  have HP := Lib.hid hperm
  clear hll hperm
  refine (callsIn_wide (n := 6)).1 ?_
  have hseq : SeqGives Fence.wide 2 Try.prog 88 #[.pointer (some ⟨w.heap.size, 0, none⟩)] encZ (fun ss => ss.Perm (intKeys D)) (Maps.size D) (w.alloc (.cells #[.map (some mb)] 81)) :=
    AnyZI.keys_gives (ρ := Try.keysI_ren) { Try.keysI with } Fence.wide _ trivial rfl (by omega) w.heap.size mb 4096 D _ (by simp) (by simp) (by
      obtain ⟨es, clock, hb, Ft, hs, hD⟩ := hown
      exact ⟨es, clock, (Below.heap_alloc _ _ mb hbl).trans hb, Ft, hs, hD⟩)
  have cK : ∀ m W, CallsIn Fence.wide 5 Try.prog 73 #[.map m] W fun e w' => e = .returned (.func (.func 88) #[] #[.pointer (some ⟨W.heap.size, 0, none⟩)]) ∧ w' = W.alloc (.cells #[.map m] 81) := fun m W => AnyZI.keys_in Try.keysI Fence.wide 5 trivial rfl m W
  have cS := AnyZI.sorted_in Try.sortedI Fence.wide 5 trivial trivial trivial trivial rfl (by omega) (sortsI _) (enters_of Try.func87 (by kernel_rfl) rfl) 88 #[.pointer (some ⟨w.heap.size, 0, none⟩)] trivial (enters_of Try.func88 (by kernel_rfl) rfl) _ _ hmax (by omega) _ hseq
  change CallsIn _ _ Try.prog 72 _ _ _ at cS
  have hfK : Fence.wide.fn 73 := trivial
  have hfS : Fence.wide.fn 72 := trivial
  clear hown hD hsize hmax h hseq
  refine callsIn_of_wp Try.func41 rfl trivial ?_ rfl
  simp only [Try.ntmps41, List.size_toArray, List.length_cons, List.length_nil, Nat.reduceAdd, Nat.reduceSub, Array.replicate_succ, Array.replicate_zero, List.push_toArray, List.append_toArray, List.nil_append, List.cons_append]
  gi_wp2_with (first
    | (gi_at_call 73; refine (cK _ _).mono ?_; rintro e w' ⟨rfl, rfl⟩)
    | (gi_at_call 72; refine cS.mono ?_; rintro e w' ⟨v, ss, rfl, hS, hrow, hnil, hb⟩))
  go_ret
  have e1 : ss.mergeSort leI = s.loose := by rw [mergeSort_of_perm_i (hS.trans HP.out.symm), loose_sorted]
  have e2 : ss.length = s.loose.length := (hS.trans HP.out.symm).length_eq
  refine ⟨v, rfl, ⟨by have := HLL.out; omega, ?_⟩, ((Below.refl _ w).alloc (Nat.le_refl _) _).trans (hb.mono (by simp))⟩
  have h3 := ownsRow_base_a (base' := w.heap.size) hrow (by simp)
  have e3 : (ss.mergeSort fun x y => decide (x ≤ y)) = s.loose := e1
  rw [e3, e2] at h3
  rw [flat_encI]
  exact h3
end Go.Proofs.Ytdghanhpeekbhaa
