/-
  The walk of the table's Live.
-/
import Derived.Test.YtgahkloldpjnkaaMV4
import Derived.Test.YtgahkloldpjnkaaShelf
namespace Go.Proofs.Ytgahkloldpjnkaa
open Go.RowKit Go.Maps Go.Sort Go.Shelf
set_option linter.unusedVariables false

theorem nums_sorted (M : MV) : M.nums.mergeSort leI = M.nums :=
  List.mergeSort_of_pairwise ((nums_up M).imp (fun {a b} h => by simp only [leI, decide_eq_true_eq]; omega))

theorem flat_encI (l : List Int) : l.flatMap encI = l.map encZ := by
  induction l with
  | nil => rfl
  | cons x r ih => rw [List.flatMap_cons, List.map_cons, ih]; rfl

theorem sortsI (m : Nat) : AnyZI.SortsIn Try.prog Try.sortedI_ren Fence.wide m :=
  ⟨fun blk off cap ss W hH hblk hsz => callsIn_wide.2 (Try.slices_Sort_int blk off cap ss W hH hblk hsz),
   fun p cap W => callsIn_wide.2 (Try.slices_Sort_int_none p cap W)⟩

set_option maxRecDepth 100000 in
set_option maxHeartbeats 1000000 in
theorem Live_any (w : World) (g lb cb : Nat) (bl : Int → Nat) (M : MV) (h : MvAt w g lb cb bl M) :
    Calls Try.prog 12 #[.pointer (some ⟨g, 0, none⟩)] w fun e w' => ∃ v, e = .returned v ∧ OK encI 1 3 w' w.heap.size v M.nums ∧ Below w.heap.size w w' := by
  have hfew := h.ok.few
  obtain ⟨D, hown, hD⟩ := h.live
  have a1 : w.cell? ⟨g, 2, none⟩ = some (.map (some lb)) := h.blk.cell 2
  have hperm : M.nums.Perm (intKeys D) := by
    obtain ⟨es, hD1, hpw, _⟩ := hown.entries keyed3
    obtain ⟨es', hD', hko⟩ := hown.keysOf
    obtain rfl : es = es' := by rw [hD1] at hD'; simpa using hD'
    subst hD1
    refine perm_intKeys hpw (fun q hq => by obtain ⟨v, hv⟩ := hko q hq; obtain ⟨x, _, _, hx⟩ := invI hv; exact ⟨x, hx⟩) (nums_nodup M) (fun x => ?_)
    rw [mem_nums]
    constructor
    · intro hx
      obtain ⟨y, hy⟩ := Option.isSome_iff_exists.1 hx
      have := MapG.has_eq (X := kI) hD (live_64 h.ok hy)
      refine this.trans ?_
      rw [hy]; rfl
    · intro hx
      obtain ⟨q, hq, hs⟩ := List.any_eq_true.1 hx
      obtain ⟨v, hv⟩ := hko q hq
      obtain ⟨y, hy, _, hl⟩ := invI hv
      have e := WideAt.sameKey_eq hs
      rw [hl] at e
      injection e with _ e
      subst e
      have := MapG.has_eq (X := kI) hD hy
      rw [show Maps.has (.map es) (kI.kl y) = true from hx] at this
      simpa using this.symm
  have hsize : Maps.size D ≤ 8 := hown.size_le
  have hmax : Maps.size D ≤ maxLen := by unfold maxLen; omega
  have hbl := hown.lt
  have HLL := Lib.hid hfew
  have HP := Lib.hid hperm
  clear hfew hperm
  refine (callsIn_wide (n := 6)).1 ?_
  have hseq : SeqGives Fence.wide 2 Try.prog 38 #[.pointer (some ⟨w.heap.size, 0, none⟩)] encZ (fun ss => ss.Perm (intKeys D)) (Maps.size D) (w.alloc (.cells #[.map (some lb)] 57)) :=
    AnyZI.keys_gives (ρ := Try.keysI_ren) { Try.keysI with } Fence.wide _ trivial rfl (by omega) w.heap.size lb 8 D _ (by simp) (by simp) (by
      obtain ⟨es, clock, hb, Ft, hs, hD⟩ := hown
      exact ⟨es, clock, (Below.heap_alloc _ _ lb hbl).trans hb, Ft, hs, hD⟩)
  have cK : ∀ m W, CallsIn Fence.wide 5 Try.prog 32 #[.map m] W fun e w' => e = .returned (.func (.func 38) #[] #[.pointer (some ⟨W.heap.size, 0, none⟩)]) ∧ w' = W.alloc (.cells #[.map m] 57) := fun m W => AnyZI.keys_in Try.keysI Fence.wide 5 trivial rfl m W
  have cS := AnyZI.sorted_in Try.sortedI Fence.wide 5 trivial trivial trivial trivial rfl (by omega) (sortsI _) (enters_of Try.func37 (by kernel_rfl) rfl) 38 #[.pointer (some ⟨w.heap.size, 0, none⟩)] trivial (enters_of Try.func38 (by kernel_rfl) rfl) _ _ hmax (by omega) _ hseq
  change CallsIn _ _ Try.prog 31 _ _ _ at cS
  have hfK : Fence.wide.fn 32 := trivial
  have hfS : Fence.wide.fn 31 := trivial
  clear hown hD hsize hmax h hseq
  refine callsIn_of_wp Try.func12 rfl trivial ?_ rfl
  simp only [Try.ntmps12, List.size_toArray, List.length_cons, List.length_nil, Nat.reduceAdd, Nat.reduceSub, Array.replicate_succ, Array.replicate_zero, List.push_toArray, List.append_toArray, List.nil_append, List.cons_append]
  gi_wp2_with (first
    | (gi_at_call 32; refine (cK _ _).mono ?_; rintro e w' ⟨rfl, rfl⟩)
    | (gi_at_call 31; refine cS.mono ?_; rintro e w' ⟨v, ss, rfl, hS, hrow, hnil, hb⟩))
  go_ret
  have e1 : ss.mergeSort leI = M.nums := by rw [mergeSort_of_perm_i (hS.trans HP.out.symm), nums_sorted]
  have e2 : ss.length = M.nums.length := (hS.trans HP.out.symm).length_eq
  refine ⟨v, rfl, ⟨by have := HLL.out; omega, ?_⟩, ((Below.refl _ w).alloc (Nat.le_refl _) _).trans (hb.mono (by simp))⟩
  have h3 := ownsRow_base_a (base' := w.heap.size) hrow (by simp)
  have e3 : (ss.mergeSort fun x y => decide (x ≤ y)) = M.nums := e1
  rw [e3, e2] at h3
  rw [flat_encI]
  exact h3

end Go.Proofs.Ytgahkloldpjnkaa
