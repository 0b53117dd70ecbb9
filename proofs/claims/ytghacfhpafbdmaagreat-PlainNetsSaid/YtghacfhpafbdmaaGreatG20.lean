/-
  What the library's sort leaves of a row of edges.
-/
import Derived.Test.YtghacfhpafbdmaaGreatG19
namespace Go.Proofs.YtghacfhpafbdmaaGreat
open Go.RowKit Go.Sort Go.Shelf
set_option linter.unusedVariables false

theorem heap_putRow {α : Type} [Inhabited α] {en : α → Value} {w : World} {g n : Nat} {os : Array Obj} {cur : Array Value} {e : TypeId} {fr : Nat × Nat} (d : Array α) (hb : w.heap[g]? = some (.cells cur e fr)) :
    (grow (putRow en (Sort.ahead w n) g 0 d) os).heap[g]? = some (.cells (putCells en 0 d cur) e fr) := by
  have hg : g < w.heap.size := (Array.getElem?_eq_some_iff.1 hb).1
  rw [heap_grow_old _ _ (by simpa using hg)]
  simp [putRow, mapBlock, Sort.ahead, Array.getElem?_modify, hb, onCells]
theorem take_putCells (cur F : Array Value) (h : F.size ≤ cur.size) : (putCells id 0 F cur).toList.take F.size = F.toList := by
  apply List.ext_getElem?
  intro j
  by_cases hj : j < F.size
  · rw [List.getElem?_take_of_lt hj, Array.getElem?_toList]
    simp [putCells, hj, show j < cur.size by omega]
  · rw [List.getElem?_take_eq_none (by omega), List.getElem?_eq_none (by simp; omega)]

section
variable {α : Type} [Inhabited α] {enc : α → List Value} {k : Nat}
theorem flatK_toList (hk : ∀ x, (enc x).length = k) (hpos : 0 < k) (xs : List α) : (flatK enc k xs.toArray).toList = xs.flatMap enc := by
  apply List.ext_getElem
  · simp [flatK, flat_len hk]
  · intro t h1 h2
    have h3 : t < xs.length * k := by rwa [flat_len hk] at h2
    have hdiv : t / k < xs.length := by rw [Nat.div_lt_iff_lt_mul hpos]; exact h3
    have hmod : t % k < k := Nat.mod_lt _ hpos
    have hu : (enc xs[t / k])[t % k]? = some ((enc xs[t / k])[t % k]'(by rw [hk]; exact hmod)) := List.getElem?_eq_getElem _
    have := flat_get hk xs (t / k) xs[t / k] (List.getElem?_eq_getElem hdiv) (t % k) _ hu
    rw [Nat.div_add_mod'] at this
    rw [List.getElem?_eq_getElem h2] at this
    injection this with this
    rw [this]
    simp [flatK, hdiv, hk, hmod]
theorem holdsK_of_own {w : World} {B g cap E : Nat} {xs : List α} (hk : ∀ x, (enc x).length = k) (hpos : 0 < k) (h : w.ownsRow B E k (.slice (some ⟨g, 0, none⟩) xs.length cap) xs.length (xs.flatMap enc)) : HoldsK enc k w g 0 xs.toArray := by
  intro t ht
  have ht' : t < xs.length * k := by simpa using ht
  refine ⟨?_, h.frozenAt _⟩
  rw [Nat.zero_add, h.cellAt t ht', ← flatK_toList hk hpos]
  have : t < (flatK enc k xs.toArray).size := ht
  simp only [id, Array.getElem?_toList]
  rw [Array.getElem?_eq_getElem this, getElem!_pos _ t this]
theorem own_sortedK {w : World} {B g cap E n : Nat} {xs ys : List α} {os : Array Obj} (hk : ∀ x, (enc x).length = k) (hpos : 0 < k) (hl : ys.length = xs.length) (h : w.ownsRow B E k (.slice (some ⟨g, 0, none⟩) xs.length cap) xs.length (xs.flatMap enc)) :
    (sortWorldK enc k w g 0 n ys.toArray os).ownsRow B E k (.slice (some ⟨g, 0, none⟩) xs.length cap) xs.length (ys.flatMap enc) := by
  refine ⟨by rw [flat_len hk, hl], ?_⟩
  rcases h.2 with ⟨h', _⟩ | ⟨g', cap', cur, h', hb, hg, hnc, hcm, hcs, htake⟩
  · simp at h'
  · simp only [Value.slice.injEq, Option.some.injEq, Addr.mk.injEq, and_true, true_and] at h'
    obtain ⟨rfl, rfl⟩ := h'
    refine .inr ⟨g, cap, _, rfl, hb, heap_putRow (n := n) (os := os) (en := id) (flatK enc k ys.toArray) hg, hnc, hcm, by simp [putCells, hcs], ?_⟩
    have hs : (flatK enc k ys.toArray).size = xs.length * k := by simp [hl]
    have := take_putCells cur (flatK enc k ys.toArray) (by rw [hs, hcs]; exact Nat.mul_le_mul_right _ hnc)
    rw [hs, flatK_toList hk hpos] at this
    exact this
theorem grownBy_sortK {w : World} {g n : Nat} {os : Array Obj} (d : Array α) : w.grownBy (sortWorldK enc k w g 0 n d os) (some g) := grownBy_putRow (en := id) _
end

theorem sortE_of_array {E : List Ed} {d' : Array Ed} (hid : E.Pairwise (fun a b => a.id < b.id)) (hp : PermIn 0 E.toArray.size E.toArray d') (hs : SortedIn (ltOf cfW) 0 E.toArray.size d') : d'.toList = sortE E := by
  obtain ⟨hsz, _, hperm⟩ := hp
  have e1 : d'.extract 0 E.toArray.size = d' := by rw [← hsz]; exact Array.extract_size
  rw [e1, Array.extract_size] at hperm
  refine sortE_of hid (by simpa using hperm) ?_
  rw [List.pairwise_iff_getElem]
  intro i j hi hj hij
  have hi' : i < d'.size := by simpa using hi
  have hj' : j < d'.size := by simpa using hj
  have := hs i j (Nat.zero_le _) hij (by omega)
  rw [getElem!_pos d' j hj', getElem!_pos d' i hi', ltOf_cfW] at this
  simp only [Array.getElem_toList]
  simp [ltW, leW] at this ⊢
  omega

set_option maxHeartbeats 1000000 in
theorem sortEdges_any (v : Value) (E : List Ed) (w : World) (B : Nat) (h : OK encE 4 47 w B v E) (hid : E.Pairwise (fun a b => a.id < b.id)) (hlen : E.length ≤ 1000000) :
    Calls Tryz.prog 84 #[v, .func (.func 55) #[] #[]] w fun e w' => e = .returned (.tuple #[]) ∧ OK encE 4 47 w' B v (sortE E) ∧ w.grownBy w' v.ownBlock := by
  have eg : ∀ args w, (callFunc 55 args).run Tryz.prog w = .ok (.enter 55 args) w := enters_of Tryz.func55 (by kernel_rfl) rfl
  obtain ⟨h1, h2⟩ := h
  rcases Nat.eq_zero_or_pos E.length with h0 | h0
  · have hE : E = [] := List.eq_nil_of_length_eq_zero h0
    subst hE
    have hsl : ∃ A c, v = .slice A 0 c := by
      rcases h2.2 with ⟨h1, h2⟩ | ⟨g, cap, cur, h1, _⟩
      · exact ⟨none, 0, h1⟩
      · exact ⟨_, _, h1⟩
    obtain ⟨A, c, rfl⟩ := hsl
    refine (AnyF.slices_SortFunc_none Go.Proofs.Tryz.laysSlF6_sort A c _ w).mono ?_
    rintro e w' ⟨rfl, rfl⟩
    rw [show sortE [] = [] by simp [sortE]]
    exact ⟨rfl, ⟨h1, h2⟩, World.grownBy.refl _ _⟩
  · rcases h2.2 with ⟨_, h3⟩ | ⟨g, cap, cur, rfl, hb, hg, hn, hc, hs, ht⟩
    · omega
    · have hH := holdsK_of_own encE_len (by decide) h2
      refine (AnyQ.slices_SortFunc Go.Proofs.Tryz.laysSlF6_sort 4 Tryz.isAgg47 Tryz.sizeOf47 encE encE_len encE_one cfW swoW 55 #[] g 0 cap E.toArray w eg (fun _ _ _ _ x y => byWeight_any x y _) hH ((Array.getElem?_eq_some_iff.1 hg).1) (by simp; omega)).mono ?_
      rintro e w' ⟨rfl, d', n, os, hp, hs', rfl⟩
      have hd := sortE_of_array hid hp hs'
      have hd' : d' = (sortE E).toArray := by rw [← hd]
      subst hd'
      have hl : (sortE E).length = E.length := (sortE_perm E).length_eq
      have := own_sortedK (n := n) (os := os) encE_len (by decide) hl h2
      exact ⟨rfl, ⟨by rw [hl]; exact h1, by rw [hl]; exact this⟩, grownBy_sortK _⟩
end Go.Proofs.YtghacfhpafbdmaaGreat
