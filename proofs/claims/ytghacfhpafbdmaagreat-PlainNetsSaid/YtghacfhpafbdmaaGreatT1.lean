/-
  Plain words on Trees' lists: each vertex stands in just one, in order; how many they are; in which one a vertex stands. No walk.
-/
import Derived.Test.YtghacfhpafbdmaaGreatG18
namespace Go.Proofs.YtghacfhpafbdmaaGreat
set_option linter.unusedVariables false

/-- The first places of the sets. -/
def firsts (L : List Nat) (n : Nat) : List Nat := (List.range n).filter fun i => lab L i == i
theorem mem_firsts {L : List Nat} {n i : Nat} : i ∈ firsts L n ↔ i < n ∧ lab L i = i := by simp [firsts]
theorem firsts_up (L : List Nat) (n : Nat) : (firsts L n).Pairwise (· < ·) := List.Pairwise.filter _ List.pairwise_lt_range
theorem getD_up {V : List Int} (hp : V.Pairwise (· < ·)) {i j : Nat} (hij : i < j) (hj : j < V.length) : V.getD i 0 < V.getD j 0 := by
  have := List.pairwise_iff_getElem.1 hp i j (by omega) hj hij
  simpa [List.getD, List.getElem?_eq_getElem hj, List.getElem?_eq_getElem (show i < V.length by omega)] using this
theorem mem_mem {L : List Nat} {V : List Int} {k i : Nat} {x : Int} : x ∈ mem L V k i ↔ ∃ j, j < k ∧ lab L j = i ∧ V.getD j 0 = x := by
  unfold mem
  simp only [List.mem_map, List.mem_filter, List.mem_range, beq_iff_eq]
  exact ⟨fun ⟨j, ⟨h1, h2⟩, h3⟩ => ⟨j, h1, h2, h3⟩, fun ⟨j, h1, h2, h3⟩ => ⟨j, ⟨h1, h2⟩, h3⟩⟩
theorem mem_up {L : List Nat} {V : List Int} (hp : V.Pairwise (· < ·)) (i : Nat) : (mem L V V.length i).Pairwise (· < ·) := by
  unfold mem
  rw [List.pairwise_map]
  refine List.Pairwise.imp_of_mem ?_ (List.Pairwise.filter _ List.pairwise_lt_range)
  intro a b ha hb hab
  have hb' := (List.mem_filter.1 hb).1
  exact getD_up hp hab (List.mem_range.1 hb')
theorem treesL_eq {V : List Int} {E : List Ed} (hok : LabOk (labs V E)) (hl : (labs V E).length = V.length) :
    treesL V E = (firsts (labs V E) V.length).map (mem (labs V E) V V.length) := by
  unfold treesL allL firsts
  rw [List.filter_map]
  congr 1
  apply List.filter_congr
  intro i hi
  have hi := List.mem_range.1 hi
  rw [Bool.eq_iff_iff]
  simp only [Function.comp, Bool.not_eq_true', List.isEmpty_eq_false_iff, beq_iff_eq, ne_eq]
  constructor
  · intro h
    obtain ⟨x, hx⟩ := List.exists_mem_of_ne_nil _ h
    obtain ⟨j, hj, h1, _⟩ := mem_mem.1 hx
    rw [← h1]
    exact hok.fix j (by omega)
  · intro h e
    have : V.getD i 0 ∈ mem (labs V E) V V.length i := mem_mem.2 ⟨i, hi, h, rfl⟩
    rw [e] at this
    cases this

/-- What is asked of the lists: one list of the sets' first places stands behind them. -/
structure Parts (V : List Int) (L : List Nat) (ls : List (List Int)) : Prop where
  eq : ls = (firsts L V.length).map (mem L V V.length)
  ok : LabOk L
  len : L.length = V.length
  up : V.Pairwise (· < ·)
section
variable {V : List Int} {L : List Nat} {ls : List (List Int)}
theorem parts_of {E : List Ed} (hr : Right V E) : Parts V (labs V E) (treesL V E) :=
  have hok := labs_ok hr.vup fun e he => ⟨hr.eu e he, hr.ev e he⟩
  ⟨treesL_eq hok (labs_len V E), hok, labs_len V E, hr.vup⟩
theorem Parts.get (h : Parts V L ls) {i : Nat} {t : List Int} (ht : ls[i]? = some t) : ∃ f, (firsts L V.length)[i]? = some f ∧ t = mem L V V.length f := by
  rw [h.eq, List.getElem?_map] at ht
  cases hf : (firsts L V.length)[i]? with
  | none => rw [hf] at ht; cases ht
  | some f => rw [hf] at ht; exact ⟨f, rfl, (Option.some.inj ht).symm⟩
theorem Parts.sub (h : Parts V L ls) {i : Nat} {t : List Int} (ht : ls[i]? = some t) : ∀ x ∈ t, x ∈ V := by
  obtain ⟨f, _, rfl⟩ := h.get ht
  intro x hx
  obtain ⟨j, hj, _, rfl⟩ := mem_mem.1 hx
  rw [List.getD, List.getElem?_eq_getElem hj]
  exact List.getElem_mem _
theorem Parts.within (h : Parts V L ls) {i : Nat} {t : List Int} (ht : ls[i]? = some t) : t.Pairwise (· < ·) := by
  obtain ⟨f, _, rfl⟩ := h.get ht
  exact mem_up h.up f
theorem head_least {t : List Int} (ht : t.Pairwise (· < ·)) {x : Int} (hx : x ∈ t) (hl : ∀ y ∈ t, x ≤ y) : t[0]? = some x := by
  cases t with
  | nil => cases hx
  | cons y r =>
    rcases List.mem_cons.1 hx with rfl | hx
    · rfl
    · have h1 := (List.pairwise_cons.1 ht).1 x hx
      have h2 := hl y (by simp)
      omega
theorem Parts.head (h : Parts V L ls) {i : Nat} {t : List Int} (ht : ls[i]? = some t) : ∃ f, (firsts L V.length)[i]? = some f ∧ t[0]? = some (V.getD f 0) := by
  obtain ⟨f, hf, rfl⟩ := h.get ht
  refine ⟨f, hf, head_least (mem_up h.up f) ?_ ?_⟩
  · have := mem_firsts.1 (List.mem_of_getElem? hf)
    exact mem_mem.2 ⟨f, this.1, this.2, rfl⟩
  · intro y hy
    obtain ⟨j, hj, h1, rfl⟩ := mem_mem.1 hy
    have h2 := h.ok.le j (by rw [h.len]; exact hj)
    rw [h1] at h2
    rcases Nat.eq_or_lt_of_le h2 with rfl | h3
    · exact Int.le_refl _
    · exact Int.le_of_lt (getD_up h.up h3 hj)
theorem Parts.heads (h : Parts V L ls) {i : Nat} {s t : List Int} (hs : ls[i]? = some s) (ht : ls[i + 1]? = some t) : ∃ x y, s[0]? = some x ∧ t[0]? = some y ∧ x < y := by
  obtain ⟨f, hf, h1⟩ := h.head hs
  obtain ⟨g, hg, h2⟩ := h.head ht
  refine ⟨_, _, h1, h2, ?_⟩
  obtain ⟨hi, rfl⟩ := List.getElem?_eq_some_iff.1 hf
  obtain ⟨hj, rfl⟩ := List.getElem?_eq_some_iff.1 hg
  have h3 := List.pairwise_iff_getElem.1 (firsts_up L V.length) i (i + 1) hi hj (by omega)
  have h4 := mem_firsts.1 (List.getElem_mem hj)
  exact getD_up h.up h3 h4.1
theorem Parts.nonempty (h : Parts V L ls) {i : Nat} {t : List Int} (ht : ls[i]? = some t) : 0 < t.length := by
  obtain ⟨f, _, h1⟩ := h.head ht
  exact (List.getElem?_eq_some_iff.1 h1).1

/-! ### How many -/
def lens (ls : List (List Int)) : Nat := (ls.map List.length).foldr (· + ·) 0
@[simp] theorem lens_nil : lens [] = 0 := rfl
@[simp] theorem lens_cons (t : List Int) (r : List (List Int)) : lens (t :: r) = t.length + lens r := rfl
theorem count_eq {p : Nat → Bool} (xs : List Nat) : (xs.filter p).length = xs.countP p := by rw [List.countP_eq_length_filter]
theorem sum_counts (L : List Nat) (xs : List Nat) : ∀ (fs : List Nat), fs.Nodup → (∀ j ∈ xs, lab L j ∈ fs) → (fs.map fun f => (xs.filter fun j => lab L j == f).length).foldr (· + ·) 0 = xs.length := by
  induction xs with
  | nil =>
    intro fs _ _
    have h0 : ∀ gs : List Nat, (gs.map fun f => (([] : List Nat).filter fun j => lab L j == f).length).foldr (· + ·) 0 = 0 := by
      intro gs
      induction gs with
      | nil => rfl
      | cons g s ih => rw [List.map_cons, List.foldr_cons, ih]; rfl
    exact h0 fs
  | cons x r ih =>
    intro fs hn hm
    have h1 := ih fs hn fun j hj => hm j (by simp [hj])
    have h2 : ∀ gs : List Nat, gs.Nodup → (gs.map fun f => ((x :: r).filter fun j => lab L j == f).length).foldr (· + ·) 0 = (gs.map fun f => (r.filter fun j => lab L j == f).length).foldr (· + ·) 0 + (if lab L x ∈ gs then 1 else 0) := by
      intro gs
      induction gs with
      | nil => intro _; rfl
      | cons g s ihs =>
        intro hg
        obtain ⟨hg1, hg2⟩ := List.nodup_cons.1 hg
        have h3 := ihs hg2
        simp only [List.map_cons, List.foldr_cons]
        rw [h3]
        by_cases hx : lab L x = g
        · subst hx
          rw [if_neg hg1, if_pos (by simp), List.filter_cons_of_pos (by simp)]
          simp; omega
        · rw [List.filter_cons_of_neg (by simpa using hx)]
          have : (lab L x ∈ g :: s) ↔ lab L x ∈ s := by simp [hx]
          simp only [this]
          omega
    rw [h2 fs hn, h1, if_pos (hm x (by simp)), List.length_cons]
theorem Parts.count (h : Parts V L ls) : lens ls = V.length := by
  rw [h.eq]
  unfold lens
  rw [List.map_map]
  have h1 : (List.length ∘ mem L V V.length) = fun f => ((List.range V.length).filter fun j => lab L j == f).length := by
    funext f; simp [mem]
  rw [h1, sum_counts L (List.range V.length) _ ((firsts_up L V.length).imp (fun h => Nat.ne_of_lt h)) ?_, List.length_range]
  intro j hj
  have hj := List.mem_range.1 hj
  exact mem_firsts.2 ⟨by have := h.ok.le j (by rw [h.len]; exact hj); omega, h.ok.fix j (by rw [h.len]; exact hj)⟩

/-! ### In which one -/
def posL (u : Int) : List (List Int) → Nat → Int → Int
  | [], _, a => a
  | t :: r, i, a => posL u r (i + 1) (if t.contains u then (i : Int) else a)
theorem posL_none {u : Int} : ∀ (ls : List (List Int)) (i : Nat) (a : Int), (∀ t ∈ ls, u ∉ t) → posL u ls i a = a
  | [], _, _, _ => rfl
  | t :: r, i, a, h => by
    have h1 := h t (by simp)
    rw [posL, if_neg (by simpa using h1)]
    exact posL_none r _ _ fun s hs => h s (by simp [hs])
theorem posL_at {u : Int} : ∀ (ls : List (List Int)) (i : Nat) (a : Int) (p : Nat) (t : List Int), ls[p]? = some t → u ∈ t → (∀ q s, ls[q]? = some s → u ∈ s → q = p) → posL u ls i a = ((i + p : Nat) : Int)
  | [], _, _, _, _, h, _, _ => by simp at h
  | t :: r, i, a, 0, s, h, hu, hq => by
    have h : t = s := by simpa using h
    subst h
    rw [posL, if_pos (by simpa using hu), posL_none]
    · simp
    · intro x hx hux
      obtain ⟨q, hq1⟩ := List.getElem?_of_mem hx
      have := hq (q + 1) x (by simpa using hq1) hux
      omega
  | t :: r, i, a, p + 1, s, h, hu, hq => by
    rw [posL, posL_at r (i + 1) _ p s (by simpa using h) hu fun q x hx hux => by have := hq (q + 1) x (by simpa using hx) hux; omega]
    omega
theorem Parts.find (h : Parts V L ls) {u : Int} (hu : u ∈ V) : ∃ p : Nat, posL u ls 0 (-1) = (p : Int) ∧ (firsts L V.length)[p]? = some (lab L (pl V u)) := by
  have hpl := pl_lt h.up hu
  have hget := pl_mem h.up hu
  have hf : lab L (pl V u) ∈ firsts L V.length := mem_firsts.2 ⟨by have := h.ok.le (pl V u) (by rw [h.len]; exact hpl); omega, h.ok.fix _ (by rw [h.len]; exact hpl)⟩
  obtain ⟨p, hp⟩ := List.getElem?_of_mem hf
  refine ⟨p, ?_, hp⟩
  have := posL_at (u := u) ls 0 (-1) p (mem L V V.length (lab L (pl V u))) (by rw [h.eq, List.getElem?_map, hp]; rfl) (mem_mem.2 ⟨pl V u, hpl, rfl, by rw [List.getD, hget]; rfl⟩) ?_
  · simpa using this
  · intro q s hs hus
    obtain ⟨f, hf, rfl⟩ := h.get hs
    obtain ⟨j, hj, h1, h2⟩ := mem_mem.1 hus
    have hj2 : V[j]? = some u := by rw [List.getD, List.getElem?_eq_getElem hj] at h2; rw [List.getElem?_eq_getElem hj]; exact congrArg some h2
    have : pl V u = j := pl_get V h.up j u hj2
    rw [← this] at h1
    rw [← h1] at hf
    obtain ⟨hq1, hq2⟩ := List.getElem?_eq_some_iff.1 hf
    obtain ⟨hp1, hp2⟩ := List.getElem?_eq_some_iff.1 hp
    rcases Nat.lt_trichotomy q p with hlt | heq | hgt
    · have := List.pairwise_iff_getElem.1 (firsts_up L V.length) q p hq1 hp1 hlt
      omega
    · exact heq
    · have := List.pairwise_iff_getElem.1 (firsts_up L V.length) p q hp1 hq1 hgt
      omega
theorem Parts.lost (h : Parts V L ls) {u : Int} (hu : u ∉ V) : posL u ls 0 (-1) = -1 := by
  apply posL_none
  intro t ht hut
  obtain ⟨i, hi⟩ := List.getElem?_of_mem ht
  exact hu (h.sub hi u hut)
theorem Parts.same (h : Parts V L ls) {u v : Int} (hu : u ∈ V) (hv : v ∈ V) : (posL u ls 0 (-1) = posL v ls 0 (-1)) ↔ lab L (pl V u) = lab L (pl V v) := by
  obtain ⟨p, h1, h2⟩ := h.find hu
  obtain ⟨q, h3, h4⟩ := h.find hv
  rw [h1, h3]
  obtain ⟨hp1, hp2⟩ := List.getElem?_eq_some_iff.1 h2
  obtain ⟨hq1, hq2⟩ := List.getElem?_eq_some_iff.1 h4
  constructor
  · intro e
    have e : p = q := by omega
    subst e
    rw [← hp2, ← hq2]
  · intro e
    rcases Nat.lt_trichotomy q p with hlt | heq | hgt
    · have := List.pairwise_iff_getElem.1 (firsts_up L V.length) q p hq1 hp1 hlt
      omega
    · rw [heq]
    · have := List.pairwise_iff_getElem.1 (firsts_up L V.length) p q hp1 hq1 hgt
      omega
end
end Go.Proofs.YtghacfhpafbdmaaGreat
