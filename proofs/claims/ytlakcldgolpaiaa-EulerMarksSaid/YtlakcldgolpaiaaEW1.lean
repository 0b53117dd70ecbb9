/-
  Closed walks in plain words: a tree's walk, links and cuts. No walk of code.
-/
import Derived.Test.YtlakcldgolpaiaaRP4
namespace Go.Proofs.Ytlakcldgolpaiaa
set_option linter.unusedVariables false

/-- Whose a place is: a vertex's, an edge's. -/
abbrev Tok := Bool × Int

def vt (i : Int) : Tok := (false, i)

def et (i : Int) : Tok := (true, i)

abbrev Edg := Int × Int × Int

/-- A walk that begins or ends at a vertex. -/
def End (u : Int) (A : List Tok) : Prop := (∃ a, A = vt u :: a) ∨ ∃ a, A = a ++ [vt u]

theorem End.mem {u : Int} {A : List Tok} (h : End u A) : vt u ∈ A := by
  rcases h with ⟨a, rfl⟩ | ⟨a, rfl⟩ <;> simp

/-- A closed walk around a tree, with the tree's edges. -/
inductive Tour : List Tok → List Edg → Prop
  | vert (u : Int) : Tour [vt u] []
  | turn {a b : List Tok} {es : List Edg} : Tour (a ++ b) es → Tour (b ++ a) es
  | perm {w : List Tok} {es fs : List Edg} : es.Perm fs → Tour w es → Tour w fs
  | link {A B : List Tok} {es fs : List Edg} {id u v p q : Int} : Tour A es → Tour B fs → End u A → End v B → (p = u ∧ q = v ∨ p = v ∧ q = u) → Tour (A ++ (et id :: (B ++ [et id]))) ((id, p, q) :: (es ++ fs))

def ids (es : List Edg) : List Int := es.map fun e => e.1

theorem ids_app (es fs : List Edg) : ids (es ++ fs) = ids es ++ ids fs := by unfold ids; rw [List.map_append]

theorem ids_perm {es fs : List Edg} (h : es.Perm fs) : (ids es).Perm (ids fs) := h.map _

theorem tour_ne {w : List Tok} {es : List Edg} (h : Tour w es) : w ≠ [] := by
  induction h with
  | vert u => simp
  | @turn a b es h ih =>
    intro e
    have := List.append_eq_nil_iff.1 e
    exact ih (by rw [this.1, this.2]; rfl)
  | perm _ _ ih => exact ih
  | link => simp

theorem count_et_vt (i u : Int) (w : List Tok) : (vt u :: w).count (et i) = w.count (et i) := by
  rw [List.count_cons]
  have : (vt u == et i) = false := by simp [vt, et]
  rw [this]; simp

theorem count_et_et (i j : Int) (w : List Tok) : (et j :: w).count (et i) = w.count (et i) + if j = i then 1 else 0 := by
  rw [List.count_cons]
  by_cases h : j = i
  · subst h; simp
  · have : (et j == et i) = false := by simp [et, h]
    rw [this, if_neg h]; simp

/-- An edge stands at two places. -/
theorem tour_count {w : List Tok} {es : List Edg} (h : Tour w es) (i : Int) : w.count (et i) = 2 * (ids es).count i := by
  induction h with
  | vert u => rw [count_et_vt]; simp [ids]
  | turn h ih => rw [List.count_append, Nat.add_comm, ← List.count_append]; exact ih
  | perm hp _ ih => rw [ih, (ids_perm hp).count_eq]
  | @link A B es fs id u v p q h1 h2 hu hv hpq ih1 ih2 =>
    have e : ids ((id, p, q) :: (es ++ fs)) = id :: (ids es ++ ids fs) := by rw [← ids_app]; rfl
    rw [e, List.count_append, count_et_et, List.count_append, ih1, ih2, count_et_et, List.count_cons, List.count_append]
    by_cases hj : id = i
    · subst hj; simp; omega
    · have : (id == i) = false := by simpa using hj
      rw [if_neg hj, this]; simp; omega

theorem tour_et {w : List Tok} {es : List Edg} (h : Tour w es) {i : Int} : et i ∈ w ↔ i ∈ ids es := by
  have hc := tour_count h i
  rw [← List.count_pos_iff, ← List.count_pos_iff, hc]
  omega

/-- A tree has one vertex more than edges. -/
theorem tour_verts {w : List Tok} {es : List Edg} (h : Tour w es) : (w.filter fun t => !t.1).length = es.length + 1 := by
  induction h with
  | vert u => rfl
  | turn h ih => rw [List.filter_append, List.length_append, Nat.add_comm, ← List.length_append, ← List.filter_append]; exact ih
  | perm hp _ ih => rw [ih, hp.length_eq]
  | @link A B es fs id u v p q h1 h2 hu hv hpq ih1 ih2 =>
    have e : (A ++ (et id :: (B ++ [et id]))).filter (fun t => !t.1) = A.filter (fun t => !t.1) ++ B.filter (fun t => !t.1) := by
      rw [List.filter_append]
      congr 1
      rw [List.filter_cons_of_neg (by simp [et]), List.filter_append]
      simp [et]
    rw [e, List.length_append, ih1, ih2]
    simp
    omega

/-! ### Turning -/

def Rot (w w' : List Tok) : Prop := ∃ a b, w = a ++ b ∧ w' = b ++ a

theorem Rot.refl (w : List Tok) : Rot w w := ⟨[], w, rfl, by simp⟩

theorem Rot.symm {w w' : List Tok} (h : Rot w w') : Rot w' w := by obtain ⟨a, b, h1, h2⟩ := h; exact ⟨b, a, h2, h1⟩

theorem Rot.trans {w w' w'' : List Tok} (h : Rot w w') (h' : Rot w' w'') : Rot w w'' := by
  obtain ⟨a, b, rfl, rfl⟩ := h
  obtain ⟨c, d, h1, rfl⟩ := h'
  rcases List.append_eq_append_iff.1 h1 with ⟨t, rfl, rfl⟩ | ⟨t, rfl, rfl⟩
  · exact ⟨t, d ++ b, by simp, by simp⟩
  · exact ⟨a ++ c, t, by simp, by simp⟩

theorem Rot.count {w w' : List Tok} (h : Rot w w') (t : Tok) : w'.count t = w.count t := by
  obtain ⟨a, b, rfl, rfl⟩ := h
  rw [List.count_append, List.count_append, Nat.add_comm]

theorem Rot.mem {w w' : List Tok} (h : Rot w w') {t : Tok} : t ∈ w' ↔ t ∈ w := by
  obtain ⟨a, b, rfl, rfl⟩ := h
  rw [List.mem_append, List.mem_append, Or.comm]

theorem Rot.tour {w w' : List Tok} {es : List Edg} (h : Rot w w') (ht : Tour w es) : Tour w' es := by
  obtain ⟨a, b, rfl, rfl⟩ := h
  exact .turn ht

/-! ### What stands where -/

theorem split_first {t : Tok} : ∀ {a b c d : List Tok}, a ++ t :: b = c ++ t :: d → t ∉ a → t ∉ c → a = c ∧ b = d
  | [], b, [], d, h, _, _ => by simp at h; exact ⟨rfl, h⟩
  | [], b, y :: c, d, h, _, hc => by simp at h; exact absurd (by rw [h.1]; simp) hc
  | x :: a, b, [], d, h, ha, _ => by simp at h; exact absurd (by rw [h.1]; simp) ha
  | x :: a, b, y :: c, d, h, ha, hc => by
    simp at h
    obtain ⟨rfl, h⟩ := h
    obtain ⟨rfl, rfl⟩ := split_first h (fun e => ha (List.mem_cons_of_mem _ e)) (fun e => hc (List.mem_cons_of_mem _ e))
    exact ⟨rfl, rfl⟩

theorem split_last {t : Tok} {a b c d : List Tok} (h : a ++ t :: b = c ++ t :: d) (hb : t ∉ b) (hd : t ∉ d) : a = c ∧ b = d := by
  have h2 := congrArg List.reverse h
  simp only [List.reverse_append, List.reverse_cons, List.append_assoc, List.singleton_append] at h2
  obtain ⟨e1, e2⟩ := split_first h2 (by simpa using hb) (by simpa using hd)
  exact ⟨List.reverse_inj.1 e2, List.reverse_inj.1 e1⟩

/-- What a walk becomes where another one hangs on one of its vertices. -/
theorem tour_insert {P Q B : List Tok} {es fs : List Edg} {id u v p q : Int} (h1 : Tour (P ++ Q) es) (hu : End u (Q ++ P)) (h2 : Tour B fs) (hv : End v B) (hpq : p = u ∧ q = v ∨ p = v ∧ q = u) :
    Tour (P ++ ((et id :: (B ++ [et id])) ++ Q)) ((id, p, q) :: (es ++ fs)) := by
  have h4 := Tour.link (id := id) (Tour.turn h1) h2 hu hv hpq
  exact Rot.tour ⟨Q, P ++ (et id :: (B ++ [et id])), by simp, by simp⟩ h4

end Go.Proofs.Ytlakcldgolpaiaa
