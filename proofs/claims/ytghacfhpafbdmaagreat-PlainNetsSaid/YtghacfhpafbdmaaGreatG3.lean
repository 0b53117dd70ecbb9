/-
  Plain words on nets, more: going through a tree from one of its places, and what is found. No walk of the program.
-/
import Derived.Test.YtghacfhpafbdmaaGreatG2
namespace Go.Proofs.YtghacfhpafbdmaaGreat
set_option linter.unusedVariables false

/-- A way along an edge, to a place. -/
abbrev Stp := Nat × Ed
/-- The state of going through a tree. -/
structure Bs where
  order : List Nat
  last : List Stp
  far : List Int
  known : List Bool
def knw (K : List Bool) (i : Nat) : Bool := K.getD i false
def frr (F : List Int) (i : Nat) : Int := F.getD i 0
def lst (l : List Stp) (i : Nat) : Stp := l.getD i (0, default)
def wys (W : List (List Stp)) (i : Nat) : List Stp := W.getD i []
def bstep (fr : Nat) (b : Bs) (s : Stp) : Bs :=
  if knw b.known s.1 then b else ⟨b.order ++ [s.1], b.last.set s.1 (fr, s.2), b.far.set s.1 (frr b.far fr + s.2.w), b.known.set s.1 true⟩
def bsteps (W : List (List Stp)) (b : Bs) (fr : Nat) : Bs := (wys W fr).foldl (bstep fr) b
def brun (W : List (List Stp)) : Nat → Nat → Bs → Bs
  | 0, _, b => b
  | k + 1, i, b => match b.order[i]? with
    | none => b
    | some fr => brun W k (i + 1) (bsteps W b fr)
def bstart (n s : Nat) : Bs := ⟨[s], List.replicate n (0, default), List.replicate n 0, (List.replicate n false).set s true⟩
def bfs (W : List (List Stp)) (n s : Nat) : Bs := brun W (n + 1) 0 (bstart n s)

/-- The ways from each place. -/
def wset (W : List (List Stp)) (i : Nat) (s : Stp) : List (List Stp) := W.set i (wys W i ++ [s])
def wstep (f : Ed → Nat × Nat) (W : List (List Stp)) (e : Ed) : List (List Stp) := wset (wset W (f e).1 ((f e).2, e)) (f e).2 ((f e).1, e)
def waysF (f : Ed → Nat × Nat) (n : Nat) (T : List Ed) : List (List Stp) := T.foldl (wstep f) (List.replicate n [])

theorem getD_set {α : Type} {l : List α} {i k : Nat} {x d : α} (hi : i < l.length) : (l.set i x).getD k d = if k = i then x else l.getD k d := by
  by_cases h : k = i
  · subst h; simp [List.getD, hi]
  · rw [if_neg h]; simp [List.getD, List.getElem?_set_ne (Ne.symm h)]

section
variable {f : Ed → Nat × Nat} {n : Nat} {T : List Ed}
@[simp] theorem length_wset (W : List (List Stp)) (i : Nat) (s : Stp) : (wset W i s).length = W.length := by simp [wset]
@[simp] theorem length_wstep (W : List (List Stp)) (e : Ed) : (wstep f W e).length = W.length := by simp [wstep]
theorem wys_wset {W : List (List Stp)} {i k : Nat} {s : Stp} (hi : i < W.length) : wys (wset W i s) k = if k = i then wys W i ++ [s] else wys W k := by
  unfold wset wys; exact getD_set hi
theorem length_waysF : ∀ (T : List Ed) (W : List (List Stp)), (T.foldl (wstep f) W).length = W.length
  | [], _ => rfl
  | e :: r, W => by rw [List.foldl_cons, length_waysF r]; simp
theorem mem_waysF_aux : ∀ (T : List Ed) (W : List (List Stp)), (∀ e ∈ T, (f e).1 < W.length ∧ (f e).2 < W.length) → ∀ i (s : Stp), s ∈ wys (T.foldl (wstep f) W) i ↔ s ∈ wys W i ∨ (s.2 ∈ T ∧ Leads f s.2 i s.1)
  | [], W, _, i, s => by simp
  | e :: r, W, h, i, s => by
    have he := h e (by simp)
    rw [List.foldl_cons, mem_waysF_aux r (wstep f W e) (fun x hx => by simpa using h x (by simp [hx]))]
    have h1 : s ∈ wys (wstep f W e) i ↔ s ∈ wys W i ∨ (s.2 = e ∧ Leads f e i s.1) := by
      unfold wstep
      rw [wys_wset (by simpa using he.2), wys_wset he.1, wys_wset he.1]
      obtain ⟨s1, s2⟩ := s
      unfold Leads
      by_cases h2 : i = (f e).2
      · rw [if_pos h2]
        by_cases h3 : (f e).2 = (f e).1
        · rw [if_pos h3]
          subst h2
          simp only [List.mem_append, List.mem_singleton, Prod.mk.injEq]
          rw [← h3]
          constructor
          · rintro ((h | ⟨h4, h5⟩) | ⟨h4, h5⟩)
            · exact .inl h
            · exact .inr ⟨h5, .inl ⟨by simp, h4.symm⟩⟩
            · exact .inr ⟨h5, .inr ⟨by simp, h4.symm⟩⟩
          · rintro (h | ⟨h5, ⟨h4, h6⟩ | ⟨h4, h6⟩⟩)
            · exact .inl (.inl h)
            · exact .inl (.inr ⟨h6.symm, h5⟩)
            · exact .inr ⟨h6.symm, h5⟩
        · rw [if_neg h3]
          subst h2
          simp only [List.mem_append, List.mem_singleton, Prod.mk.injEq]
          constructor
          · rintro (h | ⟨h4, h5⟩)
            · exact .inl h
            · exact .inr ⟨h5, .inr ⟨by simp, h4.symm⟩⟩
          · rintro (h | ⟨h5, ⟨h4, h6⟩ | ⟨h4, h6⟩⟩)
            · exact .inl h
            · exact absurd h4.symm h3
            · exact .inr ⟨h6.symm, h5⟩
      · rw [if_neg h2]
        by_cases h3 : i = (f e).1
        · rw [if_pos h3]
          subst h3
          simp only [List.mem_append, List.mem_singleton, Prod.mk.injEq]
          constructor
          · rintro (h | ⟨h4, h5⟩)
            · exact .inl h
            · exact .inr ⟨h5, .inl ⟨by simp, h4.symm⟩⟩
          · rintro (h | ⟨h5, ⟨h4, h6⟩ | ⟨h4, h6⟩⟩)
            · exact .inl h
            · exact .inr ⟨h6.symm, h5⟩
            · exact absurd h4.symm h2
        · rw [if_neg h3]
          constructor
          · exact .inl
          · rintro (h | ⟨h5, ⟨h4, h6⟩ | ⟨h4, h6⟩⟩)
            · exact h
            · exact absurd h4.symm h3
            · exact absurd h4.symm h2
    rw [h1]
    simp only [List.mem_cons]
    constructor
    · rintro ((h | ⟨h2, h3⟩) | ⟨h2, h3⟩)
      · exact .inl h
      · exact .inr ⟨.inl h2, h2 ▸ h3⟩
      · exact .inr ⟨.inr h2, h3⟩
    · rintro (h | ⟨h2 | h2, h3⟩)
      · exact .inl (.inl h)
      · exact .inl (.inr ⟨h2, h2 ▸ h3⟩)
      · exact .inr ⟨h2, h3⟩
theorem mem_waysF (h : ∀ e ∈ T, (f e).1 < n ∧ (f e).2 < n) (i : Nat) (s : Stp) : s ∈ wys (waysF f n T) i ↔ s.2 ∈ T ∧ Leads f s.2 i s.1 := by
  unfold waysF
  rw [mem_waysF_aux T _ (by simpa using h)]
  have : wys (List.replicate n ([] : List Stp)) i = [] := by unfold wys; simp [List.getD, List.getElem?_replicate]; split <;> rfl
  rw [this]; simp
theorem Leads.lt (h : ∀ e ∈ T, (f e).1 < n ∧ (f e).2 < n) {e : Ed} {i k : Nat} (he : e ∈ T) (hl : Leads f e i k) : i < n ∧ k < n := by
  have := h e he
  rcases hl with ⟨rfl, rfl⟩ | ⟨rfl, rfl⟩
  · exact this
  · exact ⟨this.2, this.1⟩

/-- What holds while a tree is gone through from s. -/
structure Went (f : Ed → Nat × Nat) (T : List Ed) (n s : Nat) (b : Bs) : Prop where
  first : b.order[0]? = some s
  nodup : b.order.Nodup
  known : ∀ x, x ∈ b.order ↔ x < n ∧ knw b.known x = true
  klen : b.known.length = n
  flen : b.far.length = n
  llen : b.last.length = n
  far0 : frr b.far s = 0
  came : ∀ k x, 0 < k → b.order[k]? = some x → ∃ j, j < k ∧ b.order[j]? = some (lst b.last x).1 ∧ (lst b.last x).2 ∈ T ∧ Leads f (lst b.last x).2 (lst b.last x).1 x ∧ frr b.far x = frr b.far (lst b.last x).1 + (lst b.last x).2.w

theorem went_start {s : Nat} (hs : s < n) : Went f T n s (bstart n s) := by
  refine ⟨rfl, by simp [bstart], fun x => ?_, by simp [bstart], by simp [bstart], by simp [bstart], ?_, fun k x hk hx => ?_⟩
  · unfold bstart knw
    simp only [List.mem_singleton]
    rw [getD_set (by simpa using hs)]
    constructor
    · rintro rfl; exact ⟨hs, by simp⟩
    · rintro ⟨h1, h2⟩
      split at h2
      · assumption
      · simp [List.getD, h1] at h2
  · simp [bstart, frr, List.getD, hs]
  · simp only [bstart] at hx
    have : ¬ k < 1 := by omega
    simp [List.getElem?_eq_none (show [s].length ≤ k by simp; omega)] at hx

theorem Went.lt {s : Nat} {b : Bs} (h : Went f T n s b) {x : Nat} (hx : x ∈ b.order) : x < n := ((h.known x).1 hx).1
theorem Went.len {s : Nat} {b : Bs} (h : Went f T n s b) : b.order.length ≤ n := by
  have h1 : b.order.length ≤ (List.range n).length := h.nodup.length_le_of_subset fun x hx => List.mem_range.2 (h.lt hx)
  simpa using h1

/-- One state goes on in the other. -/
structure Ext (b b' : Bs) : Prop where
  order : ∀ (k : Nat) (x : Nat), b.order[k]? = some x → b'.order[k]? = some x
  known : ∀ (x : Nat), knw b.known x = true → knw b'.known x = true
theorem Ext.refl (b : Bs) : Ext b b := ⟨fun _ _ h => h, fun _ h => h⟩
theorem Ext.trans {a b c : Bs} (h : Ext a b) (h' : Ext b c) : Ext a c := ⟨fun k x hx => h'.order k x (h.order k x hx), fun x hx => h'.known x (h.known x hx)⟩

theorem bstep_went {s i fr : Nat} {b : Bs} {p : Stp} (hT : ∀ e ∈ T, (f e).1 < n ∧ (f e).2 < n) (h : Went f T n s b) (hi : b.order[i]? = some fr) (hp : p.2 ∈ T) (hl : Leads f p.2 fr p.1) :
    Went f T n s (bstep fr b p) ∧ Ext b (bstep fr b p) ∧ knw (bstep fr b p).known p.1 = true := by
  have hlt := (hl.lt hT hp).2
  unfold bstep
  by_cases hk : knw b.known p.1 = true
  · rw [if_pos hk]; exact ⟨h, .refl _, hk⟩
  · rw [if_neg hk]
    have hnew : p.1 ∉ b.order := fun h' => hk ((h.known _).1 h').2
    have hs : s ∈ b.order := List.mem_of_getElem? h.first
    have hkn : ∀ x, knw (b.known.set p.1 true) x = if x = p.1 then true else knw b.known x := fun x => by unfold knw; rw [getD_set (by rw [h.klen]; exact hlt)]
    have hfr : ∀ x, frr (b.far.set p.1 (frr b.far fr + p.2.w)) x = if x = p.1 then frr b.far fr + p.2.w else frr b.far x := fun x => by unfold frr; rw [getD_set (by rw [h.flen]; exact hlt)]
    have hls : ∀ x, lst (b.last.set p.1 (fr, p.2)) x = if x = p.1 then (fr, p.2) else lst b.last x := fun x => by unfold lst; rw [getD_set (by rw [h.llen]; exact hlt)]
    have hne : ∀ x, x ∈ b.order → x ≠ p.1 := fun x hx e => hnew (e ▸ hx)
    have hfrm : fr ∈ b.order := List.mem_of_getElem? hi
    refine ⟨⟨?_, ?_, ?_, ?_, ?_, ?_, ?_, ?_⟩, ⟨?_, ?_⟩, ?_⟩
    · show (b.order ++ [p.1])[0]? = some s
      rw [List.getElem?_append_left (by have := (List.getElem?_eq_some_iff.1 h.first).1; omega)]; exact h.first
    · refine List.nodup_append.2 ⟨h.nodup, by simp, fun a ha c hc => ?_⟩
      rw [List.mem_singleton] at hc
      exact hc ▸ hne a ha
    · intro x
      show x ∈ b.order ++ [p.1] ↔ x < n ∧ knw (b.known.set p.1 true) x = true
      rw [hkn, List.mem_append, List.mem_singleton, h.known x]
      by_cases hx : x = p.1
      · subst hx; simp [hlt]
      · simp [hx]
    · show (b.known.set p.1 true).length = n
      rw [List.length_set]; exact h.klen
    · show (b.far.set p.1 _).length = n
      rw [List.length_set]; exact h.flen
    · show (b.last.set p.1 _).length = n
      rw [List.length_set]; exact h.llen
    · show frr (b.far.set p.1 (frr b.far fr + p.2.w)) s = 0
      rw [hfr, if_neg (hne s hs)]; exact h.far0
    · intro k x hk0 hx
      show ∃ j, j < k ∧ (b.order ++ [p.1])[j]? = some (lst (b.last.set p.1 (fr, p.2)) x).1 ∧ (lst (b.last.set p.1 (fr, p.2)) x).2 ∈ T ∧ Leads f (lst (b.last.set p.1 (fr, p.2)) x).2 (lst (b.last.set p.1 (fr, p.2)) x).1 x ∧
        frr (b.far.set p.1 (frr b.far fr + p.2.w)) x = frr (b.far.set p.1 (frr b.far fr + p.2.w)) (lst (b.last.set p.1 (fr, p.2)) x).1 + (lst (b.last.set p.1 (fr, p.2)) x).2.w
      have hx' : (b.order ++ [p.1])[k]? = some x := hx
      rw [hls]
      by_cases hkl : k < b.order.length
      · rw [List.getElem?_append_left hkl] at hx'
        have hxm : x ∈ b.order := List.mem_of_getElem? hx'
        rw [if_neg (hne x hxm)]
        obtain ⟨j, h1, h2, h3, h4, h5⟩ := h.came k x hk0 hx'
        refine ⟨j, h1, ?_, h3, h4, ?_⟩
        · rw [List.getElem?_append_left (by omega)]; exact h2
        · rw [hfr, hfr, if_neg (hne x hxm), if_neg (hne _ (List.mem_of_getElem? h2))]; exact h5
      · rw [List.getElem?_append_right (by omega)] at hx'
        have hk1 : k - b.order.length = 0 := by
          rcases Nat.eq_zero_or_pos (k - b.order.length) with h' | h'
          · exact h'
          · rw [List.getElem?_eq_none (by simp; omega)] at hx'; cases hx'
        rw [hk1] at hx'
        simp at hx'
        subst hx'
        rw [if_pos rfl]
        have hil := (List.getElem?_eq_some_iff.1 hi).1
        refine ⟨i, by omega, ?_, hp, hl, ?_⟩
        · rw [List.getElem?_append_left hil]; exact hi
        · rw [hfr, hfr, if_pos rfl, if_neg (hne fr hfrm)]
    · intro k x hx
      show (b.order ++ [p.1])[k]? = some x
      rw [List.getElem?_append_left (List.getElem?_eq_some_iff.1 hx).1]; exact hx
    · intro x hx
      show knw (b.known.set p.1 true) x = true
      rw [hkn]; split
      · rfl
      · exact hx
    · show knw (b.known.set p.1 true) p.1 = true
      rw [hkn, if_pos rfl]

theorem bsteps_went_aux {s i fr : Nat} (hT : ∀ e ∈ T, (f e).1 < n ∧ (f e).2 < n) : ∀ (ps : List Stp) (b : Bs), Went f T n s b → b.order[i]? = some fr → (∀ p ∈ ps, p.2 ∈ T ∧ Leads f p.2 fr p.1) →
    Went f T n s (ps.foldl (bstep fr) b) ∧ Ext b (ps.foldl (bstep fr) b) ∧ ∀ p ∈ ps, knw (ps.foldl (bstep fr) b).known p.1 = true
  | [], b, h, _, _ => ⟨h, .refl _, fun p hp => by cases hp⟩
  | p :: r, b, h, hi, hp => by
    obtain ⟨h1, h2, h3⟩ := bstep_went hT h hi (hp p (by simp)).1 (hp p (by simp)).2
    obtain ⟨h4, h5, h6⟩ := bsteps_went_aux hT r (bstep fr b p) h1 (h2.order _ _ hi) (fun q hq => hp q (by simp [hq]))
    rw [List.foldl_cons]
    refine ⟨h4, h2.trans h5, fun q hq => ?_⟩
    rcases List.mem_cons.1 hq with rfl | hq
    · exact h5.known _ h3
    · exact h6 q hq
theorem bsteps_went {s i fr : Nat} {b : Bs} (hT : ∀ e ∈ T, (f e).1 < n ∧ (f e).2 < n) (h : Went f T n s b) (hi : b.order[i]? = some fr) :
    Went f T n s (bsteps (waysF f n T) b fr) ∧ Ext b (bsteps (waysF f n T) b fr) ∧ ∀ p ∈ wys (waysF f n T) fr, knw (bsteps (waysF f n T) b fr).known p.1 = true :=
  bsteps_went_aux hT _ b h hi fun p hp => (mem_waysF hT fr p).1 hp

/-- All places up to i are gone on from. -/
def Done (W : List (List Stp)) (i : Nat) (b : Bs) : Prop := ∀ k x, k < i → b.order[k]? = some x → ∀ p ∈ wys W x, knw b.known p.1 = true
theorem Done.step {s i fr : Nat} {b : Bs} (hT : ∀ e ∈ T, (f e).1 < n ∧ (f e).2 < n) (h : Went f T n s b) (hi : b.order[i]? = some fr) (hd : Done (waysF f n T) i b) : Done (waysF f n T) (i + 1) (bsteps (waysF f n T) b fr) := by
  obtain ⟨h1, h2, h3⟩ := bsteps_went hT h hi
  intro k x hk hx p hp
  have hil := (List.getElem?_eq_some_iff.1 hi).1
  have hb : b.order[k]? = some b.order[k] := List.getElem?_eq_getElem (by omega)
  have hx2 := h2.order _ _ hb
  rw [hx] at hx2
  have hx3 : b.order[k]? = some x := by rw [hb]; exact hx2.symm
  by_cases hki : k = i
  · subst hki
    rw [hi] at hx3
    injection hx3 with hx3
    subst hx3
    exact h3 p hp
  · exact h2.known _ (hd k x (by omega) hx3 p hp)

theorem brun_spec {s : Nat} (hT : ∀ e ∈ T, (f e).1 < n ∧ (f e).2 < n) : ∀ (k i : Nat) (b : Bs), Went f T n s b → Done (waysF f n T) i b → n + 1 ≤ i + k →
    Went f T n s (brun (waysF f n T) k i b) ∧ ∀ x ∈ (brun (waysF f n T) k i b).order, ∀ p ∈ wys (waysF f n T) x, knw (brun (waysF f n T) k i b).known p.1 = true
  | 0, i, b, h, hd, hk => by
    simp only [brun]
    refine ⟨h, fun x hx p hp => ?_⟩
    obtain ⟨j, hj⟩ := List.getElem?_of_mem hx
    have := (List.getElem?_eq_some_iff.1 hj).1
    have := h.len
    exact hd j x (by omega) hj p hp
  | k + 1, i, b, h, hd, hk => by
    unfold brun
    cases hi : b.order[i]? with
    | none =>
      dsimp only
      refine ⟨h, fun x hx p hp => ?_⟩
      obtain ⟨j, hj⟩ := List.getElem?_of_mem hx
      have := (List.getElem?_eq_some_iff.1 hj).1
      have := List.getElem?_eq_none_iff.1 hi
      exact hd j x (by omega) hj p hp
    | some fr => exact brun_spec hT k (i + 1) _ (bsteps_went hT h hi).1 (hd.step hT h hi) (by omega)

/-- What is found behind it all. -/
theorem bfs_went {s : Nat} (hT : ∀ e ∈ T, (f e).1 < n ∧ (f e).2 < n) (hs : s < n) :
    Went f T n s (bfs (waysF f n T) n s) ∧ ∀ x ∈ (bfs (waysF f n T) n s).order, ∀ p ∈ wys (waysF f n T) x, knw (bfs (waysF f n T) n s).known p.1 = true := by
  unfold bfs
  exact brun_spec hT (n + 1) 0 _ (went_start hs) (fun k x hk => by omega) (by omega)
theorem Went.order_cn {s : Nat} {b : Bs} (h : Went f T n s b) : ∀ (k x : Nat), b.order[k]? = some x → Cn f T s x := by
  intro k
  induction k using Nat.strongRecOn with
  | ind k ih =>
    intro x hx
    rcases Nat.eq_zero_or_pos k with rfl | hk
    · rw [h.first] at hx; injection hx with hx; subst hx; exact .refl _
    · obtain ⟨j, h1, h2, h3, h4, _⟩ := h.came k x hk hx
      exact .step (ih j h1 _ h2) h3 h4
/-- Known are just those that are joined to where it began. -/
theorem bfs_known {s : Nat} (hT : ∀ e ∈ T, (f e).1 < n ∧ (f e).2 < n) (hs : s < n) (x : Nat) (hx : x < n) : knw (bfs (waysF f n T) n s).known x = true ↔ Cn f T s x := by
  obtain ⟨h1, h2⟩ := bfs_went hT hs
  constructor
  · intro h
    obtain ⟨k, hk⟩ := List.getElem?_of_mem ((h1.known x).2 ⟨hx, h⟩)
    exact h1.order_cn k x hk
  · intro h
    have : ∀ y, Cn f T s y → y ∈ (bfs (waysF f n T) n s).order := by
      intro y hy
      induction hy with
      | refl => exact List.mem_of_getElem? h1.first
      | @step j k e h he hl ih =>
        exact (h1.known k).2 ⟨(hl.lt hT he).2, h2 j ih (k, e) ((mem_waysF hT j (k, e)).2 ⟨he, hl⟩)⟩
    exact ((h1.known x).1 (this x h)).2

/-! ### Back to where it began -/
def backL (l : List Stp) (s : Nat) : Nat → Nat → List Ed
  | 0, _ => []
  | k + 1, i => if i = s then [] else (lst l i).2 :: backL l s k (lst l i).1
def sumW (p : List Ed) : Int := (p.map (·.w)).foldr (· + ·) 0
@[simp] theorem sumW_nil : sumW [] = 0 := rfl
@[simp] theorem sumW_cons (e : Ed) (p : List Ed) : sumW (e :: p) = e.w + sumW p := rfl
theorem sumW_append : ∀ (p q : List Ed), sumW (p ++ q) = sumW p + sumW q
  | [], q => by simp
  | e :: r, q => by rw [List.cons_append, sumW_cons, sumW_cons, sumW_append r q]; omega
theorem sumW_reverse : ∀ (p : List Ed), sumW p.reverse = sumW p
  | [] => rfl
  | e :: r => by rw [List.reverse_cons, sumW_append, sumW_reverse r, sumW_cons, sumW_cons, sumW_nil]; omega

theorem Went.back {s : Nat} {b : Bs} (h : Went f T n s b) : ∀ (fuel k x : Nat), b.order[k]? = some x → k < fuel →
    Trail f T x (backL b.last s fuel x) s ∧ sumW (backL b.last s fuel x) = frr b.far x ∧ ∀ e ∈ backL b.last s fuel x, ∃ j1 j2, j1 ≤ k ∧ j2 ≤ k ∧ b.order[j1]? = some (f e).1 ∧ b.order[j2]? = some (f e).2 := by
  intro fuel
  induction fuel with
  | zero => intro k x _ hk; omega
  | succ m ih =>
    intro k x hx hk
    unfold backL
    rcases Nat.eq_zero_or_pos k with rfl | hk0
    · have hxs : x = s := by
        have := h.first
        rw [hx] at this
        exact Option.some.inj this
      rw [if_pos hxs, hxs]
      exact ⟨.nil s, h.far0.symm, fun e he => by cases he⟩
    · have hne : x ≠ s := by
        intro e
        subst e
        have := (List.getElem?_inj (List.getElem?_eq_some_iff.1 hx).1 h.nodup).1 (hx.trans h.first.symm)
        omega
      rw [if_neg hne]
      obtain ⟨j, h1, h2, h3, h4, h5⟩ := h.came k x hk0 hx
      obtain ⟨i1, i2, i3⟩ := ih j _ h2 (by omega)
      refine ⟨⟨⟨_, h4.symm, i1.walk⟩, fun e he => ?_, List.nodup_cons.2 ⟨fun he => ?_, i1.one⟩⟩, by rw [sumW_cons, i2]; omega, fun e he => ?_⟩
      · rcases List.mem_cons.1 he with rfl | he
        · exact h3
        · exact i1.sub e he
      · obtain ⟨j1, j2, k1, k2, k3, k4⟩ := i3 _ he
        have : ∃ j', j' ≤ j ∧ b.order[j']? = some x := by
          rcases h4 with ⟨_, h4⟩ | ⟨_, h4⟩
          · exact ⟨j2, k2, h4 ▸ k4⟩
          · exact ⟨j1, k1, h4 ▸ k3⟩
        obtain ⟨j', k5, k6⟩ := this
        have := (List.getElem?_inj (List.getElem?_eq_some_iff.1 hx).1 h.nodup).1 (hx.trans k6.symm)
        omega
      · rcases List.mem_cons.1 he with rfl | he
        · rcases h4 with ⟨h6, h7⟩ | ⟨h6, h7⟩
          · exact ⟨j, k, by omega, Nat.le_refl _, by rw [h6]; exact h2, by rw [h7]; exact hx⟩
          · exact ⟨k, j, Nat.le_refl _, by omega, by rw [h7]; exact hx, by rw [h6]; exact h2⟩
        · obtain ⟨j1, j2, k1, k2, k3, k4⟩ := i3 e he
          exact ⟨j1, j2, by omega, by omega, k3, k4⟩

/-! ### The place that is farthest -/
def fstep (F : List Int) (best i : Nat) : Nat := if frr F best < frr F i then i else best
def farthest (b : Bs) : Nat := b.order.foldl (fstep b.far) (b.order.getD 0 0)
theorem fstep_spec (F : List Int) : ∀ (l : List Nat) (c : Nat), (l.foldl (fstep F) c = c ∨ l.foldl (fstep F) c ∈ l) ∧ frr F c ≤ frr F (l.foldl (fstep F) c) ∧ ∀ i ∈ l, frr F i ≤ frr F (l.foldl (fstep F) c)
  | [], c => ⟨.inl rfl, Int.le_refl _, fun i hi => by cases hi⟩
  | a :: r, c => by
    rw [List.foldl_cons]
    obtain ⟨h1, h2, h3⟩ := fstep_spec F r (fstep F c a)
    have h4 : frr F c ≤ frr F (fstep F c a) ∧ frr F a ≤ frr F (fstep F c a) ∧ (fstep F c a = c ∨ fstep F c a = a) := by
      unfold fstep; split
      · exact ⟨by omega, Int.le_refl _, .inr rfl⟩
      · exact ⟨Int.le_refl _, by omega, .inl rfl⟩
    refine ⟨?_, by omega, fun i hi => ?_⟩
    · rcases h1 with h1 | h1
      · rw [h1]
        rcases h4.2.2 with h5 | h5
        · exact .inl h5
        · rw [h5]; exact .inr (by simp)
      · exact .inr (List.mem_cons_of_mem _ h1)
    · rcases List.mem_cons.1 hi with rfl | hi
      · omega
      · exact h3 i hi
theorem Went.farthest {s : Nat} {b : Bs} (h : Went f T n s b) : Go.Proofs.YtghacfhpafbdmaaGreat.farthest b ∈ b.order ∧ ∀ i ∈ b.order, frr b.far i ≤ frr b.far (Go.Proofs.YtghacfhpafbdmaaGreat.farthest b) := by
  have hs : b.order.getD 0 0 = s := by simp [List.getD, h.first]
  have hm : s ∈ b.order := List.mem_of_getElem? h.first
  unfold Go.Proofs.YtghacfhpafbdmaaGreat.farthest
  rw [hs]
  obtain ⟨h1, h2, h3⟩ := fstep_spec b.far b.order s
  refine ⟨?_, h3⟩
  rcases h1 with h1 | h1
  · rw [h1]; exact hm
  · exact h1
end
end Go.Proofs.YtghacfhpafbdmaaGreat
