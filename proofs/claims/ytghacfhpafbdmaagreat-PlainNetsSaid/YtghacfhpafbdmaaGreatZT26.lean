/-
  Plain words for the document's functions on nets: inserting by (W, Id) sorts; another way to relabel joins alike; the forest's edges; the lists of joined vertices. No walk.
-/
import Derived.Deep.RegionHeld3
import Derived.Deep.RegionLaw
import Derived.Deep.LoopGhost
import Derived.BigRegion
import Derived.StillTailTactics
import Derived.Test.YtghacfhpafbdmaaGreatZT21
import Derived.Test.YtghacfhpafbdmaaGreatZT17
namespace Go.Proofs.YtghacfhpafbdmaaGreat
set_option linter.unusedVariables false

/-! ### Sorted edges -/

def insW (e : Ed) : List Ed → List Ed
  | [] => [e]
  | x :: r => if ltW e x then e :: x :: r else x :: insW e r

theorem insW_cons (e x : Ed) (r : List Ed) : insW e (x :: r) = if ltW e x then e :: x :: r else x :: insW e r := rfl

theorem insW_perm (e : Ed) : ∀ l, (insW e l).Perm (e :: l)
  | [] => .refl _
  | x :: r => by
    rw [insW_cons]
    split
    · exact .refl _
    · exact ((insW_perm e r).cons x).trans (.swap e x r)

theorem insW_sorted (e : Ed) : ∀ {l : List Ed}, l.Pairwise (fun a b => leW a b = true) → (insW e l).Pairwise (fun a b => leW a b = true)
  | [], _ => List.pairwise_singleton _ _
  | x :: r, h => by
    obtain ⟨h1, h2⟩ := List.pairwise_cons.1 h
    rw [insW_cons]
    split
    · rename_i hl
      have hle : leW e x = true := by simp [ltW, leW] at *; omega
      exact List.pairwise_cons.2 ⟨fun y hy => by
        rcases List.mem_cons.1 hy with rfl | hy
        · exact hle
        · exact leW_trans _ _ _ hle (h1 y hy), h⟩
    · rename_i hl
      have hle : leW x e = true := by simp [ltW, leW] at *; omega
      exact List.pairwise_cons.2 ⟨fun y hy => by
        rcases List.mem_cons.1 ((insW_perm e r).mem_iff.1 hy) with rfl | hy
        · exact hle
        · exact h1 y hy, insW_sorted e h2⟩

def sortL (es : List Ed) : List Ed := es.foldl (fun o e => insW e o) []

theorem sortL_snoc (es : List Ed) (e : Ed) : sortL (es ++ [e]) = insW e (sortL es) := by unfold sortL; rw [List.foldl_append]; rfl

theorem sortL_aux : ∀ (es acc : List Ed), acc.Pairwise (fun a b => leW a b = true) → (es.foldl (fun o e => insW e o) acc).Perm (es ++ acc) ∧ (es.foldl (fun o e => insW e o) acc).Pairwise (fun a b => leW a b = true)
  | [], acc, h => ⟨.refl _, h⟩
  | e :: r, acc, h => by
    obtain ⟨h1, h2⟩ := sortL_aux r (insW e acc) (insW_sorted e h)
    exact ⟨h1.trans (((insW_perm e acc).append_left r).trans List.perm_middle), h2⟩

theorem sortL_spec (es : List Ed) : (sortL es).Perm es ∧ (sortL es).Pairwise (fun a b => leW a b = true) := by
  have := sortL_aux es [] List.Pairwise.nil
  rwa [List.append_nil] at this

theorem sortL_eq {E : List Ed} (h : E.Pairwise (fun a b => a.id < b.id)) : sortL E = sortE E := sortE_of h (sortL_spec E).1 (sortL_spec E).2

theorem sortL_len (es : List Ed) : (sortL es).length = es.length := (sortL_spec es).1.length_eq

/-! ### Ids in order -/

theorem insI_perm (e : Int) : ∀ l, (insI e l).Perm (e :: l)
  | [] => .refl _
  | x :: r => by
    rw [insI_cons]
    split
    · exact .refl _
    · exact ((insI_perm e r).cons x).trans (.swap e x r)

theorem insI_sorted (e : Int) : ∀ {l : List Int}, l.Pairwise (· ≤ ·) → (insI e l).Pairwise (· ≤ ·)
  | [], _ => List.pairwise_singleton _ _
  | x :: r, h => by
    obtain ⟨h1, h2⟩ := List.pairwise_cons.1 h
    rw [insI_cons]
    split
    · rename_i hl
      exact List.pairwise_cons.2 ⟨fun y hy => by
        rcases List.mem_cons.1 hy with rfl | hy
        · omega
        · have := h1 y hy; omega, h⟩
    · rename_i hl
      exact List.pairwise_cons.2 ⟨fun y hy => by
        rcases List.mem_cons.1 ((insI_perm e r).mem_iff.1 hy) with rfl | hy
        · omega
        · exact h1 y hy, insI_sorted e h2⟩

def sortIds (xs : List Int) : List Int := xs.foldl (fun o e => insI e o) []

theorem sortIds_snoc (es : List Int) (e : Int) : sortIds (es ++ [e]) = insI e (sortIds es) := by unfold sortIds; rw [List.foldl_append]; rfl

theorem sortIds_aux : ∀ (es acc : List Int), acc.Pairwise (· ≤ ·) → (es.foldl (fun o e => insI e o) acc).Perm (es ++ acc) ∧ (es.foldl (fun o e => insI e o) acc).Pairwise (· ≤ ·)
  | [], acc, h => ⟨.refl _, h⟩
  | e :: r, acc, h => by
    obtain ⟨h1, h2⟩ := sortIds_aux r (insI e acc) (insI_sorted e h)
    exact ⟨h1.trans (((insI_perm e acc).append_left r).trans List.perm_middle), h2⟩

theorem sortIds_spec (es : List Int) : (sortIds es).Perm es ∧ (sortIds es).Pairwise (· ≤ ·) := by
  have := sortIds_aux es [] List.Pairwise.nil
  rwa [List.append_nil] at this

theorem sortIds_len (es : List Int) : (sortIds es).length = es.length := (sortIds_spec es).1.length_eq

theorem sorted_unique {R : Int → Int → Prop} (hR : ∀ a b, R a b → R b a → a = b) : ∀ {l m : List Int}, l.Perm m → l.Pairwise R → m.Pairwise R → l = m :=
  fun hp h1 h2 => List.Perm.eq_of_pairwise (fun a b _ _ => hR a b) h1 h2 hp

theorem sortIds_forest {V : List Int} {E : List Ed} (hr : Right V E) : sortIds ((forE V E).map (·.id)) = forestL V E := by
  refine sorted_unique (R := (· ≤ ·)) (fun a b h1 h2 => by omega) ((sortIds_spec _).1.trans (forestL_perm V E).symm) (sortIds_spec _).2 ?_
  exact (forestL_up hr).imp fun h => by omega

/-! ### Labels that join alike -/

def Like (n : Nat) (L M : List Nat) : Prop := ∀ i j, i < n → j < n → (lab L i = lab L j ↔ lab M i = lab M j)

def relN (a b x : Nat) : Nat := if x = b then a else x

theorem relN_iff {a b x y : Nat} : relN a b x = relN a b y ↔ x = y ∨ (x = a ∧ y = b) ∨ (x = b ∧ y = a) := by
  unfold relN; split <;> split <;> omega

/-- The first k labels are told anew by f. -/
def mapTo (f : Nat → Nat) (L : List Nat) (k : Nat) : List Nat := (L.take k).map f ++ L.drop k

theorem mapTo_zero (f : Nat → Nat) (L : List Nat) : mapTo f L 0 = L := by unfold mapTo; simp

theorem mapTo_all {f : Nat → Nat} {L : List Nat} {k : Nat} (h : L.length ≤ k) : mapTo f L k = L.map f := by
  unfold mapTo; rw [List.take_of_length_le h, List.drop_eq_nil_of_le h, List.append_nil]

theorem mapTo_len (f : Nat → Nat) (L : List Nat) (k : Nat) : (mapTo f L k).length = L.length := by
  unfold mapTo; rw [List.length_append, List.length_map, List.length_take, List.length_drop]; omega

theorem mapTo_at {f : Nat → Nat} {L : List Nat} {k : Nat} (h : k < L.length) : (mapTo f L k)[k]? = some L[k] := by
  unfold mapTo
  rw [List.getElem?_append_right (by simp; omega), List.length_map, List.length_take, Nat.min_eq_left (by omega), Nat.sub_self, List.drop_eq_getElem_cons h]
  rfl

theorem mapTo_succ {f : Nat → Nat} {L : List Nat} {k : Nat} (h : k < L.length) : mapTo f L (k + 1) = (mapTo f L k).set k (f L[k]) := by
  unfold mapTo
  rw [List.set_append_right _ _ (by simp; omega), List.length_map, List.length_take, Nat.min_eq_left (by omega), Nat.sub_self, List.drop_eq_getElem_cons h, List.set_cons_zero, List.take_succ_eq_append_getElem h, List.map_append, List.append_assoc]
  rfl

theorem mapTo_skip {f : Nat → Nat} {L : List Nat} {k : Nat} (h : k < L.length) (hf : f L[k] = L[k]) : mapTo f L (k + 1) = mapTo f L k := by
  rw [mapTo_succ h, hf]
  refine List.ext_getElem? fun i => ?_
  rw [List.getElem?_set]
  split
  · rename_i e
    subst e
    rw [if_pos (by rw [mapTo_len]; exact h), mapTo_at h]
  · rfl

theorem lab_map {f : Nat → Nat} {L : List Nat} {i : Nat} (h : i < L.length) : lab (L.map f) i = f (lab L i) := by
  simp [lab, List.getD, h]

theorem lab_at {L : List Nat} {i : Nat} (h : i < L.length) : lab L i = L[i] := by simp [lab, List.getD, h]

theorem Like.refl (n : Nat) (L : List Nat) : Like n L L := fun _ _ _ _ => Iff.rfl

theorem Like.join {n : Nat} {L M : List Nat} (h : Like n L M) (hl : L.length = n) (hm : M.length = n) {p q : Nat} (hp : p < n) (hq : q < n) : Like n (joinL L p q) (M.map (relN (lab M p) (lab M q))) := by
  intro i j hi hj
  rw [lab_joinL (by omega), lab_joinL (by omega), lab_map (by omega), lab_map (by omega), ren_eq_iff, relN_iff]
  have h1 := h i j hi hj
  have h2 := h i p hi hp
  have h3 := h i q hi hq
  have h4 := h j p hj hp
  have h5 := h j q hj hq
  omega

/-- What the document takes of the first k edges, and its labels beside ours. -/
structure Took (V : List Int) (S : List Ed) (k : Nat) (M : List Nat) (out : List Ed) : Prop where
  like : Like V.length (labsF (plE V) (List.range V.length) (S.take k)) M
  len : M.length = V.length
  out : out = krus (plE V) (List.range V.length) (S.take k)

theorem Took.start (V : List Int) (S : List Ed) : Took V S 0 (List.range V.length) [] := ⟨Like.refl _ _, by simp, rfl⟩

section
variable {V : List Int} {S : List Ed} {k : Nat} {M : List Nat} {out : List Ed}

theorem Took.skip (h : Took V S k M out) (hk : k < S.length) (hp : (plE V S[k]).1 < V.length ∧ (plE V S[k]).2 < V.length) (he : lab M (plE V S[k]).1 = lab M (plE V S[k]).2) : Took V S (k + 1) M out := by
  have h1 := (h.like _ _ hp.1 hp.2).2 he
  refine ⟨?_, h.len, ?_⟩
  · rw [List.take_succ_eq_append_getElem hk, labsF_snoc, joinL_same h1]; exact h.like
  · rw [List.take_succ_eq_append_getElem hk, krus_append, krus_cons, if_pos h1, h.out]
    show _ = _ ++ []
    rw [List.append_nil]

theorem Took.take (h : Took V S k M out) (hk : k < S.length) (hp : (plE V S[k]).1 < V.length ∧ (plE V S[k]).2 < V.length) (he : lab M (plE V S[k]).1 ≠ lab M (plE V S[k]).2) : Took V S (k + 1) (M.map (relN (lab M (plE V S[k]).1) (lab M (plE V S[k]).2))) (out ++ [S[k]]) := by
  have h1 : ¬ lab _ _ = lab _ _ := fun e => he ((h.like _ _ hp.1 hp.2).1 e)
  refine ⟨?_, by rw [List.length_map, h.len], ?_⟩
  · rw [List.take_succ_eq_append_getElem hk, labsF_snoc]
    exact h.like.join (by rw [length_labsF, List.length_range]) h.len hp.1 hp.2
  · rw [List.take_succ_eq_append_getElem hk, krus_append, krus_cons, if_neg h1, h.out]
    rfl

theorem Took.done (h : Took V S S.length M out) : out = krus (plE V) (List.range V.length) S := by
  have := h.out
  rwa [List.take_length] at this

theorem Took.outLen (h : Took V S k M out) : out.length ≤ k := by
  rw [h.out]
  refine Nat.le_trans (krus_sublist _ _ _).length_le ?_
  rw [List.length_take]; omega
end

/-! ### Lists of joined vertices -/

/-- One list from its first place on. -/
theorem mem_from {L : List Nat} (hok : LabOk L) {V : List Int} (hl : L.length = V.length) {i k : Nat} (hk : k ≤ V.length) (h : k ≤ i) : mem L V k i = [] := by
  unfold mem
  rw [List.map_eq_nil_iff, List.filter_eq_nil_iff]
  intro j hj
  have hj := List.mem_range.1 hj
  have := hok.le j (by omega)
  simp; omega

theorem firsts_succ (L : List Nat) (i : Nat) : firsts L (i + 1) = firsts L i ++ (if lab L i = i then [i] else []) := by
  unfold firsts
  rw [List.range_succ, List.filter_append]
  congr 1
  by_cases h : lab L i = i
  · rw [if_pos h, List.filter_cons_of_pos (by simpa using h)]; rfl
  · rw [if_neg h, List.filter_cons_of_neg (by simpa using h)]; rfl

/-- The lists as far as place i. -/
def treesTo (V : List Int) (L : List Nat) (i : Nat) : List (List Int) := (firsts L i).map (mem L V V.length)

theorem treesTo_zero (V : List Int) (L : List Nat) : treesTo V L 0 = [] := rfl

theorem treesTo_skip {V : List Int} {L : List Nat} {i : Nat} (h : lab L i ≠ i) : treesTo V L (i + 1) = treesTo V L i := by
  unfold treesTo; rw [firsts_succ, if_neg h, List.append_nil]

theorem treesTo_take {V : List Int} {L : List Nat} {i : Nat} (h : lab L i = i) : treesTo V L (i + 1) = treesTo V L i ++ [mem L V V.length i] := by
  unfold treesTo; rw [firsts_succ, if_pos h, List.map_append]; rfl

theorem treesTo_all {V : List Int} {E : List Ed} (hr : Right V E) : treesTo V (labs V E) V.length = treesL V E :=
  (treesL_eq (labs_ok hr.vup fun e he => ⟨hr.eu e he, hr.ev e he⟩) (labs_len V E)).symm

theorem treesTo_len (V : List Int) (L : List Nat) (i : Nat) : (treesTo V L i).length ≤ i := by
  unfold treesTo firsts
  rw [List.length_map]
  refine Nat.le_trans (List.length_filter_le _ _) ?_
  rw [List.length_range]; omega

end Go.Proofs.YtghacfhpafbdmaaGreat

/-
  Plain words for the document's search: a trail by vertices; what it keeps; a trail in the forest is the path. And for its distances.
-/
namespace Go.Proofs.YtghacfhpafbdmaaGreat
set_option linter.unusedVariables false

/-- The other end. -/
def Ed.far (e : Ed) (x : Int) : Int := if e.u = x then e.v else e.u

theorem Ed.far_far {e : Ed} {x : Int} (h : e.u = x ∨ e.v = x) : e.far (e.far x) = x := by
  unfold Ed.far
  by_cases h1 : e.u = x
  · rw [if_pos h1]
    by_cases h2 : e.u = e.v
    · rw [if_pos h2, ← h2, h1]
    · rw [if_neg h2, h1]
  · have h3 := h.resolve_left h1
    rw [if_neg h1, if_pos rfl, h3]

theorem Ed.far_end {e : Ed} {x : Int} (h : e.u = x ∨ e.v = x) : e.u = e.far x ∨ e.v = e.far x := by
  unfold Ed.far
  by_cases h1 : e.u = x
  · rw [if_pos h1]; exact .inr rfl
  · rw [if_neg h1]; exact .inl rfl

theorem Ed.far_or {e : Ed} {x y : Int} (h : e.u = x ∨ e.v = x) (hy : e.u = y ∨ e.v = y) : y = x ∨ y = e.far x := by
  unfold Ed.far
  by_cases h1 : e.u = x
  · rw [if_pos h1]
    rcases hy with h2 | h2
    · exact .inl (h2.symm.trans h1)
    · exact .inr h2.symm
  · rw [if_neg h1]
    have h3 := h.resolve_left h1
    rcases hy with h2 | h2
    · exact .inr h2.symm
    · exact .inl (h2.symm.trans h3)

def idsE (p : List Ed) : List Int := p.map (·.id)

/-- A trail of edges. -/
inductive Trl (es : List Ed) (u : Int) : Int → List Ed → Prop
  | nil : Trl es u u []
  | snoc {a : Int} {p : List Ed} {e : Ed} : Trl es u a p → e ∈ es → (e.u = a ∨ e.v = a) → Trl es u (e.far a) (p ++ [e])

section

variable {es : List Ed} {u v a b : Int} {p q : List Ed} {e : Ed} {us : List Int}

theorem Trl.sub (h : Trl es u a p) : ∀ e ∈ p, e ∈ es := by
  induction h with
  | nil => intro e he; cases he
  | snoc _ h1 _ ih =>
    intro e he
    rcases List.mem_append.1 he with he | he
    · exact ih e he
    · rw [List.mem_singleton.1 he]; exact h1

theorem Trl.inv (h : Trl es u b q) : (q = [] → b = u) ∧ ∀ p e, q = p ++ [e] → ∃ a, Trl es u a p ∧ e ∈ es ∧ (e.u = a ∨ e.v = a) ∧ b = e.far a := by
  cases h with
  | nil => exact ⟨fun _ => rfl, fun p e he => by simp at he⟩
  | @snoc a p' e' h1 h2 h3 =>
    refine ⟨fun he => by simp at he, fun p e he => ?_⟩
    obtain ⟨e1, e2⟩ := List.append_inj' he rfl
    injection e2 with e2
    subst e1 e2
    exact ⟨a, h1, h2, h3, rfl⟩

/-- A vertex on a trail. -/
def OnP (u : Int) (p : List Ed) (x : Int) : Prop := x = u ∨ ∃ e ∈ p, e.u = x ∨ e.v = x

theorem Trl.on (h : Trl es u a p) : OnP u p a := by
  cases h with
  | nil => exact .inl rfl
  | snoc _ _ h3 => exact .inr ⟨_, List.mem_append_right _ (List.mem_singleton.2 rfl), Ed.far_end h3⟩

theorem OnP.more {x : Int} {q : List Ed} (h : OnP u p x) (hs : ∀ e ∈ p, e ∈ q) : OnP u q x := h.imp id fun ⟨e, he, h⟩ => ⟨e, hs e he, h⟩

theorem leads_far (V : List Int) (h : e.u = a ∨ e.v = a) : Leads (plE V) e (pl V a) (pl V (e.far a)) := by
  unfold Ed.far
  by_cases h1 : e.u = a
  · rw [if_pos h1, ← h1]; exact .inl ⟨rfl, rfl⟩
  · rw [if_neg h1, ← h.resolve_left h1]; exact .inr ⟨rfl, rfl⟩

theorem Trl.walk (V : List Int) (h : Trl es u a p) : Walk (plE V) (pl V u) p (pl V a) := by
  induction h with
  | nil => exact rfl
  | snoc _ _ h3 ih => exact ih.snoc (leads_far V h3)

theorem Trl.trail (V : List Int) (h : Trl es u a p) (hn : (idsE p).Nodup) : Trail (plE V) es (pl V u) p (pl V a) :=
  ⟨h.walk V, h.sub, (List.pairwise_map.1 (show (p.map (·.id)).Pairwise (· ≠ ·) from hn)).imp fun hne e => hne (by rw [e])⟩

/-- A vertex that the search has met. -/
def Met (es : List Ed) (u : Int) (us : List Int) (x : Int) : Prop := x = u ∨ ∃ e ∈ es, e.id ∈ us ∧ (e.u = x ∨ e.v = x)

/-- All edges at a vertex are used. -/
def Used (es : List Ed) (us : List Int) (x : Int) : Prop := ∀ e ∈ es, (e.u = x ∨ e.v = x) → e.id ∈ us

/-- What the search keeps. -/
structure Dfs (es : List Ed) (u v a : Int) (p : List Ed) (us : List Int) : Prop where
  trl : Trl es u a p
  nd : (idsE p).Nodup
  sub : ∀ e ∈ p, e.id ∈ us
  und : us.Nodup
  usd : ∀ i ∈ us, i ∈ idsE es
  seen : ∀ x, Met es u us x → OnP u p x ∨ Used es us x
  goal : Met es u us v → a = v

theorem dfs_start (es : List Ed) (u v : Int) : Dfs es u v u [] [] :=
  ⟨.nil, (by simp [idsE]), fun e he => (nomatch he), List.nodup_nil, fun e he => (nomatch he), fun x hx => .inl (.inl (hx.elim id fun ⟨e, _, h, _⟩ => (nomatch h))), fun hx => hx.elim Eq.symm fun ⟨e, _, h, _⟩ => (nomatch h)⟩

theorem one_of_ids : ∀ {es : List Ed}, (idsE es).Nodup → ∀ x ∈ es, ∀ e ∈ es, x.id = e.id → x = e
  | [], _, x, hx, _, _, _ => by cases hx
  | y :: r, hn, x, hx, e, he, hid => by
    obtain ⟨h1, h2⟩ : y.id ∉ idsE r ∧ (idsE r).Nodup := List.nodup_cons.1 hn
    rcases List.mem_cons.1 hx with hx2 | hx2 <;> rcases List.mem_cons.1 he with he2 | he2
    · rw [hx2, he2]
    · exact absurd (show y.id ∈ idsE r from List.mem_map.2 ⟨e, he2, by rw [← hid, hx2]⟩) h1
    · exact absurd (show y.id ∈ idsE r from List.mem_map.2 ⟨x, hx2, by rw [hid, he2]⟩) h1
    · exact one_of_ids h2 x hx2 e he2 hid

theorem Dfs.push (h : Dfs es u v a p us) (hn : (idsE es).Nodup) (hav : a ≠ v) (he : e ∈ es) (hea : e.u = a ∨ e.v = a) (hu : e.id ∉ us) : Dfs es u v (e.far a) (p ++ [e]) (us ++ [e.id]) := by
  have one : ∀ x ∈ es, x.id = e.id → x = e := fun x hx hid => one_of_ids hn x hx e he hid
  have inl : ∀ {i : Int}, i ∈ us → i ∈ us ++ [e.id] := fun hi => List.mem_append_left _ hi
  have old : ∀ x, Met es u (us ++ [e.id]) x → Met es u us x ∨ (e.u = x ∨ e.v = x) := by
    rintro x (hx | ⟨e', h1, h2, h3⟩)
    · exact .inl (.inl hx)
    · rcases List.mem_append.1 h2 with h2 | h2
      · exact .inl (.inr ⟨e', h1, h2, h3⟩)
      · have := one e' h1 (List.mem_singleton.1 h2)
        subst this
        exact .inr h3
  refine ⟨.snoc h.trl he hea, ?_, ?_, ?_, ?_, ?_, ?_⟩
  · unfold idsE
    rw [List.map_append]
    refine List.nodup_append.2 ⟨h.nd, by simp, fun x hx y hy hxy => ?_⟩
    rw [List.mem_singleton.1 hy] at hxy
    obtain ⟨z, hz, hz2⟩ := List.mem_map.1 hx
    have h5 : z.id = e.id := hz2.trans hxy
    exact hu (h5 ▸ h.sub z hz)
  · intro x hx
    rcases List.mem_append.1 hx with hx | hx
    · exact inl (h.sub x hx)
    · rw [List.mem_singleton.1 hx]; exact List.mem_append_right _ (List.mem_singleton.2 rfl)
  · exact List.nodup_append.2 ⟨h.und, by simp, fun x hx y hy hxy => hu (by rw [List.mem_singleton.1 hy] at hxy; exact hxy ▸ hx)⟩
  · intro i hi
    rcases List.mem_append.1 hi with hi | hi
    · exact h.usd i hi
    · rw [List.mem_singleton.1 hi]; exact List.mem_map.2 ⟨_, he, rfl⟩
  · intro x hx
    rcases old x hx with hx | hx
    · rcases h.seen x hx with h1 | h1
      · exact .inl (h1.more fun _ hh => List.mem_append_left _ hh)
      · exact .inr fun e' h2 h3 => inl (h1 e' h2 h3)
    · exact .inl (.inr ⟨e, List.mem_append_right _ (List.mem_singleton.2 rfl), hx⟩)
  · intro hx
    rcases old v hx with hx | hx
    · exact absurd (h.goal hx) hav
    · rcases Ed.far_or hea hx with h1 | h1
      · exact absurd h1.symm hav
      · exact h1.symm

theorem Dfs.pop (h : Dfs es u v a (p ++ [e]) us) (hav : a ≠ v) (hd : Used es us a) : Dfs es u v (e.far a) p us := by
  obtain ⟨b, h1, h2, h3, rfl⟩ := h.trl.inv.2 p e rfl
  rw [Ed.far_far h3]
  have hn := h.nd
  unfold idsE at hn
  rw [List.map_append] at hn
  refine ⟨h1, (List.nodup_append.1 hn).1, fun x hx => h.sub x (List.mem_append_left _ hx), h.und, h.usd, fun x hx => ?_, fun hx => absurd (h.goal hx) hav⟩
  rcases h.seen x hx with (h4 | ⟨e', h4, h5⟩) | h4
  · exact .inl (.inl h4)
  · rcases List.mem_append.1 h4 with h4 | h4
    · exact .inl (.inr ⟨e', h4, h5⟩)
    · rw [List.mem_singleton.1 h4] at h5
      rcases Ed.far_or h3 h5 with rfl | rfl
      · exact .inl h1.on
      · exact .inr hd
  · exact .inr h4

theorem Dfs.no {V : List Int} (hp : V.Pairwise (· < ·)) (hV : ∀ e ∈ es, e.u ∈ V ∧ e.v ∈ V) (hu : u ∈ V) (hv : v ∈ V) (h : Dfs es u v a [] us) (hav : a ≠ v) (hd : Used es us a) : ¬ Cn (plE V) es (pl V u) (pl V v) := by
  intro hc
  have ha := h.trl.inv.1 rfl
  subst ha
  have all : ∀ x, Met es a us x → Used es us x := by
    intro x hx
    rcases h.seen x hx with (h4 | ⟨e', h4, -⟩) | h4
    · rw [h4]; exact hd
    · cases h4
    · exact h4
  have key : ∀ k, Cn (plE V) es (pl V a) k → ∃ x ∈ V, pl V x = k ∧ Met es a us x := by
    intro k hk
    induction hk with
    | refl => exact ⟨a, hu, rfl, .inl rfl⟩
    | @step j k e hj he hl ih =>
      obtain ⟨x, hx, rfl, hm⟩ := ih
      obtain ⟨e1, e2⟩ := hV e he
      rcases hl with ⟨l1, l2⟩ | ⟨l1, l2⟩
      · have hxe : e.u = x := pl_inj hp e1 hx l1
        exact ⟨e.v, e2, l2, .inr ⟨e, he, all x hm e he (.inl hxe), .inr rfl⟩⟩
      · have hxe : e.v = x := pl_inj hp e2 hx l1
        exact ⟨e.u, e1, l2, .inr ⟨e, he, all x hm e he (.inr hxe), .inl rfl⟩⟩
  obtain ⟨x, hx, h1, h2⟩ := key _ hc
  have := pl_inj hp hx hv h1
  subst this
  exact hav (h.goal h2)

theorem nodup_sub_len : ∀ {xs ys : List Int}, xs.Nodup → (∀ i ∈ xs, i ∈ ys) → xs.length ≤ ys.length
  | [], ys, _, _ => Nat.zero_le _
  | x :: xs, ys, h, hs => by
    obtain ⟨h1, h2⟩ := List.nodup_cons.1 h
    have h3 := nodup_sub_len (ys := ys.erase x) h2 fun i hi => (List.mem_erase_of_ne (fun e => h1 (by rw [← e]; exact hi))).2 (hs i (List.mem_cons_of_mem _ hi))
    have h4 := hs x List.mem_cons_self
    rw [List.length_erase_of_mem h4] at h3
    have := List.length_pos_of_mem h4
    simp only [List.length_cons]
    omega

theorem Dfs.lens (h : Dfs es u v a p us) : us.length ≤ es.length ∧ p.length ≤ es.length := by
  have h1 := nodup_sub_len h.und h.usd
  have h2 := nodup_sub_len h.nd (ys := us) fun i hi => by obtain ⟨e, he, rfl⟩ := List.mem_map.1 hi; exact h.sub e he
  simp only [idsE, List.length_map] at h1 h2
  omega

end

section
variable {V : List Int} {E : List Ed}

theorem forE_ids (hr : Right V E) : (idsE (forE V E)).Nodup := ids_nodup hr.eup (forE_sub V E) (forE_nodup hr)

/-- What the search finds in the forest is the path. -/
theorem way_path (hr : Right V E) {u v : Int} (hu : u ∈ V) (hv : v ∈ V) {p : List Ed} (h : Trl (forE V E) u v p) (hn : (idsE p).Nodup) : pathK V E u v = true ∧ p = pathL V E u v := by
  have ht := h.trail V hn
  have hk : pathK V E u v = true := (pathK_iff hr hu hv).2 ht.cn.symm
  exact ⟨hk, trail_unique hr ht (path_trail hr hu hv hk).1⟩

theorem way_none (hr : Right V E) {u v : Int} (hu : u ∈ V) (hv : v ∈ V) (h : ¬ Cn (plE V) (forE V E) (pl V u) (pl V v)) : pathK V E u v = false := by
  cases hk : pathK V E u v with
  | false => rfl
  | true => exact absurd ((pathK_iff hr hu hv).1 hk).symm h
end

/-! ### Distances -/

/-- A place that is known is joined by a trail of known places and as far as told. -/
def Got (f : Ed → Nat × Nat) (T : List Ed) (s n : Nat) (D : List Int) (x : Nat) : Prop := ∃ p, Trail f T s p x ∧ sumW p = D.getD x (-1) ∧ ∀ e ∈ p, 0 ≤ D.getD (f e).1 (-1) ∧ 0 ≤ D.getD (f e).2 (-1)

structure Dis (f : Ed → Nat × Nat) (T : List Ed) (s n : Nat) (D : List Int) : Prop where
  len : D.length = n
  zero : D.getD s (-1) = 0
  got : ∀ x, x < n → 0 ≤ D.getD x (-1) → Got f T s n D x
  neg : ∀ x, x < n → D.getD x (-1) < 0 → D.getD x (-1) = -1

section
variable {f : Ed → Nat × Nat} {T : List Ed} {s n : Nat} {D : List Int}

def disStart (n s : Nat) : List Int := (List.range n).map fun i => if i = s then 0 else -1

theorem disStart_get {n s x : Nat} (hx : x < n) : (disStart n s).getD x (-1) = if x = s then 0 else -1 := by
  unfold disStart
  simp [List.getD, hx]

theorem dis_start (hs : s < n) : Dis f T s n (disStart n s) := by
  refine ⟨by simp [disStart], by rw [disStart_get hs, if_pos rfl], fun x hx h => ?_, fun x hx h => ?_⟩
  · rw [disStart_get hx] at h
    by_cases e : x = s
    · subst e
      exact ⟨[], .nil x, by rw [disStart_get hx, if_pos rfl]; rfl, fun e he => (nomatch he)⟩
    · rw [if_neg e] at h; omega
  · rw [disStart_get hx] at h ⊢
    split at h
    · omega
    · rename_i e; rw [if_neg e]

theorem getD_set' {l : List Int} {i k : Nat} {x d : Int} (hi : i < l.length) : (l.set i x).getD k d = if k = i then x else l.getD k d := getD_set hi

/-- One place more by an edge. -/
theorem Dis.step (h : Dis f T s n D) (hw : ∀ e ∈ T, 0 ≤ e.w) {e : Ed} (he : e ∈ T) {a b : Nat} (hl : Leads f e a b) (ha : a < n) (hb : b < n) (h1 : 0 ≤ D.getD a (-1)) (h2 : D.getD b (-1) < 0) : Dis f T s n (D.set b (D.getD a (-1) + e.w)) := by
  have hbl : b < D.length := by rw [h.len]; exact hb
  have hew := hw e he
  have up : ∀ y, 0 ≤ D.getD y (-1) → 0 ≤ (D.set b (D.getD a (-1) + e.w)).getD y (-1) := by
    intro y hy
    rw [getD_set' hbl]
    split
    · omega
    · exact hy
  refine ⟨by rw [List.length_set, h.len], ?_, fun x hx hk => ?_, fun x hx hk => ?_⟩
  · rw [getD_set' hbl]
    by_cases hsb : s = b
    · subst hsb; have := h.zero; omega
    · rw [if_neg hsb]; exact h.zero
  · by_cases hxb : x = b
    · subst hxb
      obtain ⟨p, p1, p2, p3⟩ := h.got a ha h1
      have hep : e ∉ p := fun hm => by
        obtain ⟨q1, q2⟩ := p3 e hm
        rcases hl with ⟨l1, l2⟩ | ⟨l1, l2⟩
        · rw [l2] at q2; omega
        · rw [l2] at q1; omega
      refine ⟨p ++ [e], ⟨p1.walk.snoc hl, ?_, ?_⟩, ?_, ?_⟩
      · intro y hy
        rcases List.mem_append.1 hy with hy | hy
        · exact p1.sub y hy
        · rw [List.mem_singleton.1 hy]; exact he
      · exact List.nodup_append.2 ⟨p1.one, by simp, fun y hy z hz hyz => hep (by rw [List.mem_singleton.1 hz] at hyz; exact hyz ▸ hy)⟩
      · rw [sumW_append, p2, getD_set' hbl, if_pos rfl]; simp
      · intro y hy
        rcases List.mem_append.1 hy with hy | hy
        · exact ⟨up _ (p3 y hy).1, up _ (p3 y hy).2⟩
        · rw [List.mem_singleton.1 hy]
          have hbk : 0 ≤ (D.set x (D.getD a (-1) + e.w)).getD x (-1) := by rw [getD_set' hbl, if_pos rfl]; omega
          rcases hl with ⟨l1, l2⟩ | ⟨l1, l2⟩
          · rw [l1, l2]; exact ⟨up _ h1, hbk⟩
          · rw [l1, l2]; exact ⟨hbk, up _ h1⟩
    · rw [getD_set' hbl, if_neg hxb] at hk
      obtain ⟨p, p1, p2, p3⟩ := h.got x hx hk
      exact ⟨p, p1, by rw [p2, getD_set' hbl, if_neg hxb], fun y hy => ⟨up _ (p3 y hy).1, up _ (p3 y hy).2⟩⟩
  · rw [getD_set' hbl] at hk ⊢
    split at hk
    · omega
    · rename_i hxb; rw [if_neg hxb]; exact h.neg x hx hk

/-- How many are not known. -/
def unk (D : List Int) : Nat := D.countP (fun x => decide (x < 0))

theorem countP_set : ∀ {D : List Int} {b : Nat} {x : Int}, D.getD b (-1) < 0 → b < D.length → 0 ≤ x → unk (D.set b x) + 1 = unk D
  | [], b, x, _, h, _ => by simp at h
  | y :: r, 0, x, h, _, hx => by
    have hy : y < 0 := by simpa [List.getD] using h
    unfold unk
    rw [List.set_cons_zero, List.countP_cons_of_neg (by simpa using hx), List.countP_cons_of_pos (by simpa using hy)]
  | y :: r, b + 1, x, h, hb, hx => by
    have h' : r.getD b (-1) < 0 := by simpa [List.getD] using h
    have ih := countP_set (D := r) h' (by simpa using hb) hx
    unfold unk at ih ⊢
    rw [List.set_cons_succ, List.countP_cons, List.countP_cons]
    omega

theorem unk_le (D : List Int) : unk D ≤ D.length := List.countP_le_length

theorem unk_pos {D : List Int} {b : Nat} (h : D.getD b (-1) < 0) (hb : b < D.length) : 0 < unk D := by
  have := countP_set (x := 0) h hb (by omega)
  omega

/-- No edge leads from what is known to what isn't. -/
def Closed (f : Ed → Nat × Nat) (es : List Ed) (D : List Int) : Prop := ∀ e ∈ es, (0 ≤ D.getD (f e).1 (-1)) ↔ (0 ≤ D.getD (f e).2 (-1))

theorem Dis.done (h : Dis f T s n D) (hT : ∀ e ∈ T, (f e).1 < n ∧ (f e).2 < n) (hs : s < n) (hc : Closed f T D) (x : Nat) (hx : x < n) : 0 ≤ D.getD x (-1) ↔ Cn f T s x := by
  constructor
  · intro hk
    obtain ⟨p, p1, _, _⟩ := h.got x hx hk
    exact p1.cn
  · intro hcn
    have : ∀ k, Cn f T s k → 0 ≤ D.getD k (-1) := by
      intro k hk
      induction hk with
      | refl => rw [h.zero]; exact Int.le_refl _
      | @step i j e _ he hl ih =>
        rcases hl with ⟨l1, l2⟩ | ⟨l1, l2⟩
        · rw [← l1] at ih; rw [← l2]; exact (hc e he).1 ih
        · rw [← l1] at ih; rw [← l2]; exact (hc e he).2 ih
    exact this x hcn

/-- What Distances answers: how far each place of the tree is, -1 for the others. -/
structure Told (f : Ed → Nat × Nat) (T : List Ed) (s n : Nat) (D : List Int) : Prop where
  len : D.length = n
  known : ∀ x, x < n → (0 ≤ D.getD x (-1) ↔ Cn f T s x)
  far : ∀ x, x < n → 0 ≤ D.getD x (-1) → ∃ p, Trail f T s p x ∧ sumW p = D.getD x (-1)
  neg : ∀ x, x < n → D.getD x (-1) < 0 → D.getD x (-1) = -1

theorem Dis.told (h : Dis f T s n D) (hT : ∀ e ∈ T, (f e).1 < n ∧ (f e).2 < n) (hs : s < n) (hc : Closed f T D) : Told f T s n D :=
  ⟨h.len, h.done hT hs hc, fun x hx hk => by obtain ⟨p, p1, p2, _⟩ := h.got x hx hk; exact ⟨p, p1, p2⟩, h.neg⟩

theorem Trail.bound {p : List Ed} {i j : Nat} (h : Trail f T i p j) (hw : ∀ e ∈ T, 0 ≤ e.w ∧ e.w ≤ 1099511627776) (hl : T.length ≤ 2048) : 0 ≤ sumW p ∧ sumW p ≤ 2251799813685248 := by
  have h1 := sumW_bd p fun e he => hw e (h.sub e he)
  have h2 : p.length ≤ T.length := by
    have : ∀ {p T : List Ed}, p.Nodup → (∀ e ∈ p, e ∈ T) → p.length ≤ T.length := by
      intro p
      induction p with
      | nil => intro T _ _; exact Nat.zero_le _
      | cons x r ih =>
        intro T hn hs
        obtain ⟨n1, n2⟩ := List.nodup_cons.1 hn
        obtain ⟨A, C, rfl⟩ := List.append_of_mem (hs x List.mem_cons_self)
        have := ih (T := A ++ C) n2 fun e he => by
          have h3 := hs e (List.mem_cons_of_mem _ he)
          rcases List.mem_append.1 h3 with h4 | h4
          · exact List.mem_append_left _ h4
          · rcases List.mem_cons.1 h4 with rfl | h4
            · exact absurd he n1
            · exact List.mem_append_right _ h4
        simp only [List.length_append, List.length_cons] at this ⊢
        omega
    exact this h.one h.sub
  omega

theorem Dis.bound (h : Dis f T s n D) (hw : ∀ e ∈ T, 0 ≤ e.w ∧ e.w ≤ 1099511627776) (hl : T.length ≤ 2048) {x : Nat} (hx : x < n) : -1 ≤ D.getD x (-1) ∧ D.getD x (-1) ≤ 2251799813685248 := by
  by_cases hk : 0 ≤ D.getD x (-1)
  · obtain ⟨p, p1, p2, _⟩ := h.got x hx hk
    have := p1.bound hw hl
    omega
  · have := h.neg x hx (by omega)
    omega
end

/-! ### The greatest distance -/

section
variable {V : List Int} {E : List Ed}

/-- What is known of the greatest distance so far: of the first i places all, of the next one's distances the first j. -/
structure Mst (V : List Int) (E : List Ed) (u : Int) (i j : Nat) (mo : Int) : Prop where
  lo : 0 ≤ mo
  le : mo ≤ spanV V E u
  done : ∀ x y, x < i → Cn (plE V) (forE V E) (pl V u) x → Cn (plE V) (forE V E) x y → dst (plE V) (forE V E).reverse x y ≤ mo
  now : ∀ y, y < j → Cn (plE V) (forE V E) (pl V u) i → Cn (plE V) (forE V E) i y → dst (plE V) (forE V E).reverse i y ≤ mo

theorem span_pos (hr : Right V E) {u : Int} (hu : u ∈ V) : 0 ≤ spanV V E u := by
  obtain ⟨a, b, _, _, _, _, _, h⟩ := span_spec hr hu
  have := h (pl V u) (pl V u) (.refl _) (.refl _)
  rwa [dst_self (forE_forest hr)] at this

theorem mst_start (hr : Right V E) {u : Int} (hu : u ∈ V) : Mst V E u 0 0 0 := ⟨Int.le_refl _, span_pos hr hu, fun x y h => (by omega), fun y h => (by omega)⟩

theorem Mst.skip {u : Int} {i : Nat} {mo : Int} (h : Mst V E u i 0 mo) (hn : ¬ Cn (plE V) (forE V E) (pl V u) i) : Mst V E u (i + 1) 0 mo := by
  refine ⟨h.lo, h.le, fun x y hx h1 h2 => ?_, fun y hy => (by omega)⟩
  rcases Nat.lt_or_eq_of_le (Nat.le_of_lt_succ hx) with hx | rfl
  · exact h.done x y hx h1 h2
  · exact absurd h1 hn

theorem Mst.leave (hr : Right V E) {u : Int} {i : Nat} {mo : Int} (hi : i < V.length) (h : Mst V E u i V.length mo) : Mst V E u (i + 1) 0 mo := by
  refine ⟨h.lo, h.le, fun x y hx h1 h2 => ?_, fun y hy => (by omega)⟩
  rcases Nat.lt_or_eq_of_le (Nat.le_of_lt_succ hx) with hx | rfl
  · exact h.done x y hx h1 h2
  · exact h.now y (cn_lt hr hi h2) h1 h2

theorem Mst.pass {u : Int} {i j : Nat} {mo : Int} (h : Mst V E u i j mo) (hn : Cn (plE V) (forE V E) (pl V u) i → Cn (plE V) (forE V E) i j → dst (plE V) (forE V E).reverse i j ≤ mo) : Mst V E u i (j + 1) mo := by
  refine ⟨h.lo, h.le, h.done, fun y hy h1 h2 => ?_⟩
  rcases Nat.lt_or_eq_of_le (Nat.le_of_lt_succ hy) with hy | rfl
  · exact h.now y hy h1 h2
  · exact hn h1 h2

theorem Mst.up (hr : Right V E) {u : Int} (hu : u ∈ V) {i j : Nat} {mo d : Int} (h : Mst V E u i j mo) (h1 : Cn (plE V) (forE V E) (pl V u) i) (h2 : Cn (plE V) (forE V E) i j) (hd : d = dst (plE V) (forE V E).reverse i j) (hgt : mo ≤ d) : Mst V E u i (j + 1) d := by
  obtain ⟨a, b, _, _, _, _, _, hs⟩ := span_spec hr hu
  refine ⟨by have := h.lo; omega, by rw [hd]; exact hs i j h1 (h1.trans h2), fun x y hx k1 k2 => Int.le_trans (h.done x y hx k1 k2) hgt, fun y hy k1 k2 => ?_⟩
  rcases Nat.lt_or_eq_of_le (Nat.le_of_lt_succ hy) with hy | rfl
  · exact Int.le_trans (h.now y hy k1 k2) hgt
  · rw [hd]; exact Int.le_refl _

theorem Mst.end_ (hr : Right V E) {u : Int} (hu : u ∈ V) {mo : Int} (h : Mst V E u V.length 0 mo) : mo = spanV V E u := by
  obtain ⟨a, b, ha, hb, h1, h2, h3, _⟩ := span_spec hr hu
  have := h.done b a hb h2 (h2.symm.trans h1)
  have := h.le
  omega

/-- A distance that is told. -/
theorem Told.dst (hr : Right V E) {s x : Nat} {D : List Int} (h : Told (plE V) (forE V E) s V.length D) (hx : x < V.length) (hk : 0 ≤ D.getD x (-1)) : D.getD x (-1) = dst (plE V) (forE V E).reverse s x := by
  obtain ⟨p, p1, p2⟩ := h.far x hx hk
  rw [← p2]
  exact (dst_of (forE_forest hr) (p1.mono fun e he => List.mem_reverse.2 he)).symm
end

end Go.Proofs.YtghacfhpafbdmaaGreat

/-
  Rows of one's own: their cells, a store into one, a shorter row; rows of unlike elements are apart. No walk.
-/
namespace Go.Proofs.YtghacfhpafbdmaaGreat
open Go.RowKit
set_option linter.unusedVariables false

theorem OK.shape {α : Type} {enc : α → List Value} {k E : Nat} {w : World} {B : Nat} {v : Value} {xs : List α} (h : OK enc k E w B v xs) (hl : 0 < xs.length) : ∃ b c, v = .slice (some ⟨b, 0, none⟩) xs.length c ∧ xs.length ≤ c ∧ c ≤ 9223372036854775807 := by
  rcases h.2.2 with ⟨e, h0⟩ | ⟨q, c, cur, e, _, _, h1, h2, _⟩
  · omega
  · exact ⟨q, c, e, h1, by simpa [maxLen] using h2⟩

theorem flat_setK {α : Type} {enc : α → List Value} {k : Nat} (hk : ∀ x, (enc x).length = k) : ∀ {xs : List α} {i j : Nat} {x x' : α} {u : Value}, xs[i]? = some x → j < k → enc x' = (enc x).set j u → (xs.flatMap enc).set (i * k + j) u = (xs.set i x').flatMap enc
  | [], i, j, x, x', u, hi, _, _ => by simp at hi
  | a :: r, 0, j, x, x', u, hi, hj, he => by
    simp at hi; subst hi
    rw [List.flatMap_cons, List.set_cons_zero, List.flatMap_cons, Nat.zero_mul, Nat.zero_add, List.set_append_left _ _ (by rw [hk]; exact hj), he]
  | a :: r, i + 1, j, x, x', u, hi, hj, he => by
    have hi' : r[i]? = some x := by simpa using hi
    rw [List.flatMap_cons, List.set_cons_succ, List.flatMap_cons, List.set_append_right _ _ (by rw [hk, Nat.add_mul]; omega), hk, show (i + 1) * k + j - k = i * k + j by rw [Nat.add_mul]; omega, flat_setK hk hi' hj he]

theorem OK.setK {α : Type} {enc : α → List Value} {k E : Nat} {w : World} {B b n c i j : Nat} {xs : List α} {x x' : α} {u : Value} (hk : ∀ x, (enc x).length = k) (h : OK enc k E w B (.slice (some ⟨b, 0, none⟩) n c) xs) (hi : xs[i]? = some x) (hj : j < k) (he : enc x' = (enc x).set j u) :
    OK enc k E (w.setCell ⟨b, i * k + j, none⟩ u) B (.slice (some ⟨b, 0, none⟩) n c) (xs.set i x') := by
  obtain ⟨h1, h2, h3⟩ := h
  rcases h3 with ⟨e, hn⟩ | ⟨g, cap, cur, e, hgB, hg, hnc, hcm, hsz, htk⟩
  · cases e
  · injection e with e1 e2 e3
    injection e1 with e1
    injection e1 with e1 e4
    subst e1 e2 e3
    have hblk : Blk w b E cur := hg
    have hlt := (List.getElem?_eq_some_iff.1 hi).1
    refine ⟨by rw [List.length_set]; exact h1, by rw [flat_len hk, List.length_set], .inr ⟨b, c, cur.setIfInBounds (i * k + j) u, by rw [List.length_set], hgB, hblk.set_ _ _, by rw [List.length_set]; exact hnc, hcm, by simpa using hsz, ?_⟩⟩
    rw [List.length_set, Array.toList_setIfInBounds, List.take_set, htk]
    exact flat_setK hk hi hj he

theorem OK.cellK {α : Type} {enc : α → List Value} {k E : Nat} {w : World} {B b n c i j : Nat} {xs : List α} {x : α} {u : Value} (hk : ∀ x, (enc x).length = k) (h : OK enc k E w B (.slice (some ⟨b, 0, none⟩) n c) xs) (hi : xs[i]? = some x) (hu : (enc x)[j]? = some u) : w.cell? ⟨b, i * k + j, none⟩ = some u := by
  obtain ⟨_, A, c', e, _, _, h5⟩ := h.rk hk (Nat.le_refl _)
  injection e with e1 e2 e3
  rcases h5 with h5 | ⟨b', off, e4, _, hc⟩
  · rw [h5] at hi; simp at hi
  · have hz : off = 0 := by
      rcases h.2.2 with ⟨e, _⟩ | ⟨g, cap, cur, e, _⟩
      · cases e
      · rw [e4] at e1; injection e1 with e1; injection e1
        omega
    rw [e4] at e1
    injection e1 with e1
    injection e1 with e1
    subst e1
    have := hc i x hi j u hu
    rw [hz, Nat.zero_add] at this
    exact this

theorem OK.frozenK {α : Type} {enc : α → List Value} {k E : Nat} {w : World} {B b o n c : Nat} {xs : List α} (h : OK enc k E w B (.slice (some ⟨b, o, none⟩) n c) xs) (i : Nat) : w.frozen? ⟨b, i, none⟩ = false := by
  rcases h.2.2 with ⟨e, _⟩ | ⟨g, cap, cur, e, _, hg, _⟩
  · cases e
  · injection e with e1
    injection e1 with e1
    injection e1 with e1 e2
    subst e1
    exact Blk.frozen (t := E) (cs := cur) hg i

theorem OK.blkNe {α : Type} {enc : α → List Value} {k E : Nat} {w : World} {B b o n c g t : Nat} {cs : Array Value} {xs : List α} (h : OK enc k E w B (.slice (some ⟨b, o, none⟩) n c) xs) (hb : Blk w g t cs) (hne : t ≠ E) : g ≠ b := by
  rcases h.2.2 with ⟨e, _⟩ | ⟨g', cap, cur, e, _, hg, _⟩
  · cases e
  · injection e with e1
    injection e1 with e1
    injection e1 with e1 e2
    subst e1
    exact hb.ne_ (t' := E) (cs' := cur) hg hne

theorem OK.same {α : Type} {enc : α → List Value} {k E : Nat} {w w' : World} {B : Nat} {v : Value} {xs : List α} (h : OK enc k E w B v xs) (hb : ∀ b, v.ownBlock = some b → w'.heap[b]? = w.heap[b]?) : OK enc k E w' B v xs := by
  refine ⟨h.1, h.2.1, ?_⟩
  rcases h.2.2 with h3 | ⟨q, c, cur, e, hq, hh, r⟩
  · exact .inl h3
  · exact .inr ⟨q, c, cur, e, hq, (hb q (by rw [e]; rfl)).trans hh, r⟩

theorem OK.blk {α : Type} {enc : α → List Value} {k E : Nat} {w : World} {B : Nat} {v : Value} {xs : List α} (h : OK enc k E w B v xs) {b : Nat} (hb : v.ownBlock = some b) : ∃ cs, Blk w b E cs := by
  rcases h.2.2 with ⟨e, _⟩ | ⟨q, c, cur, e, hq, hh, r⟩
  · rw [e] at hb; cases hb
  · rw [e] at hb
    injection hb with hb
    subst hb
    exact ⟨cur, hh⟩

/-- A slice's length. -/
def lenV : Value → Nat
  | .slice _ n _ => n
  | _ => 0

theorem OK.shrink {α : Type} {enc : α → List Value} {k E : Nat} (hk : ∀ x, (enc x).length = k) {w : World} {B fb fc m : Nat} {xs : List α} (h : OK enc k E w B (.slice (some ⟨fb, 0, none⟩) (m + 1) fc) xs) : OK enc k E w B (.slice (some ⟨fb, 0, none⟩) m fc) xs.dropLast := by
  obtain ⟨o1, o2, o3⟩ := h
  rcases o3 with ⟨e, _⟩ | ⟨q, c0, cur, e, r1, r2, r3, r4, r5, r6⟩
  · cases e
  · injection e with e1 e2 e3
    injection e1 with e1
    injection e1 with e1
    subst e1 e3
    have hl : xs.dropLast.length = m := by simp; omega
    have hle : m * k ≤ xs.length * k := Nat.mul_le_mul_right k (by omega)
    refine ⟨by rw [hl]; omega, by rw [flat_len hk], .inr ⟨fb, fc, cur, by rw [hl], r1, r2, by rw [hl]; omega, r4, r5, ?_⟩⟩
    have hne : xs ≠ [] := by rintro rfl; simp at e2
    have hx : xs = xs.dropLast ++ [xs.getLast hne] := (List.dropLast_concat_getLast hne).symm
    have e9 : (cur.toList.take (xs.length * k)).take (m * k) = cur.toList.take (m * k) := by rw [List.take_take]; congr 1; omega
    rw [hl, ← e9, r6]
    conv => lhs; rw [hx]
    rw [List.flatMap_append, List.take_append_of_le_length (by rw [flat_len hk, hl]; exact Nat.le_refl _), List.take_of_length_le (by rw [flat_len hk, hl]; exact Nat.le_refl _)]

theorem own_ne {w : World} {B B' E E' k k' : Nat} {α β : Type} {enc : α → List Value} {enc' : β → List Value} {v v' : Value} {xs : List α} {ys : List β} (h : OK enc k E w B v xs) (h' : OK enc' k' E' w B' v' ys) (hne : E ≠ E') : v.ownBlock = none ∨ v.ownBlock ≠ v'.ownBlock := by
  cases e : v.ownBlock with
  | none => exact .inl rfl
  | some b =>
    refine .inr fun e2 => ?_
    obtain ⟨cs, h1⟩ := h.blk e
    obtain ⟨cs', h2⟩ := h'.blk e2.symm
    exact absurd rfl (h1.ne_ h2 hne)

theorem oneI (w : World) (y : Int) (t : TypeId) : ∀ (j : Nat) u, (encI y)[j]? = some u → (w.alloc (.cells #[.int .i64 y] t)).cell? ⟨w.heap.size, j, none⟩ = some u := by
  intro j u hu; rw [(Blk.new w _ _).cell j]; simpa [encI] using hu

theorem oneE (w : World) (e : Ed) (t : TypeId) : ∀ (j : Nat) u, (encE e)[j]? = some u → (w.alloc (.cells #[.int .i64 e.id, .int .i64 e.u, .int .i64 e.v, .int .i64 e.w] t)).cell? ⟨w.heap.size, j, none⟩ = some u := by
  intro j u hu; rw [(Blk.new w _ _).cell j]; simpa [encE] using hu

theorem oneS (w : World) (v : Value) (t : TypeId) : ∀ (j : Nat) u, ([v] : List Value)[j]? = some u → (w.alloc (.cells #[v] t)).cell? ⟨w.heap.size, j, none⟩ = some u := by
  intro j u hu; rw [(Blk.new w _ _).cell j]; simpa using hu

/-- Places as numbers. -/
def natsI (L : List Nat) : List Int := L.map fun n : Nat => (n : Int)

theorem natsI_at {L : List Nat} {i : Nat} (h : i < L.length) : (natsI L)[i]? = some ((lab L i : Nat) : Int) := by
  unfold natsI
  rw [List.getElem?_map, List.getElem?_eq_getElem h, lab_at h]; rfl

theorem natsI_len (L : List Nat) : (natsI L).length = L.length := by simp [natsI]

theorem natsI_set (L : List Nat) (i x : Nat) : natsI (L.set i x) = (natsI L).set i (x : Int) := by simp [natsI, List.map_set]

theorem natsI_range_succ (k : Nat) : natsI (List.range (k + 1)) = natsI (List.range k) ++ [(k : Int)] := by unfold natsI; rw [List.range_succ, List.map_append]; rfl

end Go.Proofs.YtghacfhpafbdmaaGreat
