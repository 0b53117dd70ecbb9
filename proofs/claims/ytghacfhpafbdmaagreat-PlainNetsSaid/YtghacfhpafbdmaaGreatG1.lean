/-
  Plain words on nets: edges, what is right, places, sets of joined places as labels, and the forest of least edges. No walk.
-/
namespace Go.Proofs.YtghacfhpafbdmaaGreat
set_option linter.unusedVariables false

/-- An edge: its id, its ends, its weight. -/
structure Ed where
  id : Int
  u : Int
  v : Int
  w : Int
theorem Ed.ext' {a b : Ed} (h1 : a.id = b.id) (h2 : a.u = b.u) (h3 : a.v = b.v) (h4 : a.w = b.w) : a = b := by
  cases a; cases b; simp at h1 h2 h3 h4; subst h1 h2 h3 h4; rfl
instance : DecidableEq Ed := fun a b =>
  if h : a.id = b.id ∧ a.u = b.u ∧ a.v = b.v ∧ a.w = b.w then .isTrue (Ed.ext' h.1 h.2.1 h.2.2.1 h.2.2.2)
  else .isFalse fun e => h (by subst e; exact ⟨rfl, rfl, rfl, rfl⟩)
instance : Inhabited Ed := ⟨⟨0, 0, 0, 0⟩⟩

/-! ### What is right -/
def idB (i : Int) : Bool := decide (1 ≤ i) && decide (i ≤ 2147483647)
theorem idB_iff {i : Int} : idB i = true ↔ 1 ≤ i ∧ i ≤ 2147483647 := by simp [idB]
def okV : Int → List Int → Bool
  | _, [] => true
  | last, v :: r => (idB v && decide (last < v)) && okV v r
def rightV (V : List Int) : Bool := decide (V.length ≤ 2048) && okV 0 V
def okE (V : List Int) : Int → List Ed → Bool
  | _, [] => true
  | last, e :: r => ((idB e.id && decide (last < e.id)) && (decide (0 ≤ e.w) && decide (e.w ≤ 1099511627776))) && (V.contains e.u && V.contains e.v) && okE V e.id r
def rightE (V : List Int) (E : List Ed) : Bool := decide (E.length ≤ 2048) && okE V 0 E
def rightN (V : List Int) (E : List Ed) : Bool := rightV V && rightE V E

theorem okV_spec : ∀ (V : List Int) (last : Int), okV last V = true → V.Pairwise (· < ·) ∧ (∀ x ∈ V, last < x ∧ 1 ≤ x ∧ x ≤ 2147483647)
  | [], _, _ => ⟨List.Pairwise.nil, fun x h => by cases h⟩
  | v :: r, last, h => by
    simp only [okV, Bool.and_eq_true, decide_eq_true_eq, idB_iff] at h
    obtain ⟨⟨⟨h1, h2⟩, h3⟩, h4⟩ := h
    obtain ⟨h5, h6⟩ := okV_spec r v h4
    refine ⟨List.pairwise_cons.2 ⟨fun x hx => (h6 x hx).1, h5⟩, fun x hx => ?_⟩
    rcases List.mem_cons.1 hx with rfl | hx
    · exact ⟨h3, h1, h2⟩
    · have := h6 x hx; exact ⟨by omega, this.2⟩
theorem okE_spec (V : List Int) : ∀ (E : List Ed) (last : Int), okE V last E = true → E.Pairwise (fun a b => a.id < b.id) ∧ (∀ e ∈ E, last < e.id ∧ 1 ≤ e.id ∧ e.id ≤ 2147483647 ∧ 0 ≤ e.w ∧ e.w ≤ 1099511627776 ∧ e.u ∈ V ∧ e.v ∈ V)
  | [], _, _ => ⟨List.Pairwise.nil, fun x h => by cases h⟩
  | e :: r, last, h => by
    simp only [okE, Bool.and_eq_true, decide_eq_true_eq, idB_iff, List.contains_iff_mem] at h
    obtain ⟨⟨⟨⟨⟨h1, h2⟩, h3⟩, ⟨h4, h5⟩⟩, ⟨h6, h7⟩⟩, h8⟩ := h
    obtain ⟨h9, h10⟩ := okE_spec V r e.id h8
    refine ⟨List.pairwise_cons.2 ⟨fun x hx => (h10 x hx).1, h9⟩, fun x hx => ?_⟩
    rcases List.mem_cons.1 hx with rfl | hx
    · exact ⟨h3, h1, h2, h4, h5, h6, h7⟩
    · have := h10 x hx; exact ⟨by omega, this.2⟩

/-- A right net, in words. -/
structure Right (V : List Int) (E : List Ed) : Prop where
  vlen : V.length ≤ 2048
  elen : E.length ≤ 2048
  vup : V.Pairwise (· < ·)
  vid : ∀ x ∈ V, 1 ≤ x ∧ x ≤ 2147483647
  eup : E.Pairwise (fun a b => a.id < b.id)
  eid : ∀ e ∈ E, 1 ≤ e.id ∧ e.id ≤ 2147483647
  ew : ∀ e ∈ E, 0 ≤ e.w ∧ e.w ≤ 1099511627776
  eu : ∀ e ∈ E, e.u ∈ V
  ev : ∀ e ∈ E, e.v ∈ V
theorem right_of {V : List Int} {E : List Ed} (h : rightN V E = true) : Right V E := by
  simp only [rightN, rightV, rightE, Bool.and_eq_true, decide_eq_true_eq] at h
  obtain ⟨⟨h1, h2⟩, h3, h4⟩ := h
  obtain ⟨h5, h6⟩ := okV_spec V 0 h2
  obtain ⟨h7, h8⟩ := okE_spec V E 0 h4
  exact ⟨h1, h3, h5, fun x hx => (h6 x hx).2, h7, fun e he => ⟨(h8 e he).2.1, (h8 e he).2.2.1⟩, fun e he => ⟨(h8 e he).2.2.2.1, (h8 e he).2.2.2.2.1⟩, fun e he => (h8 e he).2.2.2.2.2.1, fun e he => (h8 e he).2.2.2.2.2.2⟩

/-! ### Places -/
/-- Where a vertex stands among rising ones. -/
def pl (V : List Int) (v : Int) : Nat := V.countP (· < v)
theorem pl_le (V : List Int) (v : Int) : pl V v ≤ V.length := List.countP_le_length
theorem pl_get : ∀ (V : List Int), V.Pairwise (· < ·) → ∀ (i : Nat) x, V[i]? = some x → pl V x = i
  | [], _, i, x, h => by simp at h
  | a :: r, hp, 0, x, h => by
    simp at h; subst h
    have h1 := (List.pairwise_cons.1 hp).1
    unfold pl
    rw [List.countP_cons_of_neg (by simp), List.countP_eq_zero]
    intro y hy
    have := h1 y hy
    simp; omega
  | a :: r, hp, i + 1, x, h => by
    obtain ⟨h1, h2⟩ := List.pairwise_cons.1 hp
    have hx : r[i]? = some x := by simpa using h
    have h3 := h1 x (List.mem_of_getElem? hx)
    unfold pl
    rw [List.countP_cons_of_pos (by simpa using h3)]
    have := pl_get r h2 i x hx
    unfold pl at this
    omega
theorem pl_mem {V : List Int} (hp : V.Pairwise (· < ·)) {v : Int} (hv : v ∈ V) : V[pl V v]? = some v := by
  obtain ⟨i, hi⟩ := List.getElem?_of_mem hv
  rw [pl_get V hp i v hi]; exact hi
theorem pl_lt {V : List Int} (hp : V.Pairwise (· < ·)) {v : Int} (hv : v ∈ V) : pl V v < V.length := by
  obtain ⟨h, _⟩ := List.getElem?_eq_some_iff.1 (pl_mem hp hv); exact h
theorem pl_inj {V : List Int} (hp : V.Pairwise (· < ·)) {u v : Int} (hu : u ∈ V) (hv : v ∈ V) (h : pl V u = pl V v) : u = v := by
  have h1 := pl_mem hp hu
  have h2 := pl_mem hp hv
  rw [h, h2] at h1
  exact (Option.some.inj h1).symm

/-! ### Labels: for each place the first place of its set -/
def lab (L : List Nat) (i : Nat) : Nat := L.getD i 0
structure LabOk (L : List Nat) : Prop where
  le : ∀ i, i < L.length → lab L i ≤ i
  fix : ∀ i, i < L.length → lab L (lab L i) = lab L i
theorem LabOk.lt {L : List Nat} (h : LabOk L) {i : Nat} (hi : i < L.length) : lab L i < L.length := by have := h.le i hi; omega

theorem lab_range (n i : Nat) (h : i < n) : lab (List.range n) i = i := by simp [lab, List.getD, h]
theorem labOk_range (n : Nat) : LabOk (List.range n) := by
  refine ⟨fun i hi => ?_, fun i hi => ?_⟩
  · rw [List.length_range] at hi; rw [lab_range n i hi]; exact Nat.le_refl _
  · rw [List.length_range] at hi; rw [lab_range n i hi, lab_range n i hi]

/-- One label in the other's place. -/
def ren (a b x : Nat) : Nat := if x = max a b then min a b else x
def joinL (L : List Nat) (i j : Nat) : List Nat := L.map (ren (lab L i) (lab L j))
@[simp] theorem length_joinL (L : List Nat) (i j : Nat) : (joinL L i j).length = L.length := by simp [joinL]
theorem lab_joinL {L : List Nat} {i j k : Nat} (hk : k < L.length) : lab (joinL L i j) k = ren (lab L i) (lab L j) (lab L k) := by
  simp [lab, joinL, List.getD, hk]
theorem ren_le (a b x : Nat) : ren a b x ≤ x := by unfold ren; split <;> omega
theorem ren_eq_iff {a b x y : Nat} : ren a b x = ren a b y ↔ x = y ∨ (x = a ∧ y = b) ∨ (x = b ∧ y = a) := by
  unfold ren
  split <;> split <;> omega
theorem ren_self (a x : Nat) : ren a a x = x := by unfold ren; split <;> omega

theorem LabOk.join {L : List Nat} (h : LabOk L) {i j : Nat} (hi : i < L.length) (hj : j < L.length) : LabOk (joinL L i j) := by
  refine ⟨fun k hk => ?_, fun k hk => ?_⟩
  · rw [length_joinL] at hk
    rw [lab_joinL hk]
    exact Nat.le_trans (ren_le _ _ _) (h.le k hk)
  · rw [length_joinL] at hk
    have h1 := h.lt hk
    rw [lab_joinL hk]
    have hlt : ren (lab L i) (lab L j) (lab L k) < L.length := Nat.lt_of_le_of_lt (ren_le _ _ _) h1
    rw [lab_joinL hlt]
    have h2 := h.fix k hk
    have h3 := h.fix i hi
    have h4 := h.fix j hj
    unfold ren
    by_cases hm : lab L k = max (lab L i) (lab L j)
    · rw [if_pos hm]
      have h5 : lab L (min (lab L i) (lab L j)) = min (lab L i) (lab L j) := by
        rcases Nat.le_total (lab L i) (lab L j) with h' | h'
        · rw [Nat.min_eq_left h']; exact h3
        · rw [Nat.min_eq_right h']; exact h4
      rw [h5]; split <;> omega
    · rw [if_neg hm, h2, if_neg hm]

theorem joinL_same {L : List Nat} {i j : Nat} (h : lab L i = lab L j) : joinL L i j = L := by
  unfold joinL
  rw [h]
  have : ren (lab L j) (lab L j) = id := by funext x; exact ren_self _ x
  rw [this, List.map_id]

/-- Edges by places. -/
def labsF (f : Ed → Nat × Nat) (L : List Nat) (es : List Ed) : List Nat := es.foldl (fun L e => joinL L (f e).1 (f e).2) L
def plE (V : List Int) (e : Ed) : Nat × Nat := (pl V e.u, pl V e.v)
/-- The labels behind edges. -/
def labs (V : List Int) (es : List Ed) : List Nat := labsF (plE V) (List.range V.length) es
theorem length_labsF (f : Ed → Nat × Nat) : ∀ (es : List Ed) (L : List Nat), (labsF f L es).length = L.length
  | [], _ => rfl
  | e :: r, L => by unfold labsF; rw [List.foldl_cons]; have := length_labsF f r (joinL L (f e).1 (f e).2); unfold labsF at this; rw [this, length_joinL]
theorem labsF_cons (f : Ed → Nat × Nat) (L : List Nat) (e : Ed) (r : List Ed) : labsF f L (e :: r) = labsF f (joinL L (f e).1 (f e).2) r := rfl
theorem labsF_snoc (f : Ed → Nat × Nat) (L : List Nat) (r : List Ed) (e : Ed) : labsF f L (r ++ [e]) = joinL (labsF f L r) (f e).1 (f e).2 := by
  simp [labsF]
theorem LabOk.fold {f : Ed → Nat × Nat} : ∀ {es : List Ed} {L : List Nat}, LabOk L → (∀ e ∈ es, (f e).1 < L.length ∧ (f e).2 < L.length) → LabOk (labsF f L es)
  | [], _, h, _ => h
  | e :: r, L, h, he => by
    rw [labsF_cons]
    have h1 := he e (by simp)
    refine LabOk.fold (h.join h1.1 h1.2) fun x hx => ?_
    rw [length_joinL]
    exact he x (by simp [hx])

/-- The edges that are taken. -/
def krus (f : Ed → Nat × Nat) : List Nat → List Ed → List Ed
  | _, [] => []
  | L, e :: r => if lab L (f e).1 = lab L (f e).2 then krus f L r else e :: krus f (joinL L (f e).1 (f e).2) r
theorem krus_sublist (f : Ed → Nat × Nat) : ∀ (es : List Ed) (L : List Nat), (krus f L es).Sublist es
  | [], _ => List.Sublist.slnil
  | e :: r, L => by
    unfold krus
    split
    · exact (krus_sublist f r L).cons e
    · exact (krus_sublist f r _).cons_cons e
/-- Labels behind those taken are the labels behind all. -/
theorem krus_labs (f : Ed → Nat × Nat) : ∀ (es : List Ed) (L : List Nat), labsF f L (krus f L es) = labsF f L es
  | [], _ => rfl
  | e :: r, L => by
    unfold krus
    split
    · rename_i h
      rw [labsF_cons, joinL_same h]; exact krus_labs f r L
    · rw [labsF_cons, labsF_cons]; exact krus_labs f r _

/-! ### The array behind the labels -/
/-- s leads each place to its label. -/
structure UF (s L : List Nat) : Prop where
  len : s.length = L.length
  le : ∀ i, i < L.length → lab s i ≤ i
  same : ∀ i, i < L.length → lab L (lab s i) = lab L i
  fix : ∀ i, i < L.length → (lab s i = i ↔ lab L i = i)
theorem UF.start (n : Nat) : UF (List.range n) (List.range n) := by
  refine ⟨rfl, fun i hi => ?_, fun i hi => ?_, fun i hi => Iff.rfl⟩ <;> rw [List.length_range] at hi
  · rw [lab_range n i hi]; exact Nat.le_refl _
  · rw [lab_range n i hi, lab_range n i hi]
theorem lab_set {s : List Nat} {i k x : Nat} (hi : i < s.length) : lab (s.set i x) k = if k = i then x else lab s k := by
  unfold lab
  by_cases h : k = i
  · subst h; simp [List.getD, hi]
  · rw [if_neg h]; simp [List.getD, List.getElem?_set_ne (Ne.symm h)]
theorem UF.halve {s L : List Nat} (h : UF s L) {i : Nat} (hi : i < L.length) (hne : lab s i ≠ i) : UF (s.set i (lab s (lab s i))) L := by
  have hl := h.len
  have h1 := h.le i hi
  have h2 := h.le (lab s i) (by omega)
  refine ⟨by simpa using hl, fun k hk => ?_, fun k hk => ?_, fun k hk => ?_⟩ <;> rw [lab_set (by omega)] <;> split
  · rename_i e; subst e; omega
  · exact h.le k hk
  · rename_i e; subst e; rw [h.same _ (by omega), h.same _ hi]
  · exact h.same k hk
  · rename_i e; subst e
    have := h.fix k hi
    constructor
    · intro e; omega
    · intro e; exact absurd (this.2 e) hne
  · exact h.fix k hk
theorem UF.join {s L : List Nat} (h : UF s L) (hL : LabOk L) {i j : Nat} (hi : i < L.length) (hj : j < L.length) (hne : lab L i ≠ lab L j) :
    UF (s.set (max (lab L i) (lab L j)) (min (lab L i) (lab L j))) (joinL L i j) := by
  have hl := h.len
  have a1 := hL.le i hi
  have b1 := hL.le j hj
  have a2 := hL.fix i hi
  have b2 := hL.fix j hj
  have hmn : lab L (min (lab L i) (lab L j)) = min (lab L i) (lab L j) := by
    rcases Nat.le_total (lab L i) (lab L j) with h' | h'
    · rw [Nat.min_eq_left h']; exact a2
    · rw [Nat.min_eq_right h']; exact b2
  have hmx : lab L (max (lab L i) (lab L j)) = max (lab L i) (lab L j) := by
    rcases Nat.le_total (lab L i) (lab L j) with h' | h'
    · rw [Nat.max_eq_right h']; exact b2
    · rw [Nat.max_eq_left h']; exact a2
  have hlt : max (lab L i) (lab L j) < L.length := by omega
  refine ⟨by simpa using hl, fun k hk => ?_, fun k hk => ?_, fun k hk => ?_⟩ <;> rw [length_joinL] at hk <;> rw [lab_set (by omega)] <;> split
  · omega
  · exact h.le k hk
  · rename_i e
    rw [lab_joinL (by omega), lab_joinL hk, hmn, e, hmx]
    unfold ren; simp
  · have := h.le k hk
    rw [lab_joinL (by omega), lab_joinL hk, h.same k hk]
  · rename_i e
    rw [lab_joinL hk, e, hmx]
    unfold ren; simp
  · rename_i e
    rw [lab_joinL hk, h.fix k hk]
    have hfk := hL.fix k hk
    unfold ren
    split
    · rename_i e2
      constructor
      · intro e3; omega
      · intro e3; rw [← e3, hmn] at e2; omega
    · exact Iff.rfl

/-! ### The edges by weight and id -/
def leW (a b : Ed) : Bool := decide (a.w < b.w ∨ a.w = b.w ∧ a.id ≤ b.id)
def ltW (a b : Ed) : Bool := decide (a.w < b.w ∨ a.w = b.w ∧ a.id < b.id)
def sortE (E : List Ed) : List Ed := E.mergeSort leW
theorem leW_trans (a b c : Ed) (h1 : leW a b = true) (h2 : leW b c = true) : leW a c = true := by simp [leW] at *; omega
theorem leW_total (a b : Ed) : (leW a b || leW b a) = true := by simp [leW]; omega
theorem sortE_perm (E : List Ed) : (sortE E).Perm E := List.mergeSort_perm E leW
theorem sortE_sorted (E : List Ed) : (sortE E).Pairwise (fun a b => leW a b = true) := List.pairwise_mergeSort leW_trans leW_total E
/-- Ids part the edges. -/
theorem ids_part {E : List Ed} (h : E.Pairwise (fun a b => a.id < b.id)) : ∀ a ∈ E, ∀ b ∈ E, a.id = b.id → a = b := by
  induction E with
  | nil => intro a ha; cases ha
  | cons e r ih =>
    obtain ⟨h1, h2⟩ := List.pairwise_cons.1 h
    intro a ha b hb hab
    rcases List.mem_cons.1 ha with ea | ka <;> rcases List.mem_cons.1 hb with eb | kb
    · rw [ea, eb]
    · have := h1 b kb; subst ea; omega
    · have := h1 a ka; subst eb; omega
    · exact ih h2 a ka b kb hab
/-- A list in order of the same edges is the one. -/
theorem sortE_of {E S : List Ed} (h : E.Pairwise (fun a b => a.id < b.id)) (hp : S.Perm E) (hs : S.Pairwise (fun a b => leW a b = true)) : S = sortE E := by
  have hq : S.Perm (sortE E) := hp.trans (sortE_perm E).symm
  refine hq.eq_of_pairwise (le := fun a b => leW a b = true) ?_ hs (sortE_sorted E)
  intro a b ha hb h1 h2
  have ha' : a ∈ E := hp.mem_iff.1 ha
  have hb' : b ∈ E := (sortE_perm E).mem_iff.1 hb
  refine ids_part h a ha' b hb' ?_
  simp [leW] at h1 h2
  omega

/-- The forest's edges, by weight and id. -/
def forE (V : List Int) (E : List Ed) : List Ed := krus (plE V) (List.range V.length) (sortE E)
theorem forE_sub (V : List Int) (E : List Ed) : ∀ e ∈ forE V E, e ∈ E := fun e he => (sortE_perm E).mem_iff.1 ((krus_sublist _ _ _).subset he)
theorem forE_len (V : List Int) (E : List Ed) : (forE V E).length ≤ E.length := by
  have := (krus_sublist (plE V) (sortE E) (List.range V.length)).length_le
  rwa [(sortE_perm E).length_eq] at this
end Go.Proofs.YtghacfhpafbdmaaGreat
