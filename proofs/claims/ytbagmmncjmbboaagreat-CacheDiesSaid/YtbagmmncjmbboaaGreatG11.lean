/-
  A region whose order is drawn, by what holds when some of its operations have run (what is said of the world may hang on which have): one step for each operation, not one for each order. No walk.
-/
import Derived.Orders
import Derived.WalkKit
namespace Go.Proofs.YtbagmmncjmbboaaGreat
open Go.RowKit
set_option linter.unusedVariables false

section
variable {P : Program} {ops : Array Oper} {Q : Exit → Act → World → Prop} {md : Region.Mode}

/-- How many operations have not run. -/
def toRun (n : Nat) (L : Array Bool) : Nat := ((List.range n).filter fun i => !L.getD i true).length

theorem filter_fewer {p q : Nat → Bool} (i : Nat) : ∀ l : List Nat, (∀ j, q j = true → p j = true) → i ∈ l → p i = true → q i = false → (l.filter q).length < (l.filter p).length := by
  have hle : ∀ l : List Nat, (∀ j, q j = true → p j = true) → (l.filter q).length ≤ (l.filter p).length := by
    intro l h
    induction l with
    | nil => simp
    | cons a l ih =>
      by_cases hq : q a = true
      · rw [List.filter_cons_of_pos hq, List.filter_cons_of_pos (h a hq)]; simpa using ih
      · rw [List.filter_cons_of_neg hq]
        by_cases hp : p a = true
        · rw [List.filter_cons_of_pos hp]; simp; omega
        · rw [List.filter_cons_of_neg hp]; exact ih
  intro l
  induction l with
  | nil => intro _ h; cases h
  | cons a l ih =>
    intro h hi hp hq
    by_cases ha : a = i
    · subst ha
      rw [List.filter_cons_of_neg (by simp [hq]), List.filter_cons_of_pos hp]
      have := hle l h
      simp; omega
    · have hil : i ∈ l := by
        rcases List.mem_cons.1 hi with h1 | h1
        · exact absurd h1.symm ha
        · exact h1
      have := ih h hil hp hq
      by_cases hqa : q a = true
      · rw [List.filter_cons_of_pos hqa, List.filter_cons_of_pos (h a hqa)]; simpa using this
      · rw [List.filter_cons_of_neg hqa]
        by_cases hpa : p a = true
        · rw [List.filter_cons_of_pos hpa]; simp; omega
        · rw [List.filter_cons_of_neg hpa]; exact this

theorem toRun_set {L : Array Bool} {i n : Nat} (hi : L.getD i true = false) (hn : i < n) : toRun n (L.setIfInBounds i true) < toRun n L := by
  have hs : i < L.size := by
    rcases Nat.lt_or_ge i L.size with h | h
    · exact h
    · simp [Array.getElem?_eq_none h] at hi
  unfold toRun
  refine filter_fewer i _ ?_ (List.mem_range.2 hn) (by simp at hi ⊢; exact hi) ?_
  · intro j hj
    by_cases hij : i = j
    · subst hij; simp [hs] at hj
    · rw [getD_set_ne true hij] at hj; exact hj
  · simp [hs]

theorem wpAny_inv {Good : Array Bool → Act → World → Prop}
    (hstep : ∀ L a w i, Good L a w → i ∈ Region.ready md ops L → wpOp P ops Q i (Good (L.setIfInBounds i true)) a w)
    (hend : ∀ L a w, Good L a w → Region.ready md ops L = [] → Q .normal a w) :
    ∀ fuel L a w, toRun ops.size L ≤ fuel → Good L a w → wpAny P md ops Q fuel L a w := by
  intro fuel
  induction fuel with
  | zero =>
    intro L a w ht hg
    have hr : Region.ready md ops L = [] := by
      cases hr : Region.ready md ops L with
      | nil => rfl
      | cons x xs =>
        have hx : x ∈ Region.ready md ops L := by rw [hr]; simp
        obtain ⟨h0, o, ho, _⟩ := mem_ready.1 hx
        have := toRun_set (n := ops.size) h0 (Array.getElem?_eq_some_iff.1 ho).1
        omega
    exact ⟨hr, hend _ _ _ hg hr⟩
  | succ n ih =>
    intro L a w ht hg
    refine ⟨fun hr => hend _ _ _ hg hr, fun i hi => wpOp_mono (fun a w h => ih _ a w ?_ h) (hstep _ _ _ _ hg hi)⟩
    obtain ⟨h0, o, ho, _⟩ := mem_ready.1 hi
    have := toRun_set (n := ops.size) h0 (Array.getElem?_eq_some_iff.1 ho).1
    omega

/-- Each operation waits for earlier ones alone. -/
def waitsBack (md : Region.Mode) (ops : Array Oper) : Bool := (List.range ops.size).all fun i => match ops[i]? with
  | some o => o.after.all fun e => !Region.binds md e || decide (e.on < i)
  | none => true

theorem all_run (hb : waitsBack md ops = true) {L : Array Bool} (h : Region.ready md ops L = []) : ∀ i, i < ops.size → L.getD i true = true := by
  intro i
  induction i using Nat.strongRecOn with
  | ind i ih =>
    intro hi
    cases hL : L.getD i true with
    | true => rfl
    | false =>
      exfalso
      have hm : i ∈ Region.ready md ops L := by
        refine mem_ready.2 ⟨hL, ops[i], Array.getElem?_eq_getElem hi, ?_⟩
        intro e he hbd
        have h1 := List.all_eq_true.1 hb i (List.mem_range.2 hi)
        simp only [Array.getElem?_eq_getElem hi] at h1
        have h2 := Array.all_eq_true_iff_forall_mem.1 h1 e he
        simp only [hbd, Bool.not_true, Bool.false_or, decide_eq_true_eq] at h2
        have h3 := ih e.on h2 (by omega)
        rcases Nat.lt_or_ge e.on L.size with h' | h'
        · simp [h'] at h3 ⊢; exact h3
        · exfalso
          have : i < L.size := by
            rcases Nat.lt_or_ge i L.size with h'' | h''
            · exact h''
            · simp [Array.getElem?_eq_none h''] at hL
          omega
      rw [h] at hm
      cases hm

/-- No two operations write one slot, and each writes one that there is. -/
def ownSlots (ops : Array Oper) (n : Nat) : Bool := (List.range ops.size).all fun i => match ops[i]? with
  | some o => (match o.dst with
    | some t => decide (t < n) && (List.range ops.size).all fun j => match ops[j]? with
      | some p => i == j || p.dst != some t
      | none => true
    | none => true)
  | none => true

theorem ownSlots_spec {n : Nat} (h : ownSlots ops n = true) {i : Nat} {o : Oper} (ho : ops[i]? = some o) : o.dst = none ∨ ∃ t, o.dst = some t ∧ t < n ∧ ∀ (j : Nat) p, ops[j]? = some p → p.dst = some t → i = j := by
  have hi := (Array.getElem?_eq_some_iff.1 ho).1
  have h1 := List.all_eq_true.1 h i (List.mem_range.2 hi)
  simp only [ho] at h1
  cases hd : o.dst with
  | none => exact .inl rfl
  | some t =>
    simp only [hd, Bool.and_eq_true, decide_eq_true_eq] at h1
    refine .inr ⟨t, rfl, h1.1, ?_⟩
    intro j p hp hpt
    have h2 := List.all_eq_true.1 h1.2 j (List.mem_range.2 (Array.getElem?_eq_some_iff.1 hp).1)
    simp only [hp, hpt, bne_self_eq_false, Bool.or_false, beq_iff_eq] at h2
    exact h2

/-- What holds of the slots: each operation that has run has left in its slot what S says; all other slots are as they were; the world is as I says. -/
structure Slots (ops : Array Oper) (S : Nat → Value → World → Prop) (I : Array Bool → World → Prop) (a0 : Act) (L : Array Bool) (a : Act) (w : World) : Prop where
  defers : a.defers = a0.defers
  size : a.tmps.size = a0.tmps.size
  others : ∀ t, (∀ (i : Nat) o, ops[i]? = some o → o.dst ≠ some t) → a.tmps.getD t undef = a0.tmps.getD t undef
  ran : ∀ (i : Nat) o t, ops[i]? = some o → o.dst = some t → L.getD i false = true → S i (a.tmps.getD t undef) w
  world : I L w
  sized : L.size = ops.size
  own : ownSlots ops a0.tmps.size = true

theorem Slots.put {S : Nat → Value → World → Prop} {I : Array Bool → World → Prop} {a0 a : Act} {L : Array Bool} {w w' : World}
    (h : Slots ops S I a0 L a w) {i : Nat} {o : Oper} (ho : ops[i]? = some o) {v : Value} (hS : ∀ k v, L.getD k false = true → S k v w → S k v w') (hI : I (L.setIfInBounds i true) w') (hv : S i v w') :
    Slots ops S I a0 (L.setIfInBounds i true) (a.put o.dst v) w' := by
  rcases ownSlots_spec h.own ho with ht | ⟨t, ht, hlt, hone⟩
  · rw [ht]
    refine ⟨h.defers, h.size, h.others, ?_, hI, by simpa using h.sized, h.own⟩
    intro j p u hp hpu hL
    have hij : i ≠ j := by
      intro e; subst e
      rw [ho] at hp; cases hp
      rw [ht] at hpu; cases hpu
    rw [getD_set_ne false hij] at hL
    exact hS j _ hL (h.ran j p u hp hpu hL)
  rw [ht]
  refine ⟨h.defers, by simp [Act.put, h.size], ?_, ?_, hI, by simpa using h.sized, h.own⟩
  · intro u hu
    have hne : t ≠ u := fun e => hu i o ho (e ▸ ht)
    rw [← h.others u hu]
    simp [Act.put, Array.getElem?_setIfInBounds_ne hne]
  · intro j p u hp hpu hL
    by_cases hij : i = j
    · subst hij
      rw [ho] at hp
      cases hp
      rw [ht] at hpu
      cases hpu
      have : t < a.tmps.size := by rw [h.size]; exact hlt
      simpa [Act.put, this] using hv
    · have hne : t ≠ u := fun e => hij (hone j p hp (e ▸ hpu))
      rw [getD_set_ne false hij] at hL
      have := hS j _ hL (h.ran j p u hp hpu hL)
      simpa [Act.put, Array.getElem?_setIfInBounds_ne hne] using this

/-- The region as a whole. -/
theorem wp_region_slots {id : Nat} {a0 : Act} {w0 : World} (S : Nat → Value → World → Prop) (I : Array Bool → World → Prop) (hm : P.follows .mixedOrders = true) (hb : waitsBack .any ops = true) (hs : ownSlots ops a0.tmps.size = true)
    (hI : I (Array.replicate ops.size false) w0.drew)
    (hstep : ∀ L a w i o, Slots ops S I a0 L a w → ops[i]? = some o → L.getD i false = false → (∀ e ∈ o.after, Region.binds .any e = true → L.getD e.on false = true) →
      wpOp P ops Q i (Slots ops S I a0 (L.setIfInBounds i true)) a w)
    (hend : ∀ L a w, (∀ i, i < ops.size → L.getD i false = true) → a.defers = a0.defers → a.tmps.size = a0.tmps.size → I L w → (∀ t, (∀ (i : Nat) o, ops[i]? = some o → o.dst ≠ some t) → a.tmps.getD t undef = a0.tmps.getD t undef) →
      (∀ (i : Nat) o t, ops[i]? = some o → o.dst = some t → S i (a.tmps.getD t undef) w) → Q .normal a w) :
    (Code.region id ops true).wp P Q a0 w0 := by
  refine wp_region_any hm (wpAny_inv (Good := fun L a w => Slots ops S I a0 L a w) ?_ ?_ _ _ _ _ ?_ ?_)
  · intro L a w i hg hi
    obtain ⟨h0, o, ho, hall⟩ := mem_ready.1 hi
    exact hstep L a w i o hg ho (by
      have := hg.sized
      have hlt := (Array.getElem?_eq_some_iff.1 ho).1
      have h0' : L.getD i false = false := by
        simp at h0 ⊢
        rw [show L[i]? = some L[i] from Array.getElem?_eq_getElem (by omega)] at h0 ⊢
        simpa using h0
      exact h0') hall
  · intro L a w hg hr
    have hz := hg.sized
    refine hend L a w (fun i hi => by
      have := all_run hb hr i hi
      have hz' : i < L.size := by omega
      simp [hz'] at this ⊢
      exact this) hg.defers hg.size hg.world hg.others ?_
    intro i o t ho ht
    refine hg.ran i o t ho ht ?_
    have hi := (Array.getElem?_eq_some_iff.1 ho).1
    have := all_run hb hr i hi
    have hz' : i < L.size := by omega
    simp [hz'] at this ⊢
    exact this
  · unfold toRun
    exact Nat.le_trans (List.length_filter_le _ _) (by simp)
  · refine ⟨rfl, rfl, fun _ _ => rfl, ?_, hI, by simp, hs⟩
    intro i o t ho ht hL
    have hi := (Array.getElem?_eq_some_iff.1 ho).1
    simp [hi] at hL

/-- Not written by any operation. -/
def unwritten (ops : Array Oper) (t : Tmp) : Bool := ops.all fun o => o.dst != some t
theorem unwritten_spec {t : Tmp} (h : unwritten ops t = true) (i : Nat) (o : Oper) (ho : ops[i]? = some o) : o.dst ≠ some t := by
  have := Array.all_eq_true_iff_forall_mem.1 h o (Array.mem_of_getElem? ho)
  simpa using this
theorem Slots.still {S : Nat → Value → World → Prop} {I : Array Bool → World → Prop} {a0 a : Act} {L : Array Bool} {w : World} (h : Slots ops S I a0 L a w) (t : Tmp) (ht : unwritten ops t = true) : a.tmps.getD t undef = a0.tmps.getD t undef :=
  h.others t (unwritten_spec ht)

/-- An operation that gives a value and leaves the world as it was. -/
theorem Slots.val {S : Nat → Value → World → Prop} {I : Array Bool → World → Prop} {a0 a : Act} {L : Array Bool} {w : World}
    (h : Slots ops S I a0 L a w) {i : Nat} {o : Oper} (ho : ops[i]? = some o) (hg : o.guard = none) {v : Value} (hrun : (execOp a.eval o).run P w = .ok (.value v) w) (hI : I (L.setIfInBounds i true) w) (hv : S i v w) :
    wpOp P ops Q i (Slots ops S I a0 (L.setIfInBounds i true)) a w := by
  unfold wpOp
  simp only [ho, Region.wanted, hg, if_true, Oper.wp, hrun, Oper.upon]
  exact .inl (h.put ho (fun _ _ _ h => h) hI hv)

/-- An operation that gives a value and makes memory. -/
theorem Slots.mem {S : Nat → Value → World → Prop} {I : Array Bool → World → Prop} {a0 a : Act} {L : Array Bool} {w w' : World}
    (h : Slots ops S I a0 L a w) {i : Nat} {o : Oper} (ho : ops[i]? = some o) (hg : o.guard = none) {v : Value} (hrun : (execOp a.eval o).run P w = .ok (.value v) w')
    (hS : ∀ k v, L.getD k false = true → S k v w → S k v w') (hI : I (L.setIfInBounds i true) w') (hv : S i v w') : wpOp P ops Q i (Slots ops S I a0 (L.setIfInBounds i true)) a w := by
  unfold wpOp
  simp only [ho, Region.wanted, hg, if_true, Oper.wp, hrun, Oper.upon]
  exact .inl (h.put ho hS hI hv)

/-- An operation that gives no value. -/
theorem Slots.skip {S : Nat → Value → World → Prop} {I : Array Bool → World → Prop} {a0 a : Act} {L : Array Bool} {w w' : World}
    (h : Slots ops S I a0 L a w) {i : Nat} {o : Oper} (ho : ops[i]? = some o) (hg : o.guard = none) (hrun : (execOp a.eval o).run P w = .ok .skip w')
    (hS : ∀ k v, L.getD k false = true → S k v w → S k v w') (hI : I (L.setIfInBounds i true) w') (hv : S i undef w') : wpOp P ops Q i (Slots ops S I a0 (L.setIfInBounds i true)) a w := by
  unfold wpOp
  simp only [ho, Region.wanted, hg, if_true, Oper.wp, hrun, Oper.upon]
  exact .inl (h.put ho hS hI hv)

/-- A call that returns. -/
theorem Slots.call {S : Nat → Value → World → Prop} {I : Array Bool → World → Prop} {a0 a : Act} {L : Array Bool} {w : World}
    (h : Slots ops S I a0 L a w) {i : Nat} {o : Oper} (ho : ops[i]? = some o) (hg : o.guard = none) {f : FuncId} {args : Array Value} (hrun : (execOp a.eval o).run P w = .ok (.enter f args) w)
    (hc : Calls P f args w fun e w' => ∃ v, e = .returned v ∧ (∀ k u, L.getD k false = true → S k u w → S k u w') ∧ I (L.setIfInBounds i true) w' ∧ S i v w') : wpOp P ops Q i (Slots ops S I a0 (L.setIfInBounds i true)) a w := by
  unfold wpOp
  simp only [ho, Region.wanted, hg, if_true, Oper.wp, hrun, Oper.upon]
  refine .inl (hc.mono ?_)
  rintro e w' ⟨v, rfl, hS, hI, hv⟩
  exact h.put ho hS hI hv

/-- The slots behind a region: as they were, but for those that it has written. -/
theorem tmps_eq {a a0 : Act} (ts : List Nat) (hts : ops.toList.filterMap (·.dst) = ts) (hsz : a.tmps.size = a0.tmps.size) (h : ∀ t, (∀ (i : Nat) o, ops[i]? = some o → o.dst ≠ some t) → a.tmps.getD t undef = a0.tmps.getD t undef) :
    a.tmps = ts.foldl (fun acc i => acc.setIfInBounds i (a.tmps.getD i undef)) a0.tmps := by
  have key : ∀ (ts : List Nat) (acc : Array Value), acc.size = a.tmps.size → (ts.foldl (fun acc i => acc.setIfInBounds i (a.tmps.getD i undef)) acc).size = a.tmps.size ∧
      ∀ i, i < a.tmps.size → (ts.foldl (fun acc i => acc.setIfInBounds i (a.tmps.getD i undef)) acc).getD i undef = if i ∈ ts then a.tmps.getD i undef else acc.getD i undef := by
    intro ts
    induction ts with
    | nil => intro acc hz; exact ⟨hz, fun i _ => by simp⟩
    | cons x r ih =>
      intro acc hz
      rw [List.foldl_cons]
      obtain ⟨h1, h2⟩ := ih (acc.setIfInBounds x (a.tmps.getD x undef)) (by simpa using hz)
      refine ⟨h1, fun i hi => ?_⟩
      rw [h2 i hi]
      by_cases hr : i ∈ r
      · rw [if_pos hr, if_pos (List.mem_cons_of_mem _ hr)]
      · rw [if_neg hr]
        by_cases hx : i = x
        · subst hx
          rw [if_pos (by simp)]
          have hia : i < acc.size := by omega
          simp [hia]
        · rw [if_neg (by simp [hx, hr])]
          rw [Array.getD_eq_getD_getElem?, Array.getElem?_setIfInBounds_ne (Ne.symm hx), ← Array.getD_eq_getD_getElem?]
  obtain ⟨h1, h2⟩ := key ts a0.tmps hsz.symm
  generalize ts.foldl (fun acc i => acc.setIfInBounds i (a.tmps.getD i undef)) a0.tmps = F at h1 h2 ⊢
  have hget : ∀ (t : Array Value) (i : Nat) (hi : i < t.size), t.getD i undef = t[i] := fun t i hi => by simp [hi]
  apply Array.ext
  · exact h1.symm
  · intro i hi hi'
    rw [← hget _ i hi, ← hget _ i hi', h2 i hi]
    by_cases hn : i ∈ ts
    · rw [if_pos hn]
    · rw [if_neg hn]
      refine h i fun j o ho e => hn ?_
      rw [← hts]
      refine List.mem_filterMap.2 ⟨o, ?_, e⟩
      rw [← Array.getElem?_toList] at ho
      exact List.mem_of_getElem? ho

/-- One after the other. -/
def Each (F : Nat → Oper → Prop) : Nat → List Oper → Prop
  | _, [] => True
  | n, o :: l => F n o ∧ Each F (n + 1) l
theorem each_spec {F : Nat → Oper → Prop} : ∀ (l : List Oper) (n : Nat), Each F n l → ∀ (i : Nat) o, l[i]? = some o → F (n + i) o
  | [], _, _, i, o, h => by simp at h
  | x :: l, n, ⟨h0, h1⟩, 0, o, h => by simp at h; subst h; exact h0
  | x :: l, n, ⟨h0, h1⟩, i + 1, o, h => by
    have := each_spec l (n + 1) h1 i o (by simpa using h)
    rwa [show n + 1 + i = n + (i + 1) from by omega] at this
theorem each_array {F : Nat → Oper → Prop} {l : List Oper} (h : Each F 0 l) (i : Nat) (o : Oper) (ho : l.toArray[i]? = some o) : F i o := by
  have := each_spec l 0 h i o (by simpa using ho)
  rwa [Nat.zero_add] at this

end
end Go.Proofs.YtbagmmncjmbboaaGreat
