/-
  Plain words for layer 15: trees of numbered nodes, what stands around a node, what the rope's small steps do to nodes. No walk.
-/
import Derived.Test.YtlakcldgolpaiaaBase
namespace Go.Proofs.Ytlakcldgolpaiaa
set_option linter.unusedVariables false

/-- What nodes bear. -/
class Bear (V : Type) where
  plus : V → V → V
  assoc : ∀ x y z, plus (plus x y) z = plus x (plus y z)
  void : V

section

variable {V : Type} [Bear V]

/-- What a row bears. -/
def bears (own : Nat → V) : List Nat → V
  | [] => Bear.void
  | [a] => own a
  | a :: b :: r => Bear.plus (own a) (bears own (b :: r))

theorem bears_cons (own : Nat → V) (a : Nat) (r : List Nat) (h : r ≠ []) : bears own (a :: r) = Bear.plus (own a) (bears own r) := by
  cases r with
  | nil => exact absurd rfl h
  | cons b r => rfl

theorem bears_append (own : Nat → V) : ∀ (xs ys : List Nat), xs ≠ [] → ys ≠ [] → bears own (xs ++ ys) = Bear.plus (bears own xs) (bears own ys)
  | [], _, h, _ => absurd rfl h
  | [a], ys, _, h => by rw [List.singleton_append, bears_cons own a ys h]; rfl
  | a :: b :: r, ys, _, h => by
    rw [List.cons_append, bears_cons own a ((b :: r) ++ ys) (by simp), bears_append own (b :: r) ys (by simp) h, bears_cons own a (b :: r) (by simp), Bear.assoc]

theorem bears_congr {own own' : Nat → V} : ∀ (xs : List Nat), (∀ a ∈ xs, own a = own' a) → bears own xs = bears own' xs
  | [], _ => rfl
  | [a], h => h a (by simp)
  | a :: b :: r, h => by
    rw [bears_cons own a (b :: r) (by simp), bears_cons own' a (b :: r) (by simp), h a (by simp), bears_congr (b :: r) (fun c hc => h c (List.mem_cons_of_mem _ hc))]

end

/-- A tree of nodes. -/
inductive Tr where
  | nil
  | node (l : Tr) (a : Nat) (r : Tr)

def Tr.root : Tr → Nat
  | .nil => 0
  | .node _ a _ => a

def Tr.list : Tr → List Nat
  | .nil => []
  | .node l a r => l.list ++ a :: r.list

theorem Tr.root_mem {t : Tr} (h : t ≠ .nil) : t.root ∈ t.list := by
  cases t with
  | nil => exact absurd rfl h
  | node l a r => simp [Tr.root, Tr.list]

theorem Tr.root_zero {t : Tr} (hp : ∀ i ∈ t.list, 0 < i) : t.root = 0 ↔ t = .nil := by
  cases t with
  | nil => simp [Tr.root]
  | node l a r =>
    have := hp a (by simp [Tr.list])
    simp [Tr.root]; omega

theorem Tr.list_nil {t : Tr} : t.list = [] ↔ t = .nil := by
  cases t with
  | nil => simp [Tr.list]
  | node l a r => simp [Tr.list]

/-- A node. -/
structure Nd (V : Type) where
  own : V
  sum : V
  size : Nat
  rank : Nat
  up : Nat
  left : Nat
  right : Nat

abbrev Nodes (V : Type) := Nat → Nd V

def upd {V : Type} (N : Nodes V) (a : Nat) (x : Nd V) : Nodes V := fun i => if i = a then x else N i

theorem upd_self {V : Type} (N : Nodes V) (a : Nat) (x : Nd V) : upd N a x a = x := by simp [upd]

theorem upd_ne {V : Type} (N : Nodes V) {a i : Nat} (x : Nd V) (h : i ≠ a) : upd N a x i = N i := by simp [upd, h]

/-- What may turn at a node that hangs below another one: its up. -/
def SameB {V : Type} (N N' : Nodes V) (i : Nat) : Prop := (N' i).own = (N i).own ∧ (N' i).sum = (N i).sum ∧ (N' i).size = (N i).size ∧ (N' i).rank = (N i).rank ∧ (N' i).left = (N i).left ∧ (N' i).right = (N i).right

theorem SameB.of_eq {V : Type} {N N' : Nodes V} {i : Nat} (h : N' i = N i) : SameB N N' i := by unfold SameB; rw [h]; simp

section

variable {V : Type} [Bear V]

/-- The two trees hang below a; both are right. -/
def Half (Laid : Tr → Prop) (N : Nodes V) (l : Tr) (a : Nat) (r : Tr) : Prop :=
  (N a).left = l.root ∧ (N a).right = r.root ∧ (l ≠ .nil → (N l.root).up = a) ∧ (r ≠ .nil → (N r.root).up = a) ∧ Laid l ∧ Laid r

/-- The tree lies in the nodes. -/
def Laid (N : Nodes V) : Tr → Prop
  | .nil => True
  | .node l a r => (N a).left = l.root ∧ (N a).right = r.root ∧ (l ≠ .nil → (N l.root).up = a) ∧ (r ≠ .nil → (N r.root).up = a) ∧ Laid N l ∧ Laid N r ∧
      (N a).size = (l.list ++ a :: r.list).length ∧ (N a).sum = bears (fun i => (N i).own) (l.list ++ a :: r.list)

theorem laid_node {N : Nodes V} {l r : Tr} {a : Nat} : Laid N (.node l a r) ↔ Half (Laid N) N l a r ∧ (N a).size = (l.list ++ a :: r.list).length ∧ (N a).sum = bears (fun i => (N i).own) (l.list ++ a :: r.list) := by
  unfold Half
  constructor
  · rintro ⟨h1, h2, h3, h4, h5, h6, h7, h8⟩; exact ⟨⟨h1, h2, h3, h4, h5, h6⟩, h7, h8⟩
  · rintro ⟨⟨h1, h2, h3, h4, h5, h6⟩, h7, h8⟩; exact ⟨h1, h2, h3, h4, h5, h6, h7, h8⟩

theorem Laid.size {N : Nodes V} {t : Tr} (h : Laid N t) (hn : t ≠ .nil) : (N t.root).size = t.list.length := by
  cases t with
  | nil => exact absurd rfl hn
  | node l a r => exact h.2.2.2.2.2.2.1

theorem Laid.sum {N : Nodes V} {t : Tr} (h : Laid N t) (hn : t ≠ .nil) : (N t.root).sum = bears (fun i => (N i).own) t.list := by
  cases t with
  | nil => exact absurd rfl hn
  | node l a r => exact h.2.2.2.2.2.2.2

/-- A tree stays where its nodes do, but for the up of its root. -/
theorem Laid.agree {N N' : Nodes V} : ∀ {t : Tr}, Laid N t → (∀ i ∈ t.list, SameB N N' i) → (∀ i ∈ t.list, i ≠ t.root → (N' i).up = (N i).up) → t.list.Nodup → Laid N' t
  | .nil, _, _, _, _ => trivial
  | .node l a r, h, h1, h2, hd => by
    obtain ⟨g1, g2, g3, g4, g5, g6, g7, g8⟩ := h
    have hl : ∀ i ∈ l.list, i ∈ (Tr.node l a r).list := fun i hi => by simp [Tr.list, hi]
    have hr : ∀ i ∈ r.list, i ∈ (Tr.node l a r).list := fun i hi => by simp [Tr.list, hi]
    have ha := h1 a (by simp [Tr.list])
    have hd' : (l.list ++ a :: r.list).Nodup := hd
    have hd2 := List.nodup_append.1 hd'
    have hnl : ∀ i ∈ l.list, i ≠ a := fun i hi => hd2.2.2 i hi a (by simp)
    have hnr : ∀ i ∈ r.list, i ≠ a := fun i hi e => (List.nodup_cons.1 hd2.2.1).1 (e ▸ hi)
    refine ⟨ha.2.2.2.2.1.trans g1, ha.2.2.2.2.2.trans g2, fun hn => ?_, fun hn => ?_, ?_, ?_, ha.2.2.1.trans g7, ?_⟩
    · rw [h2 _ (hl _ (Tr.root_mem hn)) (by exact hnl _ (Tr.root_mem hn))]; exact g3 hn
    · rw [h2 _ (hr _ (Tr.root_mem hn)) (by exact hnr _ (Tr.root_mem hn))]; exact g4 hn
    · exact g5.agree (fun i hi => h1 i (hl i hi)) (fun i hi _ => h2 i (hl i hi) (by exact hnl i hi)) hd2.1
    · exact g6.agree (fun i hi => h1 i (hr i hi)) (fun i hi _ => h2 i (hr i hi) (by exact hnr i hi)) (List.nodup_cons.1 hd2.2.1).2
    · rw [ha.2.1, g8]
      exact bears_congr _ fun i hi => (h1 i hi).1.symm

theorem Laid.same {N N' : Nodes V} {t : Tr} (h : Laid N t) (h1 : ∀ i ∈ t.list, N' i = N i) (hd : t.list.Nodup) : Laid N' t :=
  h.agree (fun i hi => SameB.of_eq (h1 i hi)) (fun i hi _ => by rw [h1 i hi]) hd

/-! ### The rope's small steps -/

def tellSum (N : Nodes V) (a : Nat) : V :=
  if (N a).right = 0 then (if (N a).left = 0 then (N a).own else Bear.plus (N (N a).left).sum (N a).own)
  else Bear.plus (if (N a).left = 0 then (N a).own else Bear.plus (N (N a).left).sum (N a).own) (N (N a).right).sum

def retell (N : Nodes V) (a : Nat) : Nodes V := upd N a { N a with size := (N (N a).left).size + 1 + (N (N a).right).size, sum := tellSum N a }

def setUp (N : Nodes V) (x a : Nat) : Nodes V := if x = 0 then N else upd N x { N x with up := a }

def hangN (N : Nodes V) (a l r : Nat) : Nodes V := retell (setUp (setUp (upd N a { N a with left := l, right := r }) l a) r a) a

theorem retell_ne (N : Nodes V) {a i : Nat} (h : i ≠ a) : retell N a i = N i := upd_ne N _ h

theorem retell_own (N : Nodes V) (a i : Nat) : (retell N a i).own = (N i).own ∧ (retell N a i).rank = (N i).rank ∧ (retell N a i).up = (N i).up ∧ (retell N a i).left = (N i).left ∧ (retell N a i).right = (N i).right := by
  by_cases h : i = a
  · subst h; simp [retell, upd_self]
  · rw [retell_ne N h]; simp

omit [Bear V] in
theorem setUp_ne (N : Nodes V) {x a i : Nat} (h : i ≠ x) : setUp N x a i = N i := by
  unfold setUp; split
  · rfl
  · exact upd_ne N _ h

omit [Bear V] in
theorem setUp_same (N : Nodes V) (x a i : Nat) : SameB N (setUp N x a) i := by
  by_cases h : i = x
  · subst h
    unfold setUp
    split
    · exact SameB.of_eq rfl
    · unfold SameB; simp [upd_self]
  · exact SameB.of_eq (setUp_ne N h)

omit [Bear V] in
theorem setUp_up (N : Nodes V) {x a : Nat} (h : x ≠ 0) : (setUp N x a x).up = a := by
  unfold setUp; rw [if_neg h, upd_self]

theorem hangN_own (N : Nodes V) (a l r i : Nat) : (hangN N a l r i).own = (N i).own ∧ (hangN N a l r i).rank = (N i).rank := by
  unfold hangN
  have h1 := retell_own (setUp (setUp (upd N a { N a with left := l, right := r }) l a) r a) a i
  have h2 := setUp_same (setUp (upd N a { N a with left := l, right := r }) l a) r a i
  have h3 := setUp_same (upd N a { N a with left := l, right := r }) l a i
  have h4 : (upd N a { N a with left := l, right := r } i).own = (N i).own ∧ (upd N a { N a with left := l, right := r } i).rank = (N i).rank := by
    by_cases h : i = a
    · subst h; simp [upd_self]
    · rw [upd_ne N _ h]; simp
  exact ⟨h1.1.trans (h2.1.trans (h3.1.trans h4.1)), h1.2.1.trans (h2.2.2.2.1.trans (h3.2.2.2.1.trans h4.2))⟩

theorem hangN_ne (N : Nodes V) {a l r i : Nat} (h1 : i ≠ a) (h2 : i ≠ l) (h3 : i ≠ r) : hangN N a l r i = N i := by
  unfold hangN
  rw [retell_ne _ h1, setUp_ne _ h3, setUp_ne _ h2, upd_ne _ _ h1]

theorem hangN_up (N : Nodes V) {a l r : Nat} (h2 : a ≠ l) (h3 : a ≠ r) : (hangN N a l r a).up = (N a).up := by
  unfold hangN
  rw [(retell_own _ a a).2.2.1, setUp_ne _ h3, setUp_ne _ h2, upd_self]

theorem half_retell {N : Nodes V} {l r : Tr} {a : Nat} (h : Half (Laid N) N l a r) (hd : (l.list ++ a :: r.list).Nodup) (hp : ∀ i ∈ l.list ++ a :: r.list, 0 < i) (h0 : (N 0).size = 0) : Laid (retell N a) (.node l a r) := by
  obtain ⟨g1, g2, g3, g4, g5, g6⟩ := h
  have hd2 := List.nodup_append.1 hd
  have hnl : ∀ i ∈ l.list, i ≠ a := fun i hi => hd2.2.2 i hi a (by simp)
  have hnr : ∀ i ∈ r.list, i ≠ a := fun i hi e => (List.nodup_cons.1 hd2.2.1).1 (e ▸ hi)
  have hl : Laid (retell N a) l := g5.same (fun i hi => retell_ne N (hnl i hi)) hd2.1
  have hr : Laid (retell N a) r := g6.same (fun i hi => retell_ne N (hnr i hi)) (List.nodup_cons.1 hd2.2.1).2
  have hlz := Tr.root_zero (t := l) (fun i hi => hp i (by simp [hi]))
  have hrz := Tr.root_zero (t := r) (fun i hi => hp i (by simp [hi]))
  have ho := retell_own N a
  have hbl : bears (fun i => (retell N a i).own) = bears (fun i => (N i).own) := by congr; funext i; exact (ho i).1
  refine ⟨(ho a).2.2.2.1.trans g1, (ho a).2.2.2.2.trans g2, fun hn => ?_, fun hn => ?_, hl, hr, ?_, ?_⟩
  · rw [(ho _).2.2.1]; exact g3 hn
  · rw [(ho _).2.2.1]; exact g4 hn
  · unfold retell
    rw [upd_self]
    dsimp only
    rw [g1, g2]
    have e1 : (N l.root).size = l.list.length := by
      by_cases hn : l = .nil
      · subst hn; exact h0
      · exact g5.size hn
    have e2 : (N r.root).size = r.list.length := by
      by_cases hn : r = .nil
      · subst hn; exact h0
      · exact g6.size hn
    rw [e1, e2, List.length_append, List.length_cons]
    omega
  · rw [hbl]
    unfold retell
    rw [upd_self]
    dsimp only
    unfold tellSum
    rw [g1, g2]
    have hone : bears (fun i => (N i).own) [a] = (N a).own := rfl
    by_cases hln : l = .nil
    · subst hln
      by_cases hrn : r = .nil
      · subst hrn; simp [Tr.root, Tr.list, bears]
      · rw [if_neg (fun e => hrn (hrz.1 e)), if_pos (show Tr.nil.root = 0 from rfl), g6.sum hrn]
        rw [show Tr.nil.list ++ a :: r.list = a :: r.list from rfl, bears_cons _ a r.list (fun e => hrn (Tr.list_nil.1 e))]
    · have hll : l.list ≠ [] := fun e => hln (Tr.list_nil.1 e)
      rw [if_neg (fun e => hln (hlz.1 e)), g5.sum hln]
      by_cases hrn : r = .nil
      · subst hrn
        rw [if_pos (show Tr.nil.root = 0 from rfl), show l.list ++ a :: Tr.nil.list = l.list ++ [a] from rfl, bears_append _ _ _ hll (by simp), hone]
      · have hrl : r.list ≠ [] := fun e => hrn (Tr.list_nil.1 e)
        rw [if_neg (fun e => hrn (hrz.1 e)), g6.sum hrn, bears_append _ _ _ hll (by simp), bears_cons _ a r.list hrl, Bear.assoc]

theorem half_hang {N : Nodes V} {l r : Tr} {a : Nat} (hl : Laid N l) (hr : Laid N r) (hd : (l.list ++ a :: r.list).Nodup) (hp : ∀ i ∈ l.list ++ a :: r.list, 0 < i) :
    Half (Laid (setUp (setUp (upd N a { N a with left := l.root, right := r.root }) l.root a) r.root a)) (setUp (setUp (upd N a { N a with left := l.root, right := r.root }) l.root a) r.root a) l a r := by
  have hd2 := List.nodup_append.1 hd
  have hnl : ∀ i ∈ l.list, i ≠ a := fun i hi => hd2.2.2 i hi a (by simp)
  have hnr : ∀ i ∈ r.list, i ≠ a := fun i hi e => (List.nodup_cons.1 hd2.2.1).1 (e ▸ hi)
  have hlr : ∀ i ∈ l.list, ∀ j ∈ r.list, i ≠ j := fun i hi j hj => hd2.2.2 i hi j (by simp [hj])
  have hp0 := hp a (by simp)
  have hal : a ≠ l.root := by
    by_cases hn : l = .nil
    · subst hn; simp [Tr.root]; omega
    · exact fun e => hnl _ (Tr.root_mem hn) e.symm
  have har : a ≠ r.root := by
    by_cases hn : r = .nil
    · subst hn; simp [Tr.root]; omega
    · exact fun e => hnr _ (Tr.root_mem hn) e.symm
  have hlz := Tr.root_zero (t := l) (fun i hi => hp i (by simp [hi]))
  have hrz := Tr.root_zero (t := r) (fun i hi => hp i (by simp [hi]))
  have sb : ∀ i, i ≠ a → SameB N (setUp (setUp (upd N a { N a with left := l.root, right := r.root }) l.root a) r.root a) i := by
    intro i hi
    have h2 := setUp_same (setUp (upd N a { N a with left := l.root, right := r.root }) l.root a) r.root a i
    have h3 := setUp_same (upd N a { N a with left := l.root, right := r.root }) l.root a i
    rw [SameB] at h2 h3
    rw [upd_ne N _ hi] at h3
    exact ⟨h2.1.trans h3.1, h2.2.1.trans h3.2.1, h2.2.2.1.trans h3.2.2.1, h2.2.2.2.1.trans h3.2.2.2.1, h2.2.2.2.2.1.trans h3.2.2.2.2.1, h2.2.2.2.2.2.trans h3.2.2.2.2.2⟩
  have su : ∀ i, i ≠ a → i ≠ l.root → i ≠ r.root → setUp (setUp (upd N a { N a with left := l.root, right := r.root }) l.root a) r.root a i = N i := by
    intro i h1 h2 h3
    rw [setUp_ne _ h3, setUp_ne _ h2, upd_ne _ _ h1]
  refine ⟨?_, ?_, fun hn => ?_, fun hn => ?_, ?_, ?_⟩
  · rw [setUp_ne _ har, setUp_ne _ hal, upd_self]
  · rw [setUp_ne _ har, setUp_ne _ hal, upd_self]
  · have : l.root ≠ r.root := by
      by_cases hn2 : r = .nil
      · subst hn2; exact fun e => hn (hlz.1 e)
      · exact hlr _ (Tr.root_mem hn) _ (Tr.root_mem hn2)
    rw [setUp_ne _ this, setUp_up _ (fun e => hn (hlz.1 e))]
  · exact setUp_up _ (fun e => hn (hrz.1 e))
  · refine hl.agree (fun i hi => sb i (hnl i hi)) (fun i hi hir => ?_) hd2.1
    rw [su i (hnl i hi) hir]
    by_cases hn2 : r = .nil
    · subst hn2; have := hp i (by simp [hi]); simp [Tr.root]; omega
    · exact hlr i hi _ (Tr.root_mem hn2)
  · refine hr.agree (fun i hi => sb i (hnr i hi)) (fun i hi hir => ?_) (List.nodup_cons.1 hd2.2.1).2
    rw [su i (hnr i hi) ?_ hir]
    by_cases hn2 : l = .nil
    · subst hn2; have := hp i (by simp [hi]); simp [Tr.root]; omega
    · exact fun e => hlr _ (Tr.root_mem hn2) i hi e.symm

theorem laid_hang {N : Nodes V} {l r : Tr} {a : Nat} (hl : Laid N l) (hr : Laid N r) (hd : (l.list ++ a :: r.list).Nodup) (hp : ∀ i ∈ l.list ++ a :: r.list, 0 < i) (h0 : (N 0).size = 0) : Laid (hangN N a l.root r.root) (.node l a r) := by
  refine half_retell (half_hang hl hr hd hp) hd hp ?_
  have ha := hp a (by simp)
  have h2 := setUp_same (setUp (upd N a { N a with left := l.root, right := r.root }) l.root a) r.root a 0
  have h3 := setUp_same (upd N a { N a with left := l.root, right := r.root }) l.root a 0
  rw [h2.2.2.1, h3.2.2.1, upd_ne _ _ (by omega)]
  exact h0

theorem hangN_zero {N : Nodes V} {a l r : Nat} (ha : 0 < a) : hangN N a l r 0 = N 0 := by
  unfold hangN
  rw [retell_ne _ (by omega)]
  by_cases hr : r = 0
  · unfold setUp; rw [if_pos hr]
    by_cases hl : l = 0
    · rw [if_pos hl, upd_ne _ _ (by omega)]
    · rw [if_neg hl, upd_ne _ _ (by omega), upd_ne _ _ (by omega)]
  · rw [setUp_ne _ (by omega)]
    by_cases hl : l = 0
    · unfold setUp; rw [if_pos hl, upd_ne _ _ (by omega)]
    · rw [setUp_ne _ (by omega), upd_ne _ _ (by omega)]

end

end Go.Proofs.Ytlakcldgolpaiaa
