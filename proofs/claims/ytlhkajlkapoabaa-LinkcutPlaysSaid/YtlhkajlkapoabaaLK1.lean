/-
  Splay trees with lazy turns in plain words: what settling and lifting do to nodes and to a chain's order. No walk of code.
-/
import Derived.Test.YtlhkajlkapoabaaBase
namespace Go.Proofs.Ytlhkajlkapoabaa
set_option linter.unusedVariables false

/-- A splay tree; a node's flag says that what is below it is yet to change sides. -/
inductive ST
  | nil
  | node (l : ST) (a : Nat) (t : Bool) (r : ST)

namespace ST

def root : ST → Option Nat
  | nil => none
  | node _ a _ _ => some a

/-- The nodes as they hang. -/
def flat : ST → List Nat
  | nil => []
  | node l a _ r => l.flat ++ a :: r.flat

/-- The chain's order. -/
def list : ST → List Nat
  | nil => []
  | node l a t r => if t then (l.list ++ a :: r.list).reverse else l.list ++ a :: r.list

/-- The same, the other way round. -/
def tog : ST → ST
  | nil => nil
  | node l a t r => node l a (!t) r

theorem root_tog (x : ST) : x.tog.root = x.root := by cases x <;> rfl

theorem flat_tog (x : ST) : x.tog.flat = x.flat := by cases x <;> rfl

theorem list_tog (x : ST) : x.tog.list = x.list.reverse := by
  cases x with
  | nil => rfl
  | node l a t r => cases t <;> simp [tog, list]

theorem perm_flat (x : ST) : x.list.Perm x.flat := by
  induction x with
  | nil => exact .refl _
  | node l a t r ihl ihr =>
    have h : (l.list ++ a :: r.list).Perm (l.flat ++ a :: r.flat) := ihl.append (ihr.cons a)
    unfold list flat
    cases t
    · exact h
    · exact (List.reverse_perm _).trans h

theorem root_mem {x : ST} {a : Nat} (h : x.root = some a) : a ∈ x.flat := by
  cases x with
  | nil => cases h
  | node l b t r =>
    injection h with h
    subst h
    simp [flat]

theorem root_none {x : ST} (h : x.root = none) : x = nil := by
  cases x with
  | nil => rfl
  | node l a t r => cases h

end ST

/-- What a node's cells say of the tree. -/
structure LN where
  up : Option Nat
  l : Option Nat
  r : Option Nat
  t : Bool

/-- How a tree lies in nodes, below what its top hangs on. -/
def LaidS (N : Nat → LN) : ST → Option Nat → Prop
  | .nil, _ => True
  | .node l a t r, u => N a = ⟨u, l.root, r.root, t⟩ ∧ LaidS N l (some a) ∧ LaidS N r (some a)

theorem laidS_far {N N' : Nat → LN} : ∀ {x : ST} {u : Option Nat}, LaidS N x u → (∀ a ∈ x.flat, N' a = N a) → LaidS N' x u
  | .nil, _, _, _ => trivial
  | .node l a t r, u, ⟨h1, h2, h3⟩, hf => ⟨(hf a (by simp [ST.flat])).trans h1, laidS_far h2 (fun b hb => hf b (by simp [ST.flat, hb])), laidS_far h3 (fun b hb => hf b (by simp [ST.flat, hb]))⟩

/-- One node says something else. -/
def upd (N : Nat → LN) (a : Nat) (x : LN) : Nat → LN := fun b => if b = a then x else N b

theorem upd_same (N : Nat → LN) (a : Nat) (x : LN) : upd N a x a = x := by unfold upd; rw [if_pos rfl]

theorem upd_ne (N : Nat → LN) {a b : Nat} (x : LN) (h : b ≠ a) : upd N a x b = N b := by unfold upd; rw [if_neg h]

/-- A child, if there is one, is turned. -/
def turnO (N : Nat → LN) : Option Nat → Nat → LN
  | none => N
  | some a => upd N a { N a with t := !(N a).t }

/-- A child, if there is one, hangs elsewhere. -/
def upO (N : Nat → LN) (u : Option Nat) : Option Nat → Nat → LN
  | none => N
  | some a => upd N a { N a with up := u }

theorem turnO_ne (N : Nat → LN) {o : Option Nat} {b : Nat} (h : o ≠ some b) : turnO N o b = N b := by
  cases o with
  | none => rfl
  | some a => exact upd_ne N _ (fun e => h (by rw [e]))

theorem upO_ne (N : Nat → LN) {u o : Option Nat} {b : Nat} (h : o ≠ some b) : upO N u o b = N b := by
  cases o with
  | none => rfl
  | some a => exact upd_ne N _ (fun e => h (by rw [e]))

theorem laid_turn {N : Nat → LN} {x : ST} {u : Option Nat} (h : LaidS N x u) (hn : x.flat.Nodup) : LaidS (turnO N x.root) x.tog u := by
  cases x with
  | nil => trivial
  | node l a t r =>
    obtain ⟨h1, h2, h3⟩ := h
    simp only [ST.flat] at hn
    obtain ⟨n1, n2, n3⟩ := List.nodup_append.1 hn
    have na : a ∉ l.flat := fun hm => n3 a hm a (by simp) rfl
    have nr : a ∉ r.flat := (List.nodup_cons.1 n2).1
    refine ⟨?_, laidS_far h2 fun b hb => ?_, laidS_far h3 fun b hb => ?_⟩
    · show upd N a _ a = _
      rw [upd_same, h1]
    · exact turnO_ne N (fun e => na (by injection e with e; rw [e]; exact hb))
    · exact turnO_ne N (fun e => nr (by injection e with e; rw [e]; exact hb))

theorem laid_up {N : Nat → LN} {x : ST} {u u' : Option Nat} (h : LaidS N x u) (hn : x.flat.Nodup) : LaidS (upO N u' x.root) x u' := by
  cases x with
  | nil => trivial
  | node l a t r =>
    obtain ⟨h1, h2, h3⟩ := h
    simp only [ST.flat] at hn
    obtain ⟨n1, n2, n3⟩ := List.nodup_append.1 hn
    have na : a ∉ l.flat := fun hm => n3 a hm a (by simp) rfl
    have nr : a ∉ r.flat := (List.nodup_cons.1 n2).1
    refine ⟨?_, laidS_far h2 fun b hb => ?_, laidS_far h3 fun b hb => ?_⟩
    · show upd N a _ a = _
      rw [upd_same, h1]
    · exact upO_ne N (fun e => na (by injection e with e; rw [e]; exact hb))
    · exact upO_ne N (fun e => nr (by injection e with e; rw [e]; exact hb))

/-- A node is settled. -/
def setN (N : Nat → LN) (a : Nat) : Nat → LN :=
  if (N a).t = true then turnO (turnO (upd N a ⟨(N a).up, (N a).r, (N a).l, false⟩) (N a).r) (N a).l else N

/-- A tree whose top is settled. -/
def ST.set : ST → ST
  | .nil => .nil
  | .node l a t r => if t then .node r.tog a false l.tog else .node l a false r

theorem ST.list_set (x : ST) : x.set.list = x.list := by
  cases x with
  | nil => rfl
  | node l a t r =>
    unfold ST.set
    cases t
    · rfl
    · simp [ST.list, ST.list_tog]

theorem ST.root_set (x : ST) : x.set.root = x.root := by
  cases x with
  | nil => rfl
  | node l a t r => unfold ST.set; cases t <;> rfl

theorem ST.set_node (l : ST) (a : Nat) (t : Bool) (r : ST) : ∃ l' r', (ST.node l a t r).set = .node l' a false r' ∧ (l'.flat = l.flat ∧ r'.flat = r.flat ∨ l'.flat = r.flat ∧ r'.flat = l.flat) := by
  unfold ST.set
  cases t
  · exact ⟨l, r, rfl, .inl ⟨rfl, rfl⟩⟩
  · exact ⟨r.tog, l.tog, rfl, .inr ⟨ST.flat_tog _, ST.flat_tog _⟩⟩

theorem ST.perm_set (x : ST) : x.set.flat.Perm x.flat := by
  cases x with
  | nil => exact .refl _
  | node l a t r =>
    unfold ST.set
    cases t
    · exact .refl _
    · show (r.tog.flat ++ a :: l.tog.flat).Perm (l.flat ++ a :: r.flat)
      rw [ST.flat_tog, ST.flat_tog]
      exact (List.perm_middle.trans (List.Perm.cons a List.perm_append_comm)).trans List.perm_middle.symm

theorem parts {l r : ST} {a : Nat} (hn : (l.flat ++ a :: r.flat).Nodup) : l.flat.Nodup ∧ r.flat.Nodup ∧ a ∉ l.flat ∧ a ∉ r.flat ∧ ∀ b ∈ l.flat, b ∉ r.flat := by
  obtain ⟨n1, n2, n3⟩ := List.nodup_append.1 hn
  obtain ⟨n4, n5⟩ := List.nodup_cons.1 n2
  exact ⟨n1, n5, fun hm => n3 a hm a (by simp) rfl, n4, fun b h1 h2 => n3 b h1 b (by simp [h2]) rfl⟩

theorem ne_root {x : ST} {b : Nat} (h : b ∉ x.flat) : x.root ≠ some b := fun e => h (ST.root_mem e)

/-- Settling a tree's top. -/
theorem laid_set {N : Nat → LN} {l r : ST} {a : Nat} {t : Bool} {u : Option Nat} (h : LaidS N (.node l a t r) u) (hn : (l.flat ++ a :: r.flat).Nodup) : LaidS (setN N a) (ST.node l a t r).set u := by
  obtain ⟨h1, h2, h3⟩ := h
  obtain ⟨nl, nr, al, ar, lr⟩ := parts hn
  unfold setN ST.set
  rw [h1]
  cases t
  · exact ⟨h1, h2, h3⟩
  · simp only [if_true]
    refine ⟨?_, ?_, ?_⟩
    · rw [turnO_ne _ (ne_root al), turnO_ne _ (ne_root ar), upd_same, ST.root_tog, ST.root_tog]
    · -- the right one comes to the left
      have k1 : LaidS (upd N a ⟨u, r.root, l.root, false⟩) r (some a) := laidS_far h3 fun b hb => upd_ne _ _ (fun e => ar (e ▸ hb))
      have k2 := laid_turn k1 nr
      refine laidS_far k2 fun b hb => turnO_ne _ ?_
      rw [ST.flat_tog] at hb
      exact ne_root fun hm => lr b hm hb
    · have k1 : LaidS (turnO (upd N a ⟨u, r.root, l.root, false⟩) r.root) l (some a) := laidS_far h2 fun b hb => by
        rw [turnO_ne _ (ne_root (lr b hb))]
        exact upd_ne N _ (fun e => al (e ▸ hb))
      exact laid_turn k1 nl

theorem setN_far {N : Nat → LN} {l r : ST} {a b : Nat} {t : Bool} {u : Option Nat} (h : LaidS N (.node l a t r) u) (hb : b ∉ l.flat ++ a :: r.flat) : setN N a b = N b := by
  obtain ⟨h1, -, -⟩ := h
  unfold setN
  rw [h1]
  cases t
  · rfl
  · simp only [if_true]
    simp only [List.mem_append, List.mem_cons, not_or] at hb
    rw [turnO_ne _ (ne_root hb.1), turnO_ne _ (ne_root hb.2.2), upd_ne _ _ hb.2.1]

/-! ### Lifting -/

/-- A node is lifted above p, where both are settled; 'rt': it hangs on p's right side. The node that p hangs on is told apart. -/
def liftN (N : Nat → LN) (n p : Nat) (rt : Bool) : Nat → LN :=
  let inner := if rt then (N n).l else (N n).r
  let N1 := upO N (some p) inner
  let N2 := upd N1 p (if rt then ⟨some n, (N1 p).l, inner, (N1 p).t⟩ else ⟨some n, inner, (N1 p).r, (N1 p).t⟩)
  upd N2 n (if rt then ⟨(N p).up, some p, (N2 n).r, (N2 n).t⟩ else ⟨(N p).up, (N2 n).l, some p, (N2 n).t⟩)

theorem lift_left {N : Nat → LN} {A B s : ST} {n p : Nat} {u : Option Nat} (h : LaidS N (.node (.node A n false B) p false s) u) (hn : (ST.node (.node A n false B) p false s).flat.Nodup) : LaidS (liftN N n p false) (.node A n false (.node B p false s)) u := by
  obtain ⟨h1, ⟨h2, h3, h4⟩, h5⟩ := h
  simp only [ST.flat] at hn
  obtain ⟨nl, ns, pl, ps, lr⟩ := parts (l := .node A n false B) (r := s) hn
  obtain ⟨nA, nB, nAn, nBn, AB⟩ := parts (l := A) (r := B) nl
  simp only [ST.flat, List.mem_append, List.mem_cons, not_or] at pl lr
  have hnp : n ≠ p := fun e => pl.2.1 e.symm
  have nins : n ∉ s.flat := lr n (.inr (.inl rfl))
  unfold liftN
  simp only [h2, h1, Bool.false_eq_true, if_false]
  have e1 : upO N (some p) B.root p = N p := upO_ne N (ne_root pl.2.2)
  have e2 : upO N (some p) B.root n = N n := upO_ne N (ne_root nBn)
  refine ⟨?_, ?_, ?_, ?_, ?_⟩
  · rw [upd_same, upd_ne _ _ hnp, e2, h2]
    rfl
  · refine laidS_far h3 fun b hb => ?_
    have b1 : b ≠ n := fun e => nAn (e ▸ hb)
    have b2 : b ≠ p := fun e => pl.1 (e ▸ hb)
    rw [upd_ne _ _ b1, upd_ne _ _ b2, upO_ne N (ne_root (AB b hb))]
  · rw [upd_ne _ _ (Ne.symm hnp), upd_same, e1, h1]
  · have k := laid_up (u' := some p) h4 nB
    refine laidS_far k fun b hb => ?_
    have b1 : b ≠ n := fun e => nBn (e ▸ hb)
    have b2 : b ≠ p := fun e => pl.2.2 (e ▸ hb)
    rw [upd_ne _ _ b1, upd_ne _ _ b2]
  · refine laidS_far h5 fun b hb => ?_
    have b1 : b ≠ n := fun e => nins (e ▸ hb)
    have b2 : b ≠ p := fun e => ps (e ▸ hb)
    have b3 : b ∉ B.flat := fun hm => lr b (.inr (.inr hm)) hb
    rw [upd_ne _ _ b1, upd_ne _ _ b2, upO_ne N (ne_root b3)]

theorem lift_right {N : Nat → LN} {A B s : ST} {n p : Nat} {u : Option Nat} (h : LaidS N (.node s p false (.node A n false B)) u) (hn : (ST.node s p false (.node A n false B)).flat.Nodup) : LaidS (liftN N n p true) (.node (.node s p false A) n false B) u := by
  obtain ⟨h1, h5, ⟨h2, h3, h4⟩⟩ := h
  simp only [ST.flat] at hn
  obtain ⟨ns, nl, ps, pl, lr⟩ := parts (l := s) (r := .node A n false B) hn
  obtain ⟨nA, nB, nAn, nBn, AB⟩ := parts (l := A) (r := B) nl
  simp only [ST.flat, List.mem_append, List.mem_cons, not_or] at pl lr
  have hnp : n ≠ p := fun e => pl.2.1 e.symm
  have nins : n ∉ s.flat := fun hm => (lr n hm).2.1 rfl
  unfold liftN
  simp only [h2, h1, if_true]
  have e1 : upO N (some p) A.root p = N p := upO_ne N (ne_root pl.1)
  have e2 : upO N (some p) A.root n = N n := upO_ne N (ne_root nAn)
  refine ⟨?_, ⟨?_, ?_, ?_⟩, ?_⟩
  · rw [upd_same, upd_ne _ _ hnp, e2, h2]
    rfl
  · rw [upd_ne _ _ (Ne.symm hnp), upd_same, e1, h1]
  · refine laidS_far h5 fun b hb => ?_
    have b1 : b ≠ n := fun e => nins (e ▸ hb)
    have b2 : b ≠ p := fun e => ps (e ▸ hb)
    have b3 : b ∉ A.flat := (lr b hb).1
    rw [upd_ne _ _ b1, upd_ne _ _ b2, upO_ne N (ne_root b3)]
  · have k := laid_up (u' := some p) h3 nA
    refine laidS_far k fun b hb => ?_
    have b1 : b ≠ n := fun e => nAn (e ▸ hb)
    have b2 : b ≠ p := fun e => pl.1 (e ▸ hb)
    rw [upd_ne _ _ b1, upd_ne _ _ b2]
  · refine laidS_far h4 fun b hb => ?_
    have b1 : b ≠ n := fun e => nBn (e ▸ hb)
    have b2 : b ≠ p := fun e => pl.2.2 (e ▸ hb)
    rw [upd_ne _ _ b1, upd_ne _ _ b2, upO_ne N (ne_root (fun hm => AB b hm hb))]

theorem lift_left_list (A B s : ST) (n p : Nat) : (ST.node A n false (.node B p false s)).list = (ST.node (.node A n false B) p false s).list := by simp [ST.list]

theorem lift_right_list (A B s : ST) (n p : Nat) : (ST.node (.node s p false A) n false B).list = (ST.node s p false (.node A n false B)).list := by simp [ST.list]

theorem lift_left_flat (A B s : ST) (n p : Nat) : (ST.node A n false (.node B p false s)).flat = (ST.node (.node A n false B) p false s).flat := by simp [ST.flat]

theorem lift_right_flat (A B s : ST) (n p : Nat) : (ST.node (.node s p false A) n false B).flat = (ST.node s p false (.node A n false B)).flat := by simp [ST.flat]

end Go.Proofs.Ytlhkajlkapoabaa
