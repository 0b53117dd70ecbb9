/-
  Frames: a place within a splay tree, in plain words. Settling and lifting in place.
-/
import Derived.Test.YtlhkajlkapoabaaLK6
namespace Go.Proofs.Ytlhkajlkapoabaa
open Go.RowKit Go.Maps
set_option linter.unusedVariables false

/-- What a subtree hangs in: the node above it, and what hangs on the other side; d: the subtree is the right one. -/
structure Fr where
  a : Nat
  t : Bool
  d : Bool
  o : ST

def Fr.fill (f : Fr) (s : ST) : ST := if f.d then .node f.o f.a f.t s else .node s f.a f.t f.o

def fillF : List Fr → ST → ST
  | [], s => s
  | f :: F, s => fillF F (f.fill s)

def topF : List Fr → Option Nat → Option Nat
  | [], u => u
  | f :: _, _ => some f.a

def flatC : List Fr → List Nat
  | [] => []
  | f :: F => f.a :: (f.o.flat ++ flatC F)

def LaidC (N : Nat → LN) : List Fr → Option Nat → Option Nat → Prop
  | [], _, _ => True
  | f :: F, h, u => N f.a = ⟨topF F u, if f.d then f.o.root else h, if f.d then h else f.o.root, f.t⟩ ∧ LaidS N f.o (some f.a) ∧ LaidC N F (some f.a) u

theorem Fr.root_fill (f : Fr) (s : ST) : (f.fill s).root = some f.a := by
  unfold Fr.fill
  cases f.d <;> rfl

theorem laid_fill {N : Nat → LN} {u : Option Nat} : ∀ (F : List Fr) (s : ST), LaidS N (fillF F s) u ↔ LaidS N s (topF F u) ∧ LaidC N F s.root u
  | [], s => ⟨fun h => ⟨h, trivial⟩, fun h => h.1⟩
  | f :: F, s => by
    show LaidS N (fillF F (f.fill s)) u ↔ _
    rw [laid_fill F (f.fill s), Fr.root_fill]
    obtain ⟨a, t, d, o⟩ := f
    cases d
    · show (N a = ⟨topF F u, s.root, o.root, t⟩ ∧ LaidS N s (some a) ∧ LaidS N o (some a)) ∧ LaidC N F (some a) u ↔ LaidS N s (some a) ∧ N a = ⟨topF F u, s.root, o.root, t⟩ ∧ LaidS N o (some a) ∧ LaidC N F (some a) u
      exact ⟨fun ⟨⟨h1, h2, h3⟩, h4⟩ => ⟨h2, h1, h3, h4⟩, fun ⟨h2, h1, h3, h4⟩ => ⟨⟨h1, h2, h3⟩, h4⟩⟩
    · show (N a = ⟨topF F u, o.root, s.root, t⟩ ∧ LaidS N o (some a) ∧ LaidS N s (some a)) ∧ LaidC N F (some a) u ↔ LaidS N s (some a) ∧ N a = ⟨topF F u, o.root, s.root, t⟩ ∧ LaidS N o (some a) ∧ LaidC N F (some a) u
      exact ⟨fun ⟨⟨h1, h2, h3⟩, h4⟩ => ⟨h3, h1, h2, h4⟩, fun ⟨h3, h1, h2, h4⟩ => ⟨⟨h1, h2, h3⟩, h4⟩⟩

theorem Fr.perm_fill (f : Fr) (s : ST) : (f.fill s).flat.Perm (s.flat ++ f.a :: f.o.flat) := by
  unfold Fr.fill
  cases f.d
  · exact .refl _
  · show (f.o.flat ++ f.a :: s.flat).Perm (s.flat ++ f.a :: f.o.flat)
    exact (List.perm_middle.trans (List.Perm.cons _ List.perm_append_comm)).trans List.perm_middle.symm

theorem perm_fill : ∀ (F : List Fr) (s : ST), (fillF F s).flat.Perm (s.flat ++ flatC F)
  | [], s => by simp [fillF, flatC]
  | f :: F, s => by
    show (fillF F (f.fill s)).flat.Perm _
    refine (perm_fill F (f.fill s)).trans ?_
    refine ((f.perm_fill s).append_right _).trans ?_
    show ((s.flat ++ f.a :: f.o.flat) ++ flatC F).Perm (s.flat ++ f.a :: (f.o.flat ++ flatC F))
    rw [List.append_assoc]
    exact .refl _

theorem list_fill : ∀ (F : List Fr) {s s' : ST}, s.list = s'.list → (fillF F s).list = (fillF F s').list
  | [], _, _, h => h
  | f :: F, s, s', h => by
    show (fillF F (f.fill s)).list = (fillF F (f.fill s')).list
    refine list_fill F ?_
    unfold Fr.fill
    cases f.d <;> simp [ST.list, h]

theorem laidC_far {N N' : Nat → LN} {u : Option Nat} : ∀ {F : List Fr} {h : Option Nat}, LaidC N F h u → (∀ a ∈ flatC F, N' a = N a) → LaidC N' F h u
  | [], _, _, _ => trivial
  | f :: F, h, ⟨h1, h2, h3⟩, hf => ⟨(hf f.a (by simp [flatC])).trans h1, laidS_far h2 (fun b hb => hf b (by simp [flatC, hb])), laidC_far h3 (fun b hb => hf b (by simp [flatC, hb]))⟩

/-- The parts of a filled place share no node. -/
theorem fill_parts {F : List Fr} {s : ST} (hn : (fillF F s).flat.Nodup) : s.flat.Nodup ∧ (flatC F).Nodup ∧ ∀ b ∈ flatC F, b ∉ s.flat := by
  obtain ⟨n1, n2, n3⟩ := List.nodup_append.1 ((perm_fill F s).nodup_iff.1 hn)
  exact ⟨n1, n2, fun b hb hs => n3 b hs b hb rfl⟩

theorem fill_nodup {F : List Fr} {s s' : ST} (hp : s'.flat.Perm s.flat) (hn : (fillF F s).flat.Nodup) : (fillF F s').flat.Nodup := by
  have h := (perm_fill F s).nodup_iff.1 hn
  exact (perm_fill F s').nodup_iff.2 ((hp.append_right _).nodup_iff.2 h)

/-- Settling in place. -/
theorem set_in {N : Nat → LN} {F : List Fr} {l r : ST} {a : Nat} {t : Bool} {u : Option Nat} (h : LaidS N (fillF F (.node l a t r)) u) (hn : (fillF F (.node l a t r)).flat.Nodup) : LaidS (setN N a) (fillF F (ST.node l a t r).set) u := by
  obtain ⟨hs, hc⟩ := (laid_fill F _).1 h
  obtain ⟨n1, n2, n3⟩ := fill_parts hn
  refine (laid_fill F _).2 ⟨laid_set hs n1, ?_⟩
  rw [ST.root_set]
  exact laidC_far hc fun b hb => setN_far hs (n3 b hb)

theorem liftN_far {M : Nat → LN} {n p b : Nat} {rt : Bool} (h1 : b ≠ n) (h2 : b ≠ p) (h3 : (if rt then (M n).l else (M n).r) ≠ some b) : liftN M n p rt b = M b := by
  unfold liftN
  rw [upd_ne _ _ h1, upd_ne _ _ h2, upO_ne _ h3]

/-- A top that hangs on a node of another chain is none of its children. -/
def Out (M : Nat → LN) (u : Option Nat) (p : Nat) : Prop := ∀ g, u = some g → (M g).l ≠ some p ∧ (M g).r ≠ some p

theorem hang_in {M : Nat → LN} {F : List Fr} {p n : Nat} {u : Option Nat} (hc : LaidC M F (some p) u) (hu : (M p).up = topF F u) (hn : (flatC F).Nodup) (hp : p ∉ flatC F) (ho : Out M u p) :
    LaidC (hangX M p n) F (some n) u ∧ ∀ b, b ∉ flatC F → hangX M p n b = M b := by
  cases F with
  | nil =>
    have e : hangX M p n = M := by
      unfold hangX
      cases hup : (M p).up with
      | none => rfl
      | some g =>
        obtain ⟨h1, h2⟩ := ho g (by rw [← hup, hu]; rfl)
        dsimp only
        rw [if_neg h1, if_neg h2]
    rw [e]
    exact ⟨trivial, fun b _ => rfl⟩
  | cons f F =>
    obtain ⟨h1, h2, h3⟩ := hc
    obtain ⟨a, t, d, o⟩ := f
    simp only [flatC, List.nodup_cons, List.mem_append, not_or, List.mem_cons] at hn hp
    obtain ⟨⟨na, nb⟩, nc⟩ := hn
    obtain ⟨pa, po, pf⟩ := hp
    have hup : (M p).up = some a := hu
    refine ⟨?_, fun b hb => hang_ne (fun e => hb ?_)⟩
    · have key : ∀ x : LN, (∀ b, b ≠ a → hangX M p n b = M b) → LaidS (hangX M p n) o (some a) ∧ LaidC (hangX M p n) F (some a) u := fun x hx =>
        ⟨laidS_far h2 fun b hb => hx b (fun e => na (e ▸ hb)), laidC_far h3 fun b hb => hx b (fun e => nb (e ▸ hb))⟩
      have hf : ∀ b, b ≠ a → hangX M p n b = M b := fun b hb => hang_ne (fun e => hb (by rw [hup] at e; injection e with e; exact e.symm))
      refine ⟨?_, (key (M a) hf).1, (key (M a) hf).2⟩
      show hangX M p n a = _
      dsimp only at h1 ⊢
      unfold hangX
      rw [hup]
      dsimp only
      cases d
      · simp only [Bool.false_eq_true, if_false] at h1 ⊢
        rw [h1]
        dsimp only
        rw [if_pos rfl, upd_same]
      · simp only [if_true] at h1 ⊢
        rw [h1]
        dsimp only
        rw [if_neg (fun e => po (ST.root_mem e)), if_pos rfl, upd_same]
    · rw [hup] at e
      injection e with e
      subst e
      simp [flatC]

/-- Lifting in place. -/
theorem lift_in_left {M : Nat → LN} {F : List Fr} {A B s : ST} {n p : Nat} {u : Option Nat} (h : LaidS M (fillF F (.node (.node A n false B) p false s)) u) (hn : (fillF F (.node (.node A n false B) p false s)).flat.Nodup) (ho : Out M u p) :
    LaidS (liftN (hangX M p n) n p false) (fillF F (.node A n false (.node B p false s))) u := by
  obtain ⟨hs, hc⟩ := (laid_fill F _).1 h
  obtain ⟨n1, n2, n3⟩ := fill_parts hn
  have hp : p ∉ flatC F := fun hm => n3 p hm (by simp [ST.flat])
  obtain ⟨hc1, hf⟩ := hang_in (n := n) hc (by rw [hs.1]) n2 hp ho
  have hs1 : LaidS (hangX M p n) (.node (.node A n false B) p false s) (topF F u) := laidS_far hs fun b hb => hf b (fun hm => n3 b hm hb)
  refine (laid_fill F _).2 ⟨lift_left hs1 n1, laidC_far hc1 fun b hb => ?_⟩
  have hb' := n3 b hb
  simp only [ST.flat, List.mem_append, List.mem_cons, not_or] at hb'
  refine liftN_far hb'.1.2.1 hb'.2.1 ?_
  rw [hs1.2.1.1]
  exact ne_root hb'.1.2.2

theorem lift_in_right {M : Nat → LN} {F : List Fr} {A B s : ST} {n p : Nat} {u : Option Nat} (h : LaidS M (fillF F (.node s p false (.node A n false B))) u) (hn : (fillF F (.node s p false (.node A n false B))).flat.Nodup) (ho : Out M u p) :
    LaidS (liftN (hangX M p n) n p true) (fillF F (.node (.node s p false A) n false B)) u := by
  obtain ⟨hs, hc⟩ := (laid_fill F _).1 h
  obtain ⟨n1, n2, n3⟩ := fill_parts hn
  have hp : p ∉ flatC F := fun hm => n3 p hm (by simp [ST.flat])
  obtain ⟨hc1, hf⟩ := hang_in (n := n) hc (by rw [hs.1]) n2 hp ho
  have hs1 : LaidS (hangX M p n) (.node s p false (.node A n false B)) (topF F u) := laidS_far hs fun b hb => hf b (fun hm => n3 b hm hb)
  refine (laid_fill F _).2 ⟨lift_right hs1 n1, laidC_far hc1 fun b hb => ?_⟩
  have hb' := n3 b hb
  simp only [ST.flat, List.mem_append, List.mem_cons, not_or] at hb'
  refine liftN_far hb'.2.2.2.1 hb'.2.1 ?_
  rw [hs1.2.2.1]
  exact ne_root hb'.2.2.1

end Go.Proofs.Ytlhkajlkapoabaa
