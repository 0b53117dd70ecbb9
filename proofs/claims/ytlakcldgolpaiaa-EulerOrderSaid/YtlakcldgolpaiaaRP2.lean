/-
  Plain words for layer 15: what stands around a node of a tree; joining and cutting trees. No walk.
-/
import Derived.Test.YtlakcldgolpaiaaRP1
namespace Go.Proofs.Ytlakcldgolpaiaa
set_option linter.unusedVariables false

/-- A step up: from the right or the left, to which node, what hangs on its other side. -/
structure Up where
  right : Bool
  p : Nat
  s : Tr

def nextP : List Up → Nat
  | [] => 0
  | f :: _ => f.p

def topP : Nat → List Up → Nat
  | c, [] => c
  | _, f :: fs => topP f.p fs

/-- The nodes on the way up, and all that hangs there. -/
def around : List Up → List Nat
  | [] => []
  | f :: fs => f.p :: (f.s.list ++ around fs)

def before : List Nat → List Up → List Nat
  | xs, [] => xs
  | xs, f :: fs => before (if f.right = true then f.s.list ++ f.p :: xs else xs) fs

def behind : List Nat → List Up → List Nat
  | xs, [] => xs
  | xs, f :: fs => behind (if f.right = true then xs else xs ++ f.p :: f.s.list) fs

section

variable {V : Type} [Bear V]

/-- What stands around c lies in the nodes. -/
def Zip (N : Nodes V) : Nat → List Up → Prop
  | _, [] => True
  | c, f :: fs => (if f.right = true then (N f.p).right = c ∧ (N f.p).left = f.s.root else (N f.p).left = c ∧ (N f.p).right = f.s.root) ∧
      Laid N f.s ∧ (f.s ≠ .nil → (N f.s.root).up = f.p) ∧ (N f.p).up = nextP fs ∧ Zip N f.p fs

theorem Zip.agree {N N' : Nodes V} : ∀ {c : Nat} {fs : List Up}, Zip N c fs → (∀ i ∈ around fs, N' i = N i) → (around fs).Nodup → Zip N' c fs
  | _, [], _, _, _ => trivial
  | c, f :: fs, h, h1, hd => by
    obtain ⟨g1, g2, g3, g4, g5⟩ := h
    have hd1 := List.nodup_cons.1 (show (f.p :: (f.s.list ++ around fs)).Nodup from hd)
    have hd2 := List.nodup_append.1 hd1.2
    have hp := h1 f.p (by simp [around])
    refine ⟨?_, g2.same (fun i hi => h1 i (by simp [around, hi])) hd2.1, fun hn => ?_, ?_, g5.agree (fun i hi => h1 i (by simp [around, hi])) hd2.2.1⟩
    · rw [hp]; exact g1
    · rw [h1 _ (by simp [around, Tr.root_mem hn])]; exact g3 hn
    · rw [hp]; exact g4

omit [Bear V] in
theorem before_app : ∀ (fs : List Up) (xs : List Nat), before xs fs = before [] fs ++ xs
  | [], xs => rfl
  | f :: fs, xs => by
    unfold before
    rw [before_app fs (if f.right = true then f.s.list ++ f.p :: xs else xs), before_app fs (if f.right = true then f.s.list ++ f.p :: [] else [])]
    cases f.right <;> simp

omit [Bear V] in
theorem behind_app : ∀ (fs : List Up) (xs : List Nat), behind xs fs = xs ++ behind [] fs
  | [], xs => by simp [behind]
  | f :: fs, xs => by
    unfold behind
    rw [behind_app fs (if f.right = true then xs else xs ++ f.p :: f.s.list), behind_app fs (if f.right = true then [] else [] ++ f.p :: f.s.list)]
    cases f.right <;> simp

omit [Bear V] in
theorem around_perm : ∀ (fs : List Up) (xs ys : List Nat), (before xs fs ++ behind ys fs).Perm (xs ++ ys ++ around fs)
  | [], xs, ys => by simp [before, behind, around]
  | f :: fs, xs, ys => by
    unfold before behind around
    refine (around_perm fs _ _).trans ?_
    rw [List.perm_iff_count]
    intro c
    cases f.right
    · simp only [Bool.false_eq_true, if_false, List.count_append, List.count_cons]; omega
    · simp only [if_true, List.count_append, List.count_cons]; omega

/-- A node of a laid tree, and what stands around it. -/
theorem zip_exists {N : Nodes V} : ∀ {t : Tr} {a : Nat} (fs0 : List Up), Laid N t → a ∈ t.list → Zip N t.root fs0 → (N t.root).up = nextP fs0 →
    ∃ l r fs, Laid N (.node l a r) ∧ Zip N a fs ∧ (N a).up = nextP fs ∧ before l.list fs ++ a :: behind r.list fs = before [] fs0 ++ t.list ++ behind [] fs0 ∧ topP a fs = topP t.root fs0 ∧ fs.length + (l.list ++ a :: r.list).length ≤ fs0.length + t.list.length
  | .nil, a, fs0, _, ha, _, _ => by simp [Tr.list] at ha
  | .node l b r, a, fs0, h, ha, hz, hu => by
    obtain ⟨g1, g2, g3, g4, g5, g6, g7, g8⟩ := h
    by_cases hb : a = b
    · subst hb
      refine ⟨l, r, fs0, ⟨g1, g2, g3, g4, g5, g6, g7, g8⟩, hz, hu, ?_, rfl, Nat.le_refl _⟩
      · rw [before_app fs0 l.list, behind_app fs0 r.list]; simp [Tr.list]
    · have ha' : a ∈ l.list ∨ a ∈ r.list := by
        simp [Tr.list] at ha
        rcases ha with ha | ha | ha
        · exact .inl ha
        · exact absurd ha hb
        · exact .inr ha
      rcases ha' with ha' | ha'
      · have hln : l ≠ .nil := by rintro rfl; simp [Tr.list] at ha'
        have hz2 : Zip N l.root (⟨false, b, r⟩ :: fs0) := ⟨by simp only [Bool.false_eq_true, if_false]; exact ⟨g1, g2⟩, g6, g4, hu, hz⟩
        obtain ⟨l', r', fs, k1, k2, k3, k5, k6, k7⟩ := zip_exists (⟨false, b, r⟩ :: fs0) g5 ha' hz2 (g3 hln)
        refine ⟨l', r', fs, k1, k2, k3, ?_, k6, ?_⟩
        · rw [k5]
          simp only [before, behind, Tr.list, Bool.false_eq_true, if_false]
          rw [behind_app fs0 ([] ++ b :: r.list)]
          simp
        · simp only [List.length_cons, Tr.list, List.length_append] at k7 ⊢; omega
      · have hrn : r ≠ .nil := by rintro rfl; simp [Tr.list] at ha'
        have hz2 : Zip N r.root (⟨true, b, l⟩ :: fs0) := ⟨by simp only [if_true]; exact ⟨g2, g1⟩, g5, g3, hu, hz⟩
        obtain ⟨l', r', fs, k1, k2, k3, k5, k6, k7⟩ := zip_exists (⟨true, b, l⟩ :: fs0) g6 ha' hz2 (g4 hrn)
        refine ⟨l', r', fs, k1, k2, k3, ?_, k6, ?_⟩
        · rw [k5]
          simp only [before, behind, Tr.list, if_true]
          rw [before_app fs0 (l.list ++ b :: [])]
          simp
        · simp only [List.length_cons, Tr.list, List.length_append] at k7 ⊢; omega

end

end Go.Proofs.Ytlakcldgolpaiaa
