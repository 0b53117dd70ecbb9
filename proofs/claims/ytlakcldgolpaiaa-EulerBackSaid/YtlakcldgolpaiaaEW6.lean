/-
  What turning, linking and cutting make of a rope's rows. No walk of code.
-/
import Derived.Test.YtlakcldgolpaiaaEW5
namespace Go.Proofs.Ytlakcldgolpaiaa
set_option linter.unusedVariables false

section

variable {V : Type} {M : RM V} {R : List (List Nat)} {xs ys : List Nat} {a b p0 p1 : Nat}

theorem turnP (h : M.Ok) (hp : M.rows.Perm (xs :: R)) (ha : a ∈ xs) : ∃ Z P Q, xs = P ++ a :: Q ∧ Z = Q ++ P ∧ (turnM M a).Ok ∧ (turnM M a).rows.Perm ((a :: Z) :: R) := by
  have hr := perm_row h hp ha
  obtain ⟨P, Q, rfl, hna⟩ := row_split ha
  cases P with
  | nil =>
    have e : turnM M a = M := by unfold turnM; rw [hr]; simp
    exact ⟨Q, [], Q, rfl, by simp, by rw [e]; exact h, by rw [e]; exact hp⟩
  | cons x P =>
    have hxa : x ≠ a := fun e => hna (by rw [e]; simp)
    have e1 : turnM M a = (M.cut a).join a x := by
      unfold turnM
      rw [hr, if_neg (by simp [hxa])]
      rfl
    have hc := cutP h hp (by simp)
    have hcok := ok_cut h a
    have hc2 := hc.trans (List.Perm.swap _ _ _)
    have hj := joinP hcok hc2 (a := a) (b := x) (by simp) (by simp)
    refine ⟨Q ++ x :: P, x :: P, Q, rfl, rfl, ?_, ?_⟩
    · rw [e1]
      exact ok_join hcok (perm_known hcok hc2 (by simp)) (perm_known hcok hc (by simp)) (perm_ne hcok hc2 (by simp) (by simp))
    · rw [e1]
      simpa using hj

/-- Where a walk is turned the two ends are two rows. -/
theorem turn_ne (h : M.Ok) (hp : M.rows.Perm (xs :: R)) (ha : a ∈ xs) (hne : (M.rowOf a).head? ≠ some a) : ∃ x, (M.rowOf a).headD 0 = x ∧ (1 ≤ a ∧ a ≤ M.own.length) ∧ (1 ≤ x ∧ x ≤ M.own.length) ∧ (M.cut a).rowOf a ≠ (M.cut a).rowOf x := by
  have hr := perm_row h hp ha
  obtain ⟨P, Q, rfl, hna⟩ := row_split ha
  cases P with
  | nil => rw [hr] at hne; exact absurd rfl hne
  | cons x P =>
    have hc := cutP h hp (by simp)
    have hcok := ok_cut h a
    refine ⟨x, by rw [hr]; rfl, perm_known h hp ha, perm_known h hp (by simp), perm_ne hcok (hc.trans (List.Perm.swap _ _ _)) (by simp) (by simp)⟩

/-- The place behind another one in its row; 0 if there is none. -/
def nextN (M : RM V) (a : Nat) : Nat := ((M.rowOf a)[(M.rowOf a).idxOf a + 1]?).getD 0

/-- The place ahead of another one in its row; 0 if there is none. -/
def prevN (M : RM V) (a : Nat) : Nat := if (M.rowOf a).idxOf a = 0 then 0 else ((M.rowOf a)[(M.rowOf a).idxOf a - 1]?).getD 0

def cut0 (M : RM V) (a : Nat) : RM V := if a = 0 then M else M.cut a

def join0 (M : RM V) (a b : Nat) : RM V := if a = 0 ∨ b = 0 then M else M.join a b

theorem cut0_own (M : RM V) (a : Nat) : (cut0 M a).own = M.own := by unfold cut0; split <;> rfl

theorem join0_own (M : RM V) (a b : Nat) : (join0 M a b).own = M.own := by unfold join0; split <;> rfl

def optR (P : List Nat) : List (List Nat) := if P = [] then [] else [P]

theorem idx_split {P Q : List Nat} (hP : a ∉ P) : (P ++ a :: Q).idxOf a = P.length := by
  rw [List.idxOf_append, if_neg hP]; simp

theorem not_before {P Q : List Nat} (h : (P ++ a :: Q).Nodup) : a ∉ P := fun hm => (List.nodup_append.1 h).2.2 a hm a (by simp) rfl

theorem next_split (h : M.Ok) {P Q : List Nat} (hp : M.rows.Perm ((P ++ a :: Q) :: R)) : nextN M a = Q.headD 0 := by
  have hnd := row_nodup h (hp.mem_iff.2 (List.mem_cons_self ..))
  unfold nextN
  rw [perm_row h hp (by simp), idx_split (not_before hnd), List.getElem?_append_right (by omega)]
  cases Q <;> simp

theorem prev_split (h : M.Ok) {P Q : List Nat} (hp : M.rows.Perm ((P ++ a :: Q) :: R)) : prevN M a = P.getLastD 0 := by
  have hnd := row_nodup h (hp.mem_iff.2 (List.mem_cons_self ..))
  unfold prevN
  rw [perm_row h hp (by simp), idx_split (not_before hnd)]
  rcases List.eq_nil_or_concat P with rfl | ⟨P1, x, rfl⟩
  · simp
  · rw [if_neg (by simp)]
    simp

theorem cutO (h : M.Ok) {P Q : List Nat} (hp : M.rows.Perm ((P ++ a :: Q) :: R)) : (M.cut a).rows.Perm ((a :: Q) :: (optR P ++ R)) := by
  by_cases hP : P = []
  · subst hP
    have ha : a ∈ ([] : List Nat) ++ a :: Q := by simp
    have hnd := row_nodup h (hp.mem_iff.2 (List.mem_cons_self ..))
    have e2 : ∀ L : List (List Nat), (∀ xs ∈ L, a ∉ xs) → L.flatMap (cutRow a) = L := by
      intro L
      induction L with
      | nil => intro _; rfl
      | cons x L ih =>
        intro hx
        rw [List.flatMap_cons, ih (fun xs hxs => hx xs (List.mem_cons_of_mem _ hxs))]
        unfold cutRow
        rw [if_neg (hx x (List.mem_cons_self ..))]
        rfl
    unfold RM.cut
    refine (hp.flatMap_right _).trans ?_
    rw [List.flatMap_cons, e2 R (perm_apart h hp ha), cutRow_at rfl hnd, if_pos rfl]
    exact List.Perm.refl _
  · unfold optR
    rw [if_neg hP]
    exact (cutP h hp hP).trans (List.Perm.swap _ _ _)

def linkM (M : RM V) (a b p0 p1 : Nat) : RM V :=
  let M1 := turnM M b
  join0 ((((cut0 M1 (nextN M1 a)).join a p0).join p0 b).join b p1) p1 (nextN M1 a)

theorem link_own (M : RM V) (a b p0 p1 : Nat) : (linkM M a b p0 p1).own = M.own := by
  unfold linkM
  rw [join0_own]
  show (cut0 (turnM M b) _).own = _
  rw [cut0_own, turn_own]

/-- Two rows and two places become one. -/
structure LinkOut (M : RM V) (xs ys : List Nat) (R : List (List Nat)) (a b p0 p1 : Nat) (P Q Z : List Nat) : Prop where
  z1 : xs = P ++ a :: Q
  z2 : ∃ P Q, ys = P ++ b :: Q ∧ Z = Q ++ P
  ok : (linkM M a b p0 p1).Ok
  rows : (linkM M a b p0 p1).rows.Perm ((P ++ a :: (p0 :: ((b :: Z) ++ p1 :: Q))) :: R)
  ok1 : (turnM M b).Ok
  next : nextN (turnM M b) a = 0 ∨ 1 ≤ nextN (turnM M b) a ∧ nextN (turnM M b) a ≤ M.own.length
  ne1 : (cut0 (turnM M b) (nextN (turnM M b) a)).rowOf a ≠ (cut0 (turnM M b) (nextN (turnM M b) a)).rowOf p0
  ne2 : ((cut0 (turnM M b) (nextN (turnM M b) a)).join a p0).rowOf p0 ≠ ((cut0 (turnM M b) (nextN (turnM M b) a)).join a p0).rowOf b
  ne3 : (((cut0 (turnM M b) (nextN (turnM M b) a)).join a p0).join p0 b).rowOf b ≠ (((cut0 (turnM M b) (nextN (turnM M b) a)).join a p0).join p0 b).rowOf p1
  ne4 : nextN (turnM M b) a ≠ 0 → ((((cut0 (turnM M b) (nextN (turnM M b) a)).join a p0).join p0 b).join b p1).rowOf p1 ≠ ((((cut0 (turnM M b) (nextN (turnM M b) a)).join a p0).join p0 b).join b p1).rowOf (nextN (turnM M b) a)
  known : (1 ≤ a ∧ a ≤ M.own.length) ∧ (1 ≤ b ∧ b ≤ M.own.length) ∧ (1 ≤ p0 ∧ p0 ≤ M.own.length) ∧ (1 ≤ p1 ∧ p1 ≤ M.own.length)

/-- Four rows are joined one behind the other. -/
theorem joins3 {N : RM V} {P Z : List Nat} (h : N.Ok) (hp : N.rows.Perm ((P ++ [a]) :: [p0] :: (b :: Z) :: [p1] :: R)) :
    (N.rowOf a ≠ N.rowOf p0 ∧ (N.join a p0).rowOf p0 ≠ (N.join a p0).rowOf b ∧ ((N.join a p0).join p0 b).rowOf b ≠ ((N.join a p0).join p0 b).rowOf p1) ∧
    (((N.join a p0).join p0 b).join b p1).Ok ∧ (((N.join a p0).join p0 b).join b p1).rows.Perm ((P ++ a :: (p0 :: ((b :: Z) ++ [p1]))) :: R) ∧
    (1 ≤ a ∧ a ≤ N.own.length) ∧ (1 ≤ b ∧ b ≤ N.own.length) ∧ (1 ≤ p0 ∧ p0 ≤ N.own.length) ∧ (1 ≤ p1 ∧ p1 ≤ N.own.length) := by
  have s1 : N.rows.Perm ([p0] :: (P ++ [a]) :: (b :: Z) :: [p1] :: R) := hp.trans (List.Perm.swap _ _ _)
  have s2 : N.rows.Perm ((b :: Z) :: (P ++ [a]) :: [p0] :: [p1] :: R) := hp.trans ((List.Perm.cons _ (List.Perm.swap _ _ _)).trans (List.Perm.swap _ _ _))
  have s3 : N.rows.Perm ([p1] :: (P ++ [a]) :: [p0] :: (b :: Z) :: R) := hp.trans ((List.Perm.cons _ ((List.Perm.cons _ (List.Perm.swap _ _ _)).trans (List.Perm.swap _ _ _))).trans (List.Perm.swap _ _ _))
  have ka := perm_known h hp (a := a) (by simp)
  have kp0 := perm_known h s1 (a := p0) (by simp)
  have kb := perm_known h s2 (a := b) (by simp)
  have kp1 := perm_known h s3 (a := p1) (by simp)
  have n1 := perm_ne h hp (a := a) (b := p0) (by simp) (by simp)
  have ok3 := ok_join h ka kp0 n1
  have r3 := joinP h hp (a := a) (b := p0) (by simp) (by simp)
  have n2 := perm_ne ok3 r3 (a := p0) (b := b) (by simp) (by simp)
  have ok4 := ok_join ok3 kp0 kb n2
  have r4 := joinP ok3 r3 (a := p0) (b := b) (by simp) (by simp)
  have n3 := perm_ne ok4 r4 (a := b) (b := p1) (by simp) (by simp)
  have ok5 := ok_join ok4 kb kp1 n3
  have r5 := joinP ok4 r4 (a := b) (b := p1) (by simp) (by simp)
  exact ⟨⟨n1, n2, n3⟩, ok5, by simpa using r5, ka, kb, kp0, kp1⟩

theorem linkP (h : M.Ok) (hp : M.rows.Perm (xs :: ys :: [p0] :: [p1] :: R)) (ha : a ∈ xs) (hb : b ∈ ys) : ∃ P Q Z, LinkOut M xs ys R a b p0 p1 P Q Z := by
  obtain ⟨Z, P2, Q2, e3, e4, ok1, r1⟩ := turnP h (hp.trans (List.Perm.swap _ _ _)) hb
  have r1' : (turnM M b).rows.Perm (xs :: (b :: Z) :: [p0] :: [p1] :: R) := r1.trans (List.Perm.swap _ _ _)
  obtain ⟨P, Q, rfl, hna⟩ := row_split ha
  have hn := next_split ok1 r1'
  have own1 : (turnM M b).own.length = M.own.length := by rw [turn_own]
  cases Q with
  | nil =>
    have hn : nextN (turnM M b) a = 0 := hn
    have hc : cut0 (turnM M b) 0 = turnM M b := by unfold cut0; rw [if_pos rfl]
    have r2 : (turnM M b).rows.Perm ((P ++ [a]) :: [p0] :: (b :: Z) :: [p1] :: R) := r1'.trans (List.Perm.cons _ (List.Perm.swap _ _ _))
    obtain ⟨⟨n1, n2, n3⟩, ok5, r5, ka, kb, kp0, kp1⟩ := joins3 ok1 r2
    rw [own1] at ka kb kp0 kp1
    have hl : linkM M a b p0 p1 = (((turnM M b).join a p0).join p0 b).join b p1 := by
      unfold linkM
      simp only [hn, hc]
      unfold join0
      rw [if_pos (.inr rfl)]
    refine ⟨P, [], Z, rfl, ⟨P2, Q2, e3, e4⟩, by rw [hl]; exact ok5, by rw [hl]; exact r5, ok1, .inl hn, ?_, ?_, ?_, fun e => absurd hn e, ka, kb, kp0, kp1⟩
    · rw [hn, hc]; exact n1
    · rw [hn, hc]; exact n2
    · rw [hn, hc]; exact n3
  | cons q Q =>
    have hn : nextN (turnM M b) a = q := hn
    have kq := perm_known ok1 r1' (a := q) (by simp)
    have hq : q ≠ 0 := by omega
    have hc : cut0 (turnM M b) q = (turnM M b).cut q := by unfold cut0; rw [if_neg hq]
    have r1'' : (turnM M b).rows.Perm (((P ++ [a]) ++ q :: Q) :: (b :: Z) :: [p0] :: [p1] :: R) := by simpa using r1'
    have c2 := cutP ok1 r1'' (by simp)
    have ok2 := ok_cut ok1 q
    have r2 : ((turnM M b).cut q).rows.Perm ((P ++ [a]) :: [p0] :: (b :: Z) :: [p1] :: ((q :: Q) :: R)) := by
      refine c2.trans (List.Perm.cons _ ?_)
      have s1 : ((q :: Q) :: (b :: Z) :: [p0] :: [p1] :: R).Perm ((b :: Z) :: (q :: Q) :: [p0] :: [p1] :: R) := List.Perm.swap _ _ _
      have s2 : ((b :: Z) :: (q :: Q) :: [p0] :: [p1] :: R).Perm ((b :: Z) :: [p0] :: [p1] :: (q :: Q) :: R) := List.Perm.cons _ ((List.Perm.swap _ _ _).trans (List.Perm.cons _ (List.Perm.swap _ _ _)))
      exact s1.trans (s2.trans (List.Perm.swap _ _ _))
    obtain ⟨⟨n1, n2, n3⟩, ok5, r5, ka, kb, kp0, kp1⟩ := joins3 ok2 r2
    have own2 : ((turnM M b).cut q).own.length = M.own.length := own1
    rw [own2] at ka kb kp0 kp1
    have n4 := perm_ne ok5 r5 (a := p1) (b := q) (by simp) (by simp)
    rw [own1] at kq
    have ok6 := ok_join ok5 (a := p1) (b := q) (by show 1 ≤ p1 ∧ p1 ≤ ((turnM M b).cut q).own.length; rw [own2]; exact kp1) (by show 1 ≤ q ∧ q ≤ ((turnM M b).cut q).own.length; rw [own2]; exact kq) n4
    have r6 := joinP ok5 r5 (a := p1) (b := q) (by simp) (by simp)
    have hl : linkM M a b p0 p1 = (((((turnM M b).cut q).join a p0).join p0 b).join b p1).join p1 q := by
      unfold linkM
      simp only [hn, hc]
      unfold join0
      rw [if_neg (by omega)]
    refine ⟨P, q :: Q, Z, rfl, ⟨P2, Q2, e3, e4⟩, by rw [hl]; exact ok6, by rw [hl]; simpa using r6, ok1, .inr (by rw [hn]; exact kq), ?_, ?_, ?_, ?_, ka, kb, kp0, kp1⟩
    · rw [hn, hc]; exact n1
    · rw [hn, hc]; exact n2
    · rw [hn, hc]; exact n3
    · intro _; rw [hn, hc]; exact n4

/-- Which of two places stands ahead in its row. -/
def ordM (M : RM V) (p0 p1 : Nat) : Nat × Nat := if (M.rowOf p1).idxOf p1 < (M.rowOf p0).idxOf p0 then (p1, p0) else (p0, p1)

def partM (M : RM V) (f l : Nat) : RM V :=
  join0 (cut0 (((M.cut f).cut (nextN M f)).cut l) (nextN M l)) (prevN M f) (nextN M l)

theorem part_own (M : RM V) (f l : Nat) : (partM M f l).own = M.own := by
  unfold partM
  rw [join0_own, cut0_own]
  rfl

def cutM (M : RM V) (p0 p1 : Nat) : RM V := partM M (ordM M p0 p1).1 (ordM M p0 p1).2

theorem cut_own2 (M : RM V) (p0 p1 : Nat) : (cutM M p0 p1).own = M.own := part_own _ _ _

/-- A piece is taken out of a row. -/
structure PartOut (M : RM V) (R : List (List Nat)) (f l : Nat) (A X B : List Nat) : Prop where
  ok : (partM M f l).Ok
  rows : (partM M f l).rows.Perm (X :: (A ++ B) :: [f] :: [l] :: R)
  kf : 1 ≤ f ∧ f ≤ M.own.length
  kl : 1 ≤ l ∧ l ≤ M.own.length
  kn : 1 ≤ nextN M f ∧ nextN M f ≤ M.own.length
  kr : nextN M l = 0 ∨ 1 ≤ nextN M l ∧ nextN M l ≤ M.own.length
  kh : prevN M f = 0 ∨ 1 ≤ prevN M f ∧ prevN M f ≤ M.own.length
  ne : prevN M f ≠ 0 → nextN M l ≠ 0 → (cut0 (((M.cut f).cut (nextN M f)).cut l) (nextN M l)).rowOf (prevN M f) ≠ (cut0 (((M.cut f).cut (nextN M f)).cut l) (nextN M l)).rowOf (nextN M l)

theorem partP {f l : Nat} {A X B : List Nat} (h : M.Ok) (hp : M.rows.Perm ((A ++ f :: (X ++ l :: B)) :: R)) (hX : X ≠ []) (hAB : A ++ B ≠ []) : PartOut M R f l A X B := by
  cases X with
  | nil => exact absurd rfl hX
  | cons x X =>
  have hr := hp
  have kf := perm_known h hp (a := f) (by simp)
  have kx := perm_known h hp (a := x) (by simp)
  have kl := perm_known h hp (a := l) (by simp)
  have ef : nextN M f = x := next_split h hp
  have eh : prevN M f = A.getLastD 0 := prev_split h hp
  have el : nextN M l = B.headD 0 := next_split (P := A ++ f :: x :: X) h (by simpa using hp)
  have r1 := cutO h hp
  have ok1 := ok_cut h f
  have r2 : ((M.cut f).cut x).rows.Perm ([f] :: ((x :: X) ++ l :: B) :: (optR A ++ R)) := cutP (P := [f]) ok1 r1 (by simp)
  have ok2 := ok_cut ok1 x
  have r3 : (((M.cut f).cut x).cut l).rows.Perm ((x :: X) :: (l :: B) :: [f] :: (optR A ++ R)) := cutP ok2 (r2.trans (List.Perm.swap _ _ _)) (by simp)
  have ok3 := ok_cut ok2 l
  have hM : partM M f l = join0 (cut0 (((M.cut f).cut x).cut l) (B.headD 0)) (A.getLastD 0) (B.headD 0) := by unfold partM; rw [ef, eh, el]
  have o3 : (((M.cut f).cut x).cut l).own.length = M.own.length := rfl
  have key : ∀ T : List (List Nat), ((x :: X) :: [l] :: [f] :: T).Perm ((x :: X) :: [f] :: [l] :: T) := fun T => List.Perm.cons _ (List.Perm.swap _ _ _)
  have fin : ∀ (Y : List Nat), ((x :: X) :: [f] :: [l] :: (Y :: R)).Perm ((x :: X) :: Y :: [f] :: [l] :: R) := fun Y =>
    List.Perm.cons _ ((List.Perm.cons _ (List.Perm.swap _ _ _)).trans (List.Perm.swap _ _ _))
  cases B with
  | nil =>
    have hA : A ≠ [] := by simpa using hAB
    have e1 : cut0 (((M.cut f).cut x).cut l) 0 = ((M.cut f).cut x).cut l := by unfold cut0; rw [if_pos rfl]
    have e2 : partM M f l = ((M.cut f).cut x).cut l := by rw [hM]; show join0 (cut0 _ 0) _ 0 = _; rw [e1]; unfold join0; rw [if_pos (.inr rfl)]
    refine ⟨by rw [e2]; exact ok3, ?_, kf, kl, by rw [ef]; exact kx, .inl el, ?_, fun _ h2 => absurd el h2⟩
    · rw [e2]
      refine r3.trans ((key _).trans ?_)
      unfold optR
      rw [if_neg hA]
      simpa using fin A
    · rw [eh]
      rcases List.eq_nil_or_concat A with rfl | ⟨A1, y, rfl⟩
      · exact absurd rfl hA
      · right
        have : (A1.concat y).getLastD 0 = y := by simp
        rw [this]
        exact perm_known h hp (a := y) (by simp)
  | cons b B =>
    have kb := perm_known h hp (a := b) (by simp)
    have hb : b ≠ 0 := by omega
    have el : nextN M l = b := el
    have e1 : cut0 (((M.cut f).cut x).cut l) b = (((M.cut f).cut x).cut l).cut b := by unfold cut0; rw [if_neg hb]
    have r3' : (((M.cut f).cut x).cut l).rows.Perm (([l] ++ b :: B) :: (x :: X) :: [f] :: (optR A ++ R)) := r3.trans (List.Perm.swap _ _ _)
    have r4 : ((((M.cut f).cut x).cut l).cut b).rows.Perm ([l] :: (b :: B) :: (x :: X) :: [f] :: (optR A ++ R)) := cutP ok3 r3' (by simp)
    have ok4 := ok_cut ok3 b
    have r5 : ((((M.cut f).cut x).cut l).cut b).rows.Perm ((b :: B) :: (optR A ++ ((x :: X) :: [f] :: [l] :: R))) := by
      refine r4.trans ((List.Perm.swap _ _ _).trans (List.Perm.cons _ ?_))
      have s1 : ([l] :: (x :: X) :: [f] :: (optR A ++ R)).Perm ((x :: X) :: [f] :: [l] :: (optR A ++ R)) := (List.Perm.swap _ _ _).trans (List.Perm.cons _ (List.Perm.swap _ _ _))
      refine s1.trans ?_
      have s2 : ([(x :: X), [f], [l]] ++ optR A).Perm (optR A ++ [(x :: X), [f], [l]]) := List.perm_append_comm
      have s3 := s2.append_right R
      simpa using s3
    rcases List.eq_nil_or_concat A with rfl | ⟨A1, y, rfl⟩
    · have e2 : partM M f l = (((M.cut f).cut x).cut l).cut b := by rw [hM]; show join0 (cut0 _ b) 0 b = _; rw [e1]; unfold join0; rw [if_pos (.inl rfl)]
      refine ⟨by rw [e2]; exact ok4, ?_, kf, kl, by rw [ef]; exact kx, .inr (by rw [el]; exact kb), .inl eh, fun h1 _ => absurd eh h1⟩
      rw [e2]
      refine r5.trans ?_
      have : optR [] = [] := rfl
      rw [this]
      exact (List.perm_middle (a := b :: B) (l₁ := [(x :: X)]) (l₂ := [f] :: [l] :: R)).symm
    · have ey : (A1.concat y).getLastD 0 = y := by simp
      have ky := perm_known h hp (a := y) (by simp)
      have hy : y ≠ 0 := by omega
      have oA : optR (A1.concat y) = [A1.concat y] := by unfold optR; rw [if_neg (by simp)]
      rw [oA] at r5
      have r6 : ((((M.cut f).cut x).cut l).cut b).rows.Perm ((A1.concat y) :: (b :: B) :: ((x :: X) :: [f] :: [l] :: R)) := r5.trans (List.Perm.swap _ _ _)
      have n6 := perm_ne ok4 r6 (a := y) (b := b) (by simp) (by simp)
      have ok6 := ok_join ok4 ky kb n6
      have r7 := joinP ok4 r6 (a := y) (b := b) (by simp) (by simp)
      have e2 : partM M f l = ((((M.cut f).cut x).cut l).cut b).join y b := by rw [hM, ey]; show join0 (cut0 _ b) y b = _; rw [e1]; unfold join0; rw [if_neg (by omega)]
      refine ⟨by rw [e2]; exact ok6, ?_, kf, kl, by rw [ef]; exact kx, .inr (by rw [el]; exact kb), .inr (by rw [eh, ey]; exact ky), fun _ _ => ?_⟩
      · rw [e2]
        exact r7.trans (List.Perm.swap _ _ _)
      · rw [ef, el, eh, ey, e1]
        exact n6

/-- One row becomes two, and two places. -/
structure CutOutM (M : RM V) (xs : List Nat) (R : List (List Nat)) (p0 p1 : Nat) (X Y : List Nat) : Prop where
  ok : (cutM M p0 p1).Ok
  rows : (cutM M p0 p1).rows.Perm (X :: Y :: [p0] :: [p1] :: R)
  part : ∃ A B, PartOut M R (ordM M p0 p1).1 (ordM M p0 p1).2 A X B
  k0 : 1 ≤ p0 ∧ p0 ≤ M.own.length
  k1 : 1 ≤ p1 ∧ p1 ≤ M.own.length

theorem ord_fst (h : M.Ok) {f l : Nat} {A X B : List Nat} (hp : M.rows.Perm ((A ++ f :: (X ++ l :: B)) :: R)) : ordM M f l = (f, l) ∧ ordM M l f = (f, l) := by
  have hnd := row_nodup h (hp.mem_iff.2 (List.mem_cons_self ..))
  have e1 := perm_row h hp (a := f) (by simp)
  have e2 := perm_row h hp (a := l) (by simp)
  have i1 : (A ++ f :: (X ++ l :: B)).idxOf f = A.length := idx_split (not_before hnd)
  have hs : A ++ f :: (X ++ l :: B) = (A ++ f :: X) ++ l :: B := by simp
  have i2 : (A ++ f :: (X ++ l :: B)).idxOf l = (A ++ f :: X).length := by rw [hs]; exact idx_split (not_before (by rw [← hs]; exact hnd))
  unfold ordM
  rw [e1, e2, i1, i2]
  have : A.length < (A ++ f :: X).length := by simp
  rw [if_neg (by omega), if_pos this]
  exact ⟨rfl, rfl⟩

/-- Two places of a row, in their order. -/
theorem two_split {p0 p1 : Nat} (h0 : p0 ∈ xs) (h1 : p1 ∈ xs) (hne : p0 ≠ p1) : ∃ f l A X B, xs = A ++ f :: (X ++ l :: B) ∧ (f = p0 ∧ l = p1 ∨ f = p1 ∧ l = p0) := by
  obtain ⟨P, Q, rfl, hna⟩ := row_split h0
  rw [List.mem_append, List.mem_cons] at h1
  rcases h1 with h1 | h1 | h1
  · obtain ⟨A, X, rfl, -⟩ := row_split h1
    exact ⟨p1, p0, A, X, Q, by simp, .inr ⟨rfl, rfl⟩⟩
  · exact absurd h1.symm hne
  · obtain ⟨X, B, rfl, -⟩ := row_split h1
    exact ⟨p0, p1, P, X, B, rfl, .inl ⟨rfl, rfl⟩⟩

theorem cutPP (h : M.Ok) {f l : Nat} {A X B : List Nat} (hx : xs = A ++ f :: (X ++ l :: B)) (hp : M.rows.Perm (xs :: R)) (ho : f = p0 ∧ l = p1 ∨ f = p1 ∧ l = p0) (hX : X ≠ []) (hAB : A ++ B ≠ []) : CutOutM M xs R p0 p1 X (A ++ B) := by
  rw [hx] at hp
  have P := partP h hp hX hAB
  have O := ord_fst h hp
  rcases ho with ⟨rfl, rfl⟩ | ⟨rfl, rfl⟩
  · refine ⟨?_, ?_, ⟨A, B, ?_⟩, P.kf, P.kl⟩
    · unfold cutM; rw [O.1]; exact P.ok
    · unfold cutM; rw [O.1]; exact P.rows
    · rw [O.1]; exact P
  · refine ⟨?_, ?_, ⟨A, B, ?_⟩, P.kl, P.kf⟩
    · unfold cutM; rw [O.2]; exact P.ok
    · unfold cutM; rw [O.2]; exact P.rows.trans (List.Perm.cons _ (List.Perm.cons _ (List.Perm.swap _ _ _)))
    · rw [O.2]; exact P

end

end Go.Proofs.Ytlakcldgolpaiaa
