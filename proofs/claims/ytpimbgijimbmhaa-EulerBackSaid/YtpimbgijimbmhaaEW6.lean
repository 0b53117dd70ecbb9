/-
  What turning, linking and cutting make of a rope's rows. No walk of code.
-/
import Derived.Test.YtpimbgijimbmhaaEW5
namespace Go.Proofs.Ytpimbgijimbmhaa
set_option linter.unusedVariables false

section

variable {V : Type} {M : RM V} {R : List (List Nat)} {xs ys : List Nat} {a b p0 p1 : Nat}

theorem turnP (h : M.Ok) (hp : M.rows.Perm (xs :: R)) (ha : a ∈ xs) : ∃ Z P Q, xs = P ++ a :: Q ∧ Z = Q ++ P ∧ (turnM M a).Ok ∧ (turnM M a).rows.Perm ((a :: Z) :: R) := by
  have hr := perm_row h hp ha
  obtain ⟨P, Q, rfl, hna⟩ := row_split ha
  cases P with
  | nil =>
    have e : turnM M a = M := by unfold turnM; rw [hr]; simp
    exact ⟨Q, [], Q, rfl, by simp, by rw [e]; exact h, by rw [e]; exact hp⟩
  | cons x P =>
    have hxa : x ≠ a := fun e => hna (by rw [e]; simp)
    have e1 : turnM M a = (M.cut a).join a x := by
      unfold turnM
      rw [hr, if_neg (by simp [hxa])]
      rfl
    have hc := cutP h hp (by simp)
    have hcok := ok_cut h a
    have hc2 := hc.trans (List.Perm.swap _ _ _)
    have hj := joinP hcok hc2 (a := a) (b := x) (by simp) (by simp)
    refine ⟨Q ++ x :: P, x :: P, Q, rfl, rfl, ?_, ?_⟩
    · rw [e1]
      exact ok_join hcok (perm_known hcok hc2 (by simp)) (perm_known hcok hc (by simp)) (perm_ne hcok hc2 (by simp) (by simp))
    · rw [e1]
      simpa using hj

/-- Where a walk is turned the two ends are two rows. -/
theorem turn_ne (h : M.Ok) (hp : M.rows.Perm (xs :: R)) (ha : a ∈ xs) (hne : (M.rowOf a).head? ≠ some a) : ∃ x, (M.rowOf a).headD 0 = x ∧ (1 ≤ a ∧ a ≤ M.own.length) ∧ (1 ≤ x ∧ x ≤ M.own.length) ∧ (M.cut a).rowOf a ≠ (M.cut a).rowOf x := by
  have hr := perm_row h hp ha
  obtain ⟨P, Q, rfl, hna⟩ := row_split ha
  cases P with
  | nil => rw [hr] at hne; exact absurd rfl hne
  | cons x P =>
    have hc := cutP h hp (by simp)
    have hcok := ok_cut h a
    refine ⟨x, by rw [hr]; rfl, perm_known h hp ha, perm_known h hp (by simp), perm_ne hcok (hc.trans (List.Perm.swap _ _ _)) (by simp) (by simp)⟩

def linkM (M : RM V) (a b p0 p1 : Nat) : RM V := (((turnM (turnM M a) b).join a p0).join p0 b).join b p1

theorem link_own (M : RM V) (a b p0 p1 : Nat) : (linkM M a b p0 p1).own = M.own := by
  show (turnM (turnM M a) b).own = _
  rw [turn_own, turn_own]

/-- Two rows and two places become one. -/
structure LinkOut (M : RM V) (xs ys : List Nat) (R : List (List Nat)) (a b p0 p1 : Nat) (Z1 Z2 : List Nat) : Prop where
  z1 : ∃ P Q, xs = P ++ a :: Q ∧ Z1 = Q ++ P
  z2 : ∃ P Q, ys = P ++ b :: Q ∧ Z2 = Q ++ P
  ok : (linkM M a b p0 p1).Ok
  rows : (linkM M a b p0 p1).rows.Perm (((a :: Z1) ++ (p0 :: ((b :: Z2) ++ [p1]))) :: R)
  ok1 : (turnM M a).Ok
  ok2 : (turnM (turnM M a) b).Ok
  ok3 : ((turnM (turnM M a) b).join a p0).Ok
  ok4 : (((turnM (turnM M a) b).join a p0).join p0 b).Ok
  in1 : ∃ ws R', M.rows.Perm (ws :: R') ∧ a ∈ ws
  in2 : ∃ ws R', (turnM M a).rows.Perm (ws :: R') ∧ b ∈ ws
  ne1 : (turnM (turnM M a) b).rowOf a ≠ (turnM (turnM M a) b).rowOf p0
  ne2 : ((turnM (turnM M a) b).join a p0).rowOf p0 ≠ ((turnM (turnM M a) b).join a p0).rowOf b
  ne3 : (((turnM (turnM M a) b).join a p0).join p0 b).rowOf b ≠ (((turnM (turnM M a) b).join a p0).join p0 b).rowOf p1
  known : (1 ≤ a ∧ a ≤ M.own.length) ∧ (1 ≤ b ∧ b ≤ M.own.length) ∧ (1 ≤ p0 ∧ p0 ≤ M.own.length) ∧ (1 ≤ p1 ∧ p1 ≤ M.own.length)

theorem linkP (h : M.Ok) (hp : M.rows.Perm (xs :: ys :: [p0] :: [p1] :: R)) (ha : a ∈ xs) (hb : b ∈ ys) : ∃ Z1 Z2, LinkOut M xs ys R a b p0 p1 Z1 Z2 := by
  obtain ⟨Z1, P1, Q1, e1, e2, ok1, r1⟩ := turnP h hp ha
  have r1' := r1.trans (List.Perm.swap _ _ _)
  obtain ⟨Z2, P2, Q2, e3, e4, ok2, r2⟩ := turnP ok1 r1' hb
  have r2' : (turnM (turnM M a) b).rows.Perm ((a :: Z1) :: [p0] :: (b :: Z2) :: [p1] :: R) :=
    r2.trans ((List.Perm.swap _ _ _).trans (List.Perm.cons _ (List.Perm.swap _ _ _)))
  have n1 := perm_ne ok2 r2' (a := a) (b := p0) (by simp) (by simp)
  have ka := perm_known ok2 r2' (a := a) (by simp)
  have kp0 := perm_known ok2 (r2'.trans (List.Perm.swap _ _ _)) (a := p0) (by simp)
  have kb := perm_known ok2 r2 (a := b) (by simp)
  have kp1 := perm_known ok2 (r2.trans ((List.Perm.cons _ ((List.Perm.cons _ (List.Perm.swap _ _ _)).trans (List.Perm.swap _ _ _))).trans (List.Perm.swap _ _ _))) (a := p1) (by simp)
  have ok3 := ok_join ok2 ka kp0 n1
  have r3 := joinP ok2 r2' (a := a) (b := p0) (by simp) (by simp)
  have n2 := perm_ne ok3 r3 (a := p0) (b := b) (by simp) (by simp)
  have ok4 := ok_join ok3 kp0 kb n2
  have r4 := joinP ok3 r3 (a := p0) (b := b) (by simp) (by simp)
  have n3 := perm_ne ok4 r4 (a := b) (b := p1) (by simp) (by simp)
  have ok5 := ok_join ok4 kb kp1 n3
  have r5 := joinP ok4 r4 (a := b) (b := p1) (by simp) (by simp)
  rw [turn_own, turn_own] at ka kb kp0 kp1
  refine ⟨Z1, Z2, ⟨P1, Q1, e1, e2⟩, ⟨P2, Q2, e3, e4⟩, ok5, ?_, ok1, ok2, ok3, ok4, ⟨_, _, hp, ha⟩, ⟨_, _, r1', hb⟩, n1, n2, n3, ka, kb, kp0, kp1⟩
  show ((((turnM (turnM M a) b).join a p0).join p0 b).join b p1).rows.Perm _
  simpa using r5

def nextOf (M : RM V) (a : Nat) : Nat := ((M.rowOf a)[1]?).getD 0

def cutM (M : RM V) (p0 p1 : Nat) : RM V :=
  let M2 := (turnM M p0).cut p1
  let M3 := M2.cut (nextOf M2 p0)
  M3.cut (nextOf M3 p1)

theorem cut_own2 (M : RM V) (p0 p1 : Nat) : (cutM M p0 p1).own = M.own := by
  show (turnM M p0).own = _
  rw [turn_own]

/-- One row becomes two, and two places. -/
structure CutOutM (M : RM V) (xs : List Nat) (R : List (List Nat)) (p0 p1 : Nat) (X Y : List Nat) : Prop where
  ok1 : (turnM M p0).Ok
  ok2 : ((turnM M p0).cut p1).Ok
  row0 : ((turnM M p0).cut p1).rowOf p0 = p0 :: X
  ok3 : (((turnM M p0).cut p1).cut (nextOf ((turnM M p0).cut p1) p0)).Ok
  row1 : (((turnM M p0).cut p1).cut (nextOf ((turnM M p0).cut p1) p0)).rowOf p1 = p1 :: Y
  ok : (cutM M p0 p1).Ok
  rows : (cutM M p0 p1).rows.Perm (X :: Y :: [p0] :: [p1] :: R)

theorem cutPP (h : M.Ok) {P Q X Y : List Nat} (hp : M.rows.Perm (xs :: R)) (hx : xs = P ++ p0 :: Q) (hna : p0 ∉ P) (hz : Q ++ P = X ++ p1 :: Y) (hX : X ≠ []) (hY : Y ≠ []) : CutOutM M xs R p0 p1 X Y := by
  have ha : p0 ∈ xs := by rw [hx]; simp
  obtain ⟨Z, P', Q', e1, e2, ok1, r1⟩ := turnP h hp ha
  have hnd := row_nodup h (hp.mem_iff.2 (List.mem_cons_self ..))
  have hna' : p0 ∉ P' := by
    rw [e1] at hnd
    intro hm
    exact (List.nodup_append.1 hnd).2.2 p0 hm p0 (by simp) rfl
  have hsp : P' = P ∧ Q' = Q := by
    have : ∀ {a b c d : List Nat}, a ++ p0 :: b = c ++ p0 :: d → p0 ∉ a → p0 ∉ c → a = c ∧ b = d := by
      intro a
      induction a with
      | nil =>
        intro b c d h _ hc
        cases c with
        | nil => simp at h; exact ⟨rfl, h⟩
        | cons y c => simp at h; exact absurd (by rw [h.1]; simp) hc
      | cons x a ih =>
        intro b c d h ha hc
        cases c with
        | nil => simp at h; exact absurd (by rw [h.1]; simp) ha
        | cons y c =>
          simp at h
          obtain ⟨rfl, h⟩ := h
          obtain ⟨rfl, rfl⟩ := ih h (fun e => ha (List.mem_cons_of_mem _ e)) (fun e => hc (List.mem_cons_of_mem _ e))
          exact ⟨rfl, rfl⟩
    exact this (by rw [← e1, hx]) hna' hna
  obtain ⟨rfl, rfl⟩ := hsp
  rw [e2, hz] at r1
  have r1' : (turnM M p0).rows.Perm (((p0 :: X) ++ p1 :: Y) :: R) := by simpa using r1
  have r2 := cutP ok1 r1' (by simp)
  have ok2 := ok_cut ok1 p1
  have row0 := perm_row ok2 r2 (a := p0) (by simp)
  cases X with
  | nil => exact absurd rfl hX
  | cons x X =>
  have nx : nextOf ((turnM M p0).cut p1) p0 = x := by unfold nextOf; rw [row0]; rfl
  have r2' : ((turnM M p0).cut p1).rows.Perm (([p0] ++ x :: X) :: (p1 :: Y) :: R) := r2
  have r3 := cutP ok2 r2' (by simp)
  have ok3 := ok_cut ok2 x
  have r3' : (((turnM M p0).cut p1).cut x).rows.Perm ((p1 :: Y) :: [p0] :: (x :: X) :: R) :=
    r3.trans ((List.Perm.cons _ (List.Perm.swap _ _ _)).trans (List.Perm.swap _ _ _))
  have row1 := perm_row ok3 r3' (a := p1) (by simp)
  cases Y with
  | nil => exact absurd rfl hY
  | cons y Y =>
  have ny : nextOf (((turnM M p0).cut p1).cut x) p1 = y := by unfold nextOf; rw [row1]; rfl
  have r3'' : (((turnM M p0).cut p1).cut x).rows.Perm (([p1] ++ y :: Y) :: [p0] :: (x :: X) :: R) := r3'
  have r4 := cutP ok3 r3'' (by simp)
  have ok4 := ok_cut ok3 y
  have e : cutM M p0 p1 = (((turnM M p0).cut p1).cut x).cut y := by
    show (((turnM M p0).cut p1).cut (nextOf ((turnM M p0).cut p1) p0)).cut (nextOf (((turnM M p0).cut p1).cut (nextOf ((turnM M p0).cut p1) p0)) p1) = _
    rw [nx, ny]
  refine ⟨ok1, ok2, row0, by rw [nx]; exact ok3, by rw [nx]; exact row1, by rw [e]; exact ok4, ?_⟩
  rw [e]
  refine r4.trans ?_
  -- [p1] :: (y :: Y) :: [p0] :: (x :: X) :: R  ~  (x :: X) :: (y :: Y) :: [p0] :: [p1] :: R
  have s1 : ([p1] :: (y :: Y) :: [p0] :: (x :: X) :: R).Perm ((y :: Y) :: [p1] :: [p0] :: (x :: X) :: R) := List.Perm.swap _ _ _
  have s2 : ((y :: Y) :: [p1] :: [p0] :: (x :: X) :: R).Perm ((y :: Y) :: [p0] :: [p1] :: (x :: X) :: R) := List.Perm.cons _ (List.Perm.swap _ _ _)
  have s3 : ((y :: Y) :: [p0] :: [p1] :: (x :: X) :: R).Perm ((y :: Y) :: [p0] :: (x :: X) :: [p1] :: R) := List.Perm.cons _ (List.Perm.cons _ (List.Perm.swap _ _ _))
  have s4 : ((y :: Y) :: [p0] :: (x :: X) :: [p1] :: R).Perm ((y :: Y) :: (x :: X) :: [p0] :: [p1] :: R) := List.Perm.cons _ (List.Perm.swap _ _ _)
  exact s1.trans (s2.trans (s3.trans (s4.trans (List.Perm.swap _ _ _))))

end

end Go.Proofs.Ytpimbgijimbmhaa
