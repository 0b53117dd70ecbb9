/-
  The walks of Same, Size, Value, All.
-/
import Derived.Test.YtlakcldgolpaiaaEP13
namespace Go.Proofs.Ytlakcldgolpaiaa
open Go.RowKit
set_option linter.unusedVariables false

theorem laid_up {N : Nodes SV} : ∀ {t : Tr} {i : Nat}, Laid N t → i ∈ t.list → i ≠ t.root → (N i).up ∈ t.list
  | .nil, i, _, hi, _ => by simp [Tr.list] at hi
  | .node l a r, i, h, hi, hne => by
    obtain ⟨g1, g2, g3, g4, g5, g6, -, -⟩ := h
    have hi' : i ∈ l.list ∨ i ∈ r.list := by
      simp [Tr.list] at hi
      rcases hi with hi | hi | hi
      · exact .inl hi
      · exact absurd hi hne
      · exact .inr hi
    rcases hi' with hi' | hi'
    · by_cases e : i = l.root
      · have hn : l ≠ .nil := by rintro rfl; simp [Tr.list] at hi'
        rw [e, g3 hn]; simp [Tr.list]
      · have := laid_up g5 hi' e
        simp [Tr.list, this]
    · by_cases e : i = r.root
      · have hn : r ≠ .nil := by rintro rfl; simp [Tr.list] at hi'
        rw [e, g4 hn]; simp [Tr.list]
      · have := laid_up g6 hi' e
        simp [Tr.list, this]

theorem root_unique {N : Nodes SV} {t u : Tr} (ht : Laid N t) (hu : Laid N u) (hl : t.list = u.list) (h1 : (N t.root).up = 0) (hn : t ≠ .nil) (hp : ∀ i ∈ u.list, 0 < i) : t.root = u.root := by
  by_cases e : t.root = u.root
  · exact e
  · have := laid_up hu (hl ▸ Tr.root_mem hn) e
    rw [h1] at this
    have := hp 0 this
    omega

theorem knownX (w : World) (g : Nat) (sv : Value) (nb cap : Nat) (M : RM SV) (hb : Blk w g 115 #[sv, .slice (some ⟨nb, 0, none⟩) (M.own.length + 1) cap]) (a : Int) :
    Calls Try.prog 70 #[.pointer (some ⟨g, 0, none⟩), .int .i64 a] w fun e w' => e = .returned (.bool (M.known a)) ∧ w' = w := by
  have := known_any w g sv nb _ cap hb a
  simpa [RM.known] using this

set_option maxRecDepth 100000 in
set_option maxHeartbeats 2000000 in
theorem rSame (w : World) (g : Nat) (S : Nat → Prop) (M : RM SV) (h : Rp w g S M) (a b : Int) :
    Calls Try.prog 50 #[.pointer (some ⟨g, 0, none⟩), .int .i64 a, .int .i64 b] w fun e w' => e = .returned (.tuple #[.bool (M.sameA a b), .int .i64 (M.errAB a b)]) ∧ w' = w := by
  obtain ⟨B, sv, nb, cap, N, ss, hX, hS⟩ := h
  have hka := knownX w g sv nb cap M hX.mem.blk a
  have hkb := knownX w g sv nb cap M hX.mem.blk b
  by_cases ha : M.known a = true
  · rw [ha] at hka
    by_cases hb : M.known b = true
    · rw [hb] at hkb
      obtain ⟨i, rfl, hi⟩ := known_nat ha
      obtain ⟨j, rfl, hj⟩ := known_nat hb
      obtain ⟨t, t1, t2, t3, t4, t5, t6⟩ := topX hX hi
      obtain ⟨u, u1, u2, u3, u4, u5, u6⟩ := topX hX hj
      have e1 : M.errAB (i : Int) (j : Int) = 0 := by unfold RM.errAB; rw [if_pos ⟨ha, hb⟩]
      have e2 : M.sameA (i : Int) (j : Int) = ((t.root : Int) == (u.root : Int)) := by
        unfold RM.sameA
        rw [if_pos ⟨ha, hb⟩]
        simp only [Int.toNat_natCast]
        by_cases he : M.rowOf i = M.rowOf j
        · have := root_unique t2 u2 (by rw [t1, u1, he]) t3 t4 (fun k hk => (u5 k hk).1)
          simp [he, this]
        · have hne : t.root ≠ u.root := fun e => he (by
            have h1 := Tr.root_mem t4
            have h2 := Tr.root_mem u4
            rw [e] at h1
            rw [t1] at h1
            rw [u1] at h2
            exact (row_unique hX.ok.ok (row_mem hX.ok.ok hi).1 h1).trans (row_unique hX.ok.ok (row_mem hX.ok.ok hj).1 h2).symm)
          have : ¬ (t.root : Int) = (u.root : Int) := by omega
          simp [he, this]
      rw [e1, e2]
      have HKA := Lib.hid hka
      have HKB := Lib.hid hkb
      have HT := Lib.hid (t6 w hX.mem)
      have HU := Lib.hid (u6 w hX.mem)
      obtain ⟨x, hx⟩ : ∃ x, x = t.root := ⟨_, rfl⟩
      obtain ⟨y, hy⟩ : ∃ y, y = u.root := ⟨_, rfl⟩
      rw [← hx] at HT ⊢
      rw [← hy] at HU ⊢
      clear hka hkb t6 u6 t1 t2 t3 t4 t5 u1 u2 u3 u4 u5 e1 e2 hX ha hb hx hy
      go_enter Try.func50, Try.ntmps50
      go_wp2_with fail
      refine HKA.out.mono ?_
      rintro e w1 ⟨rfl, h1⟩
      subst w1
      go_wp2_with fail
      refine HKB.out.mono ?_
      rintro e w1 ⟨rfl, h1⟩
      subst w1
      go_wp2_with fail
      refine HT.out.mono ?_
      rintro e w1 ⟨rfl, h1⟩
      subst w1
      go_wp2_with fail
      refine HU.out.mono ?_
      rintro e w1 ⟨rfl, h1⟩
      subst w1
      go_wp2_with fail
      go_ret2
      exact ⟨rfl, rfl⟩
    · have e1 : M.errAB a b = 150 := by unfold RM.errAB; rw [if_neg (fun h => hb h.2)]
      have e2 : M.sameA a b = false := by unfold RM.sameA; rw [if_neg (fun h => hb h.2)]
      have hb' : M.known b = false := by simpa using hb
      rw [hb'] at hkb
      rw [e1, e2]
      have HKA := Lib.hid hka
      have HKB := Lib.hid hkb
      clear hka hkb e1 e2 hX ha hb hb'
      go_enter Try.func50, Try.ntmps50
      go_wp2_with fail
      refine HKA.out.mono ?_
      rintro e w1 ⟨rfl, h1⟩
      subst w1
      go_wp2_with fail
      refine HKB.out.mono ?_
      rintro e w1 ⟨rfl, h1⟩
      subst w1
      go_wp2_with fail
      go_ret2
      exact ⟨rfl, rfl⟩
  · have e1 : M.errAB a b = 150 := by unfold RM.errAB; rw [if_neg (fun h => ha h.1)]
    have e2 : M.sameA a b = false := by unfold RM.sameA; rw [if_neg (fun h => ha h.1)]
    have ha' : M.known a = false := by simpa using ha
    rw [ha'] at hka
    rw [e1, e2]
    have HKA := Lib.hid hka
    clear hka hkb e1 e2 hX ha ha'
    go_enter Try.func50, Try.ntmps50
    go_wp2_with fail
    refine HKA.out.mono ?_
    rintro e w1 ⟨rfl, h1⟩
    subst w1
    go_wp2_with fail
    go_ret2
    exact ⟨rfl, rfl⟩

end Go.Proofs.Ytlakcldgolpaiaa
