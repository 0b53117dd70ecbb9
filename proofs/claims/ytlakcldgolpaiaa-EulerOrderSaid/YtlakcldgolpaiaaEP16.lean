/-
  The walks of Join and Cut.
-/
import Derived.Test.YtlakcldgolpaiaaEP15
namespace Go.Proofs.Ytlakcldgolpaiaa
open Go.RowKit
set_option linter.unusedVariables false

theorem joinE_bad {M : RM SV} {a b : Int} (h : ¬ (M.known a = true ∧ M.known b = true)) : M.joinE a b = 150 ∧ M.joinA a b = M ∧ M.errAB a b = 150 := by
  have h1 : M.joinE a b = 150 := by unfold RM.joinE; rw [if_neg h]
  refine ⟨h1, by unfold RM.joinA; rw [h1, if_neg (by omega)], by unfold RM.errAB; rw [if_neg h]⟩

set_option maxRecDepth 100000 in
set_option maxHeartbeats 2000000 in
theorem rJoin (w : World) (g : Nat) (S : Nat → Prop) (M : RM SV) (h : Rp w g S M) (a b : Int) :
    Calls Try.prog 67 #[.pointer (some ⟨g, 0, none⟩), .int .i64 a, .int .i64 b] w fun e w' => e = .returned (.int .i64 (M.joinE a b)) ∧ Turn w g S (M.joinA a b) w' := by
  have hs := rSame w g S M h a b
  by_cases hk : M.known a = true ∧ M.known b = true
  · have hab : M.errAB a b = 0 := by unfold RM.errAB; rw [if_pos hk]
    rw [hab] at hs
    obtain ⟨i, rfl, hi⟩ := known_nat hk.1
    obtain ⟨j, rfl, hj⟩ := known_nat hk.2
    by_cases he : M.rowOf i = M.rowOf j
    · have e1 : M.joinE (i : Int) (j : Int) = 151 := by unfold RM.joinE; rw [if_pos hk, if_pos (by simpa using he)]
      have e2 : M.joinA (i : Int) (j : Int) = M := by unfold RM.joinA; rw [e1, if_neg (by omega)]
      have e3 : M.sameA (i : Int) (j : Int) = true := by unfold RM.sameA; rw [if_pos hk]; simpa using he
      rw [e3] at hs
      rw [e1, e2]
      have HT : Hid (Turn w g S M w) := Lib.hid (turn_same h (Below.refl _ _))
      have HS := Lib.hid hs
      clear hs e1 e2 e3 hk hab he h hi hj
      go_enter Try.func67, Try.ntmps67
      go_wp2_with fail
      refine HS.out.mono ?_
      rintro e w1 ⟨rfl, h1⟩
      subst w1
      go_wp2_with fail
      go_ret
      exact ⟨rfl, HT.out⟩
    · have e1 : M.joinE (i : Int) (j : Int) = 0 := by unfold RM.joinE; rw [if_pos hk, if_neg (by simpa using he)]
      have e2 : M.joinA (i : Int) (j : Int) = M.join i j := by unfold RM.joinA; rw [e1, if_pos rfl]; simp
      have e3 : M.sameA (i : Int) (j : Int) = false := by unfold RM.sameA; rw [if_pos hk]; simpa using he
      rw [e3] at hs
      rw [e1, e2]
      obtain ⟨B, sv, nb, cap, N, ss, hX, hSS⟩ := h
      obtain ⟨t, t1, t2, t3, t4, t5, t6⟩ := topX hX hi
      obtain ⟨u, u1, u2, u3, u4, u5, u6⟩ := topX hX hj
      have hdis : (t.list ++ u.list).Nodup := by
        rw [t1, u1]
        have ri := row_mem hX.ok.ok hi
        have rj := row_mem hX.ok.ok hj
        exact List.nodup_append.2 ⟨row_nodup hX.ok.ok ri.1, row_nodup hX.ok.ok rj.1, fun x hx y hy e => row_apart hX.ok.ok ri.1 rj.1 he x hx (e ▸ hy)⟩
      have hm := merge_any (g := g) (B := B) (sv := sv) (nb := nb) (n := M.own.length + 1) (cap := cap) (by have := hX.few; omega) (by omega) _ w N t u (Nat.le_refl _) hX.mem t2 u2 hdis (fun k hk => by
        rcases List.mem_append.1 hk with hk | hk
        · exact t5 k hk
        · exact u5 k hk) hX.ok.zero
      have hm2 : Calls Try.prog 83 #[.pointer (some ⟨g, 0, none⟩), .int .i64 (t.root : Int), .int .i64 (u.root : Int)] w fun e w' => (∃ x : Nat, e = .returned (.int .i64 (x : Int))) ∧ Hid (Turn w g S (M.join i j) w') := by
        refine hm.mono ?_
        rintro e w' ⟨N', v, rfl, m1, m2, m3⟩
        refine ⟨⟨_, rfl⟩, Lib.hid (turn_of hX hSS rfl m1 m2 ?_)⟩
        refine rope_join hX.ok hi hj he ⟨v, by rw [m3.list, t1, u1], m3.laid, ?_⟩ m3.own (fun k hk => m3.far k (by rw [t1, u1]; exact hk))
        rw [m3.up]
        rcases m3.root with e | e
        · rw [e]; exact t3
        · rw [e]; exact u3
      have HS := Lib.hid hs
      have HT := Lib.hid (t6 w hX.mem)
      have HU := Lib.hid (u6 w hX.mem)
      have HM := Lib.hid hm2
      obtain ⟨x, hx⟩ : ∃ x, x = t.root := ⟨_, rfl⟩
      obtain ⟨y, hy⟩ : ∃ y, y = u.root := ⟨_, rfl⟩
      rw [← hx] at HT HM
      rw [← hy] at HU HM
      clear hs e1 e2 e3 hk hab he hi hj hX hSS t1 t2 t3 t4 t5 t6 u1 u2 u3 u4 u5 u6 hdis hm hm2 hx hy
      go_enter Try.func67, Try.ntmps67
      go_wp2_with fail
      refine HS.out.mono ?_
      rintro e w1 ⟨rfl, h1⟩
      subst w1
      go_wp2_with fail
      refine HT.out.mono ?_
      rintro e w1 ⟨rfl, h1⟩
      subst w1
      go_wp2_with fail
      refine HU.out.mono ?_
      rintro e w1 ⟨rfl, h1⟩
      subst w1
      go_wp2_with fail
      refine HM.out.mono ?_
      rintro e w1 ⟨⟨z, rfl⟩, H1⟩
      go_wp2_with fail
      go_ret
      exact ⟨rfl, H1.out⟩
  · obtain ⟨e1, e2, e3⟩ := joinE_bad hk
    have e4 : M.sameA a b = false := by unfold RM.sameA; rw [if_neg hk]
    rw [e3, e4] at hs
    rw [e1, e2]
    have HT : Hid (Turn w g S M w) := Lib.hid (turn_same h (Below.refl _ _))
    have HS := Lib.hid hs
    clear hs e1 e2 e3 e4 hk h
    go_enter Try.func67, Try.ntmps67
    go_wp2_with fail
    refine HS.out.mono ?_
    rintro e w1 ⟨rfl, h1⟩
    subst w1
    go_wp2_with fail
    go_ret
    exact ⟨rfl, HT.out⟩

theorem behind_cons (fs : List Up) (a : Nat) (ys : List Nat) : behind (a :: ys) fs = a :: behind ys fs := by
  rw [behind_app fs (a :: ys), behind_app fs ys]; rfl

set_option maxRecDepth 100000 in
set_option maxHeartbeats 2000000 in
theorem rCut (w : World) (g : Nat) (S : Nat → Prop) (M : RM SV) (h : Rp w g S M) (a : Int) :
    Calls Try.prog 66 #[.pointer (some ⟨g, 0, none⟩), .int .i64 a] w fun e w' => e = .returned (.int .i64 (M.errA a)) ∧ Turn w g S (M.cutA a) w' := by
  have h0 := h
  obtain ⟨B, sv, nb, cap, N, ss, hX, hSS⟩ := h
  have hka := knownX w g sv nb cap M hX.mem.blk a
  by_cases ha : M.known a = true
  · rw [ha] at hka
    obtain ⟨i, rfl, hi⟩ := known_nat ha
    have e1 : M.errA (i : Int) = 0 := by unfold RM.errA; rw [if_pos ha]
    have e2 : M.cutA (i : Int) = M.cut i := by unfold RM.cutA; rw [if_pos ha, Int.toNat_natCast]
    rw [e1, e2]
    obtain ⟨t, l, r, fs, k1, k2, k3, k4, k5, k6, k7, k8, k9, k10, k11, k12, k13⟩ := hX.at_ hi
    have hsp := split_any w g B sv nb (M.own.length + 1) cap N hX.mem (by have := hX.few; omega) (by omega) l r i fs k5 k6 k7 (by simpa using k11) (fun j hj => k12 j (by simpa using hj)) hX.ok.zero
    have hs2 : Calls Try.prog 82 #[.pointer (some ⟨g, 0, none⟩), .int .i64 (i : Int)] w fun e w' => e = .returned (.tuple #[]) ∧ Hid (Turn w g S (M.cut i) w') := by
      refine hsp.mono ?_
      rintro e w' ⟨rfl, c, ta, tr, N', m1, m2, m3, m4, m5⟩
      refine ⟨rfl, Lib.hid (turn_of hX hSS rfl m1 m2 ?_)⟩
      obtain ⟨s1, s2, s3, s4, s5, s6, s7⟩ := split_end m3
      rw [behind_cons] at m5
      refine rope_cut hX.ok hi (P := before l.list fs) (Q := behind r.list fs) k8.symm (fun hP => ⟨ta, m4, s1, s3⟩) ⟨tr, m5, s2, s4⟩ s5 (s6.trans hX.ok.zero) (fun j hj hj2 => s7 j hj ?_)
      rw [m4, m5, k8]
      exact hj2
    have HKA := Lib.hid hka
    have HS := Lib.hid hs2
    clear hka e1 e2 ha hX hSS k1 k2 k3 k4 k5 k6 k7 k8 k9 k10 k11 k12 k13 hsp hs2 h0
    go_enter Try.func66, Try.ntmps66
    go_wp2_with fail
    refine HKA.out.mono ?_
    rintro e w1 ⟨rfl, h1⟩
    subst w1
    go_wp2_with fail
    refine HS.out.mono ?_
    rintro e w1 ⟨rfl, H1⟩
    go_wp2_with fail
    go_ret
    exact ⟨rfl, H1.out⟩
  · have e1 : M.errA a = 150 := by unfold RM.errA; rw [if_neg ha]
    have e2 : M.cutA a = M := by unfold RM.cutA; rw [if_neg ha]
    have ha' : M.known a = false := by simpa using ha
    rw [ha'] at hka
    rw [e1, e2]
    have HKA := Lib.hid hka
    have HT : Hid (Turn w g S M w) := Lib.hid (turn_same h0 (Below.refl _ _))
    clear hka e1 e2 ha ha' hX hSS h0
    go_enter Try.func66, Try.ntmps66
    go_wp2_with fail
    refine HKA.out.mono ?_
    rintro e w1 ⟨rfl, h1⟩
    subst w1
    go_wp2_with fail
    go_ret
    exact ⟨rfl, HT.out⟩

end Go.Proofs.Ytlakcldgolpaiaa
