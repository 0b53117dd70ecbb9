/-
  The walk of Set.
-/
import Derived.Test.YtlakcldgolpaiaaEP18
namespace Go.Proofs.Ytlakcldgolpaiaa
open Go.RowKit
set_option linter.unusedVariables false

/-- What Set's loop keeps: at node c, or done. -/
inductive StI (N : Nodes SV) (row : List Nat) (own' : Nat → SV) (n : Nat) (N' : Nodes SV) : Nat → Nat → Prop
  | at_ (c : Nat) (fs : List Up) (l r : Tr) (h : SetSt N N' own' c fs l r) (lt : ∀ j ∈ l.list ++ c :: r.list ++ around fs, j < n) (hr : before [] fs ++ (l.list ++ c :: r.list) ++ behind [] fs = row) : StI N row own' n N' (fs.length + 1) c
  | done (hs : Stands N' row) (ho : ∀ j, (N' j).own = own' j) (hz : (N' 0).size = 0) (hf : ∀ j, j ∉ row → N' j = N j) : StI N row own' n N' 0 0

theorem frame_row (d : Bool) (p : Nat) (s : Tr) (fs : List Up) (l r : Tr) (c : Nat) :
    before [] fs ++ ((if d = true then s else .node l c r).list ++ p :: (if d = true then .node l c r else s).list) ++ behind [] fs = before [] (⟨d, p, s⟩ :: fs) ++ (l.list ++ c :: r.list) ++ behind [] (⟨d, p, s⟩ :: fs) := by
  cases d
  · simp only [before, behind, Tr.list, Bool.false_eq_true, if_false]
    rw [behind_app fs ([] ++ p :: s.list)]
    simp
  · simp only [before, behind, Tr.list, if_true]
    rw [before_app fs (s.list ++ p :: [])]
    simp

theorem st_far {N N' : Nodes SV} {own' : Nat → SV} {c : Nat} {l r : Tr} (h : SetSt N N' own' c [] l r) {j : Nat} (hj : j ∉ l.list ++ c :: r.list) : retell N' c j = N j := by
  rw [retell_ne N' (fun e => hj (by simp [e]))]
  exact h.far j hj

/-- One round: tell at c, then up. -/
theorem st_step {N N' : Nodes SV} {row : List Nat} {own' : Nat → SV} {n k c : Nat} (h0 : (N 0).size = 0) (h : StI N row own' n N' k c) (hc : c ≠ 0) : ∃ k', k' < k ∧ StI N row own' n (retell N' c) k' (N' c).up := by
  cases h with
  | done => exact absurd rfl hc
  | at_ _ fs l r h lt hr =>
    have hup := h.up
    cases fs with
    | nil =>
      rw [hup]
      have hl := set_laid h h0
      have hr' : (Tr.node l c r).list = row := by simpa [before, behind, Tr.list] using hr
      refine ⟨0, by simp, .done ⟨_, hr', hl, ?_⟩ (fun j => (retell_own N' c j).1.trans (h.own j)) ?_ (fun j hj => st_far h (by rw [← hr'] at hj; exact hj))⟩
      · show (retell N' c c).up = 0
        rw [(retell_own N' c c).2.2.1]; exact hup
      · have hcp := h.pos c (by simp)
        rw [retell_ne N' (by omega), h.zero]; exact h0
    | cons f fs =>
      obtain ⟨d, p, s⟩ := f
      rw [hup]
      have hs := set_up h h0
      refine ⟨fs.length + 1, by simp, .at_ p fs _ _ hs ?_ ?_⟩
      · intro j hj
        refine lt j ?_
        cases d
        · simp only [Bool.false_eq_true, if_false, Tr.list, around, List.mem_append, List.mem_cons] at hj ⊢
          rcases hj with ((hj | hj | hj) | hj | hj) | hj <;> simp [hj]
        · simp only [if_true, Tr.list, around, List.mem_append, List.mem_cons] at hj ⊢
          rcases hj with (hj | hj | hj | hj | hj) | hj <;> simp [hj]
      · rw [frame_row]; exact hr

set_option maxRecDepth 100000 in
set_option maxHeartbeats 2000000 in
theorem rSet (w : World) (g : Nat) (S : Nat → Prop) (M : RM SV) (h : Rp w g S M) (a : Int) (v : SV) :
    Calls Try.prog 51 #[.pointer (some ⟨g, 0, none⟩), .int .i64 a, v.v] w fun e w' => e = .returned (.int .i64 (M.errA a)) ∧ Turn w g S (M.setA a v) w' := by
  have h0 := h
  obtain ⟨B, sv, nb, cap, N, ss, hX, hSS⟩ := h
  obtain ⟨W, hW⟩ : ∃ W, W = w.alloc (.cells #[.int .i64 v.n, .int .i64 v.m, .int .i64 v.e] 68) := ⟨_, rfl⟩
  have hbW : Below w.heap.size w W := by rw [hW]; exact (Below.refl _ _).alloc (Nat.le_refl _) _
  have hkW : Blk W w.heap.size 68 #[.int .i64 v.n, .int .i64 v.m, .int .i64 v.e] := by rw [hW]; exact Blk.new _ _ _
  have hXW := hX.below hbW
  have hka := knownX W g sv nb cap M hXW.mem.blk a
  by_cases ha : M.known a = true
  · rw [ha] at hka
    obtain ⟨i, rfl, hi⟩ := known_nat ha
    have e1 : M.errA (i : Int) = 0 := by unfold RM.errA; rw [if_pos ha]
    have e2 : M.setA (i : Int) v = M.set i v := by unfold RM.setA; rw [if_pos ha, Int.toNat_natCast]
    rw [e1, e2]
    obtain ⟨t, l, r, fs, k1, k2, k3, k4, k5, k6, k7, k8, k9, k10, k11, k12, k13⟩ := hX.at_ hi
    obtain ⟨n, hn⟩ : ∃ n, n = M.own.length + 1 := ⟨_, rfl⟩
    have hmem : Mem W g B sv nb n cap N := by rw [hn]; exact hXW.mem
    rw [← hn] at k12
    have hin : i < n := by omega
    have hn2 : n ≤ 65537 := by have := hX.few; omega
    have hst : StI N (M.rowOf i) (fun j => if j = i then v else (N j).own) n (upd N i { N i with own := v }) (fs.length + 1) i :=
      .at_ i fs l r (set_start k5 k6 k7 k11 (fun j hj => (k12 j hj).1)) (fun j hj => (k12 j hj).2) (by rw [← k8, before_app fs l.list, behind_app fs r.list]; simp)
    have hfin : ∀ w' N', Mem w' g B sv nb n cap N' → Mod (fun k => k = nb) w w' → StI N (M.rowOf i) (fun j => if j = i then v else (N j).own) n N' 0 0 → Turn w g S (M.set i v) w' := by
      intro w' N' hm hmd hs
      cases hs with
      | done hs ho hz hf => exact turn_of hX hSS (by simp [RM.set]) (by rw [← hn]; exact hm) hmd (rope_set hX.ok hi v hs ho hz hf)
    have HFIN := Lib.hid hfin
    have HST := Lib.hid hst
    have HKA := Lib.hid hka
    have HW := Lib.hid hW
    have HM := Lib.hid hmem
    have H0 := Lib.hid hX.ok.zero
    have b1 : W.cell? ⟨g, 1, none⟩ = _ := hmem.blk.cell 1
    have p0 : W.cell? ⟨w.heap.size, 0, none⟩ = _ := hkW.cell 0
    have p1 : W.cell? ⟨w.heap.size, 1, none⟩ = _ := hkW.cell 1
    have p2 : W.cell? ⟨w.heap.size, 2, none⟩ = _ := hkW.cell 2
    have f0 := hmem.frozen (i * 11)
    have f1 := hmem.frozen (i * 11 + 1)
    have f2 := hmem.frozen (i * 11 + 2)
    obtain ⟨o0, o1, o1x, -⟩ := hmem.cells hin
    have hin2 : (i : Int) < (n : Int) := by omega
    have HBW := Lib.hid hbW
    clear hka ha hi hX hXW hSS e1 e2 k1 k2 k3 k4 k5 k6 k7 k8 k9 k10 k11 k12 k13 hmem hst hfin hn h0 hbW hkW hW
    unfold SV.v
    go_enter Try.func51, Try.ntmps51
    go_wp2_with fail
    rw [← HW.out]
    refine HKA.out.mono ?_
    rintro e w1 ⟨rfl, h1⟩
    subst w1
    go_wp2_with fail
    go_region
    obtain ⟨w2, hw2⟩ : ∃ w2, w2 = (((W.setCell ⟨nb, i * 11, none⟩ (.int .i64 v.n)).setCell ⟨nb, i * 11 + 1, none⟩ (.int .i64 v.m)).setCell ⟨nb, i * 11 + 2, none⟩ (.int .i64 v.e)).drew := ⟨_, rfl⟩
    rw [← hw2]
    obtain ⟨HM2, HW2⟩ : Hid (Mem w2 g B sv nb n cap (upd N i { N i with own := v })) ∧ Hid (Mod (fun k => k = nb) w w2) := by
      have h1 := HM.out.store (W := w) hin 0 (by omega) { N i with own := ⟨v.n, (N i).own.m, (N i).own.e⟩ } (.int .i64 v.n) (by simp [encNd]) (Mod.of_below HBW.out _)
      have h2 := h1.1.store (W := w) hin 1 (by omega) { N i with own := ⟨v.n, v.m, (N i).own.e⟩ } (.int .i64 v.m) (by rw [upd_self]; simp [encNd]) h1.2
      rw [upd_upd] at h2
      have h3 := h2.1.store (W := w) hin 2 (by omega) { N i with own := v } (.int .i64 v.e) (by rw [upd_self]; simp [encNd]) h2.2
      rw [upd_upd] at h3
      rw [hw2]
      exact ⟨Lib.hid h3.1.drew, Lib.hid h3.2.drew⟩
    clear hw2 b1 p0 p1 p2 f0 f1 f2 o0 o1 o1x HM HKA
    go_wp2_with fail
    go_loopg [1] (fs.length + 1) (fun k s1 wr => ∃ (c : Nat) (N' : Nodes SV), s1 = .int .i64 (c : Int) ∧ Hid (StI N (M.rowOf i) (fun j => if j = i then v else (N j).own) n N' k c) ∧ Hid (Mem wr g B sv nb n cap N') ∧ Hid (Mod (fun k => k = nb) w wr))
    case atStart => exact ⟨i, _, rfl, HST, HM2, HW2⟩
    case round =>
      obtain ⟨c, N', rfl, HI, HMR, HWR⟩ := hrel
      by_cases hc : c = 0
      · have HT : Hid (Turn w g S (M.set i v) wr) := Lib.hid (by
          subst hc
          have hi := HI.out
          cases hi with
          | at_ _ fs l r h lt hr => have := h.pos 0 (by simp); omega
          | done hs ho hz hf => exact HFIN.out wr N' HMR.out HWR.out (.done hs ho hz hf))
        subst hc
        go_wp2_with fail
        go_ret
        exact ⟨rfl, HT.out⟩
      · have hd0 : ((c : Int) != 0) = true := by simp; omega
        obtain ⟨k', hk', hst⟩ := st_step H0.out HI.out hc
        obtain ⟨u, hu⟩ : ∃ u, u = (N' c).up := ⟨_, rfl⟩
        have hcall : Calls Try.prog 72 #[.pointer (some ⟨g, 0, none⟩), .int .i64 (c : Int)] wr (fun e w' => e = .returned (.tuple #[]) ∧ w'.cell? ⟨g, 1, none⟩ = some (.slice (some ⟨nb, 0, none⟩) n cap) ∧ w'.cell? ⟨nb, c * 11 + 8, none⟩ = some (.int .i64 (u : Int)) ∧ Hid (Mem w' g B sv nb n cap (retell N' c) ∧ Mod (fun k => k = nb) w w')) ∧ c < n := by
          have hi := HI.out
          cases hi with
          | done => exact absurd rfl hc
          | at_ _ fs l r h lt hr =>
            have hcn : c < n := lt c (by simp)
            have hcp := h.pos c (by simp)
            obtain ⟨q1, q2, q3, q4, q5, q6⟩ := h.half
            have hz : (N' 0).size = 0 := by rw [h.zero]; exact H0.out
            have hnd := List.nodup_append.1 (List.nodup_append.1 h.nd).1
            have hln : ∀ j ∈ l.list, j < n := fun j hj => lt j (by simp [hj])
            have hrn : ∀ j ∈ r.list, j < n := fun j hj => lt j (by simp [hj])
            have hlen := len_le (List.nodup_append.1 h.nd).1 (fun j hj => lt j (List.mem_append_left _ hj))
            simp only [List.length_append, List.length_cons] at hlen
            have := tell_any wr g B sv nb n cap N' HMR.out hn2 c hcn (by rw [q1]; exact root_lt (by omega) hln) (by rw [q2]; exact root_lt (by omega) hrn) (by rw [q1]; exact (root_ne hcp fun hj => hnd.2.2 c hj c (by simp) rfl).symm) (by rw [q2]; exact (root_ne hcp (List.nodup_cons.1 hnd.2.1).1).symm) (by rw [q1, q2, size_root q5 hz, size_root q6 hz]; omega)
            refine ⟨this.mono ?_, hcn⟩
            rintro e w' ⟨rfl, m1, m2⟩
            refine ⟨rfl, m1.blk.cell 1, ?_, Lib.hid ⟨m1, HWR.out.trans' m2⟩⟩
            have := (m1.cells hcn).2.2.2.2.2.2.2.2.1
            rw [(retell_own N' c c).2.2.1, ← hu] at this
            exact this
        have HCALL := Lib.hid hcall.1
        have hcn := hcall.2
        have hcn2 : (c : Int) < (n : Int) := by omega
        have HS := Lib.hid hst
        rw [← hu] at HS
        clear hcall hst hu
        go_wp2_with fail
        refine HCALL.out.mono ?_
        rintro e w5 ⟨rfl, b5, u5, H5⟩
        go_wp2_with fail
        go_roundg k'
        case measure => exact hk'
        case rel => exact ⟨u, _, rfl, HS, Lib.hid H5.out.1, Lib.hid H5.out.2⟩
  · have e1 : M.errA a = 150 := by unfold RM.errA; rw [if_neg ha]
    have e2 : M.setA a v = M := by unfold RM.setA; rw [if_neg ha]
    have ha' : M.known a = false := by simpa using ha
    rw [ha'] at hka
    rw [e1, e2]
    have HKA := Lib.hid hka
    have HT : Hid (Turn w g S M W) := Lib.hid (turn_same h0 hbW)
    have HW := Lib.hid hW
    clear hka e1 e2 ha ha' hX hXW hSS h0 hbW hkW hW
    unfold SV.v
    go_enter Try.func51, Try.ntmps51
    go_wp2_with fail
    rw [← HW.out]
    refine HKA.out.mono ?_
    rintro e w1 ⟨rfl, h1⟩
    subst w1
    go_wp2_with fail
    go_ret
    exact ⟨rfl, HT.out⟩

end Go.Proofs.Ytlakcldgolpaiaa
