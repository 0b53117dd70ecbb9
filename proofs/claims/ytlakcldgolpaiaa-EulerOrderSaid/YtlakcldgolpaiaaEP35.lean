/-
  The walk of At: down from the top by goto.
-/
import Derived.Test.YtlakcldgolpaiaaEP24
import Derived.WalkMore
import Derived.ScopeJumps
namespace Go.Proofs.Ytlakcldgolpaiaa
open Go.RowKit
set_option linter.unusedVariables false

/-- What is known on the way down: the i-th of u's nodes is the answer. -/
structure AtI (N : Nodes SV) (n : Nat) (R : Nat) (u : Tr) (c i : Nat) : Prop where
  laid : Laid N u
  ne : u ≠ .nil
  root : c = u.root
  lt : i < u.list.length
  res : u.list[i]? = some R
  known : ∀ j ∈ u.list, 0 < j ∧ j < n
  zero : (N 0).size = 0
  few : u.list.length ≤ 65536

theorem AtI.parts {N : Nodes SV} {n R c i : Nat} {u : Tr} (h : AtI N n R u c i) : ∃ l r, (N c).left = l.root ∧ (N c).right = r.root ∧ l.root < n ∧ r.root < n ∧ c < n ∧ (N l.root).size = l.list.length ∧ (N l.root).size < (N c).size ∧ (N r.root).size < (N c).size ∧ (i < 65536 ∧ l.list.length < 65536) ∧
    (i < l.list.length → AtI N n R l l.root i) ∧ (l.list.length < i → AtI N n R r r.root (i - (l.list.length + 1))) ∧ (i = l.list.length → R = c) := by
  obtain ⟨laid, ne, root, lt, res, known, zero, few⟩ := h
  cases u with
  | nil => exact absurd rfl ne
  | node l a r =>
    have hc : c = a := root
    subst hc
    have hsz := laid.size (by simp)
    have hl := laid.1
    have hr := laid.2.1
    have hkl : ∀ j ∈ l.list, 0 < j ∧ j < n := fun j hj => known j (by simp [Tr.list, hj])
    have hkr : ∀ j ∈ r.list, 0 < j ∧ j < n := fun j hj => known j (by simp [Tr.list, hj])
    have hc := known c (by simp [Tr.list])
    have rootlt : ∀ t : Tr, (∀ j ∈ t.list, 0 < j ∧ j < n) → t.root < n := by
      intro t ht
      by_cases e : t = .nil
      · rw [e]; show 0 < n; omega
      · exact (ht _ (Tr.root_mem e)).2
    have lsz : (N l.root).size = l.list.length := by
      by_cases e : l = .nil
      · rw [e]; exact zero
      · exact laid.2.2.2.2.1.size e
    have rsz : (N r.root).size = r.list.length := by
      by_cases e : r = .nil
      · rw [e]; exact zero
      · exact laid.2.2.2.2.2.1.size e
    have hlist : (Tr.node l c r).list = l.list ++ c :: r.list := rfl
    rw [hlist] at lt res few
    rw [show (Tr.node l c r).root = c from rfl, hlist, List.length_append, List.length_cons] at hsz
    have few2 := few
    rw [List.length_append, List.length_cons] at few2 lt
    refine ⟨l, r, hl, hr, rootlt l hkl, rootlt r hkr, hc.2, lsz, by omega, by omega, by omega, fun hi => ?_, fun hi => ?_, fun hi => ?_⟩
    · refine ⟨laid.2.2.2.2.1, fun e => ?_, rfl, hi, ?_, hkl, zero, by omega⟩
      · subst e; simp [Tr.list] at hi
      · rwa [List.getElem?_append_left hi] at res
    · have hlt : i - (l.list.length + 1) < r.list.length := by omega
      refine ⟨laid.2.2.2.2.2.1, fun e => ?_, rfl, hlt, ?_, hkr, zero, by omega⟩
      · subst e; simp [Tr.list] at hlt
      · rw [List.getElem?_append_right (by omega), show i - l.list.length = (i - (l.list.length + 1)) + 1 by omega, List.getElem?_cons_succ] at res
        exact res
    · subst hi
      rw [List.getElem?_append_right (Nat.le_refl _), Nat.sub_self, List.getElem?_cons_zero] at res
      injection res with res
      exact res.symm

def DownJ (N : Nodes SV) (n g R : Nat) (w : World) (a : Act) (w' : World) : Prop :=
  ∃ (c i : Nat) (u3 u4 u5 u6 u7 u8 u9 u10 u11 u12 u13 u14 u15 u16 u17 u18 u19 u20 u21 u22 u23 u24 u25 u26 u27 u28 u29 u30 u31 u32 u33 u34 u35 u36 u37 u38 u39 u40 u41 u42 u43 u44 u45 u46 u47 u48 u49 u50 u51 u52 u53 u54 u55 u56 u57 u58 u59 u60 u61 u62 u63 u64 u65 u66 u67 u68 u69 u70 u71 : Value), a = { tmps := #[.pointer (some ⟨g, 0, none⟩), .int .i64 (c : Int), .int .i64 (i : Int), u3, u4, u5, u6, u7, u8, u9, u10, u11, u12, u13, u14, u15, u16, u17, u18, u19, u20, u21, u22, u23, u24, u25, u26, u27, u28, u29, u30, u31, u32, u33, u34, u35, u36, u37, u38, u39, u40, u41, u42, u43, u44, u45, u46, u47, u48, u49, u50, u51, u52, u53, u54, u55, u56, u57, u58, u59, u60, u61, u62, u63, u64, u65, u66, u67, u68, u69, u70, u71], defers := [] } ∧ (∃ u, AtI N n R u c i) ∧ Hid (Below w.heap.size w w')

def downM (N : Nodes SV) (a : Act) (_ : World) : Nat := (N (intOf (a.tmps.getD 1 undef)).toNat).size

theorem rowRoot {w : World} {g B : Nat} {sv : Value} {nb cap : Nat} {N : Nodes SV} {ss : List Int} {M : RM SV} (h : RpX w g B sv nb cap N ss M) {i : Nat} (hi : 1 ≤ i ∧ i ≤ M.own.length) {t : Tr} (t1 : t.list = M.rowOf i) (t2 : Laid N t) (t4 : t ≠ .nil) (t5 : ∀ j ∈ t.list, 0 < j ∧ j < M.own.length + 1) :
    t.root < M.own.length + 1 ∧ (N t.root).size = (M.rowOf i).length ∧ (M.rowOf i).length ≤ 65536 :=
  ⟨(t5 _ (Tr.root_mem t4)).2, by rw [t2.size t4, t1], Nat.le_trans (row_len h.ok.ok (row_mem h.ok.ok hi).1) h.few⟩

set_option maxRecDepth 100000 in
set_option maxHeartbeats 4000000 in
theorem rAt (w : World) (g : Nat) (S : Nat → Prop) (M : RM SV) (h : Rp w g S M) (a i : Int) :
    Calls Try.prog 80 #[.pointer (some ⟨g, 0, none⟩), .int .i64 a, .int .i64 i] w fun e w' => e = .returned (.tuple #[.int .i64 (M.atA a i), .int .i64 (M.atE a i)]) ∧ Below w.heap.size w w' := by
  obtain ⟨B, sv, nb, cap, N, ss, hX, hSS⟩ := h
  have hka := knownX w g sv nb cap M hX.mem.blk a
  by_cases ha : M.known a = true
  · rw [ha] at hka
    obtain ⟨p, rfl, hp⟩ := known_nat ha
    obtain ⟨t, t1, t2, t3, t4, t5, t6⟩ := topX hX hp
    obtain ⟨r1, r2, r3⟩ := rowRoot hX hp t1 t2 t4 t5
    have HT := Lib.hid (t6 w hX.mem)
    have HKA := Lib.hid hka
    obtain ⟨x, hx⟩ : ∃ x, x = t.root := ⟨_, rfl⟩
    rw [← hx] at HT r1 r2
    obtain ⟨k, hk⟩ : ∃ k, k = (M.rowOf p).length := ⟨_, rfl⟩
    rw [← hk] at r2 r3
    have b1 : w.cell? ⟨g, 1, none⟩ = _ := hX.mem.blk.cell 1
    have s1 := (hX.mem.cells r1).2.2.2.2.2.2.1
    rw [r2] at s1
    by_cases hin : 0 ≤ i ∧ i < (k : Int)
    · obtain ⟨q, rfl⟩ : ∃ q : Nat, i = (q : Int) := ⟨i.toNat, by omega⟩
      have hqk : q < (M.rowOf p).length := by omega
      obtain ⟨R, hR⟩ : ∃ R, R = (M.rowOf p)[q] := ⟨_, rfl⟩
      have e1 : M.atA (p : Int) (q : Int) = (R : Int) := by
        unfold RM.atA
        rw [Int.toNat_natCast, if_pos ⟨ha, by omega, by omega⟩, Int.toNat_natCast, List.getElem?_eq_getElem hqk, hR]
        rfl
      have e2 : M.atE (p : Int) (q : Int) = 0 := by
        unfold RM.atE
        rw [if_pos ha, Int.toNat_natCast, if_pos ⟨by omega, by omega⟩]
      rw [e1, e2]
      have HAT : Hid (∃ u, AtI N (M.own.length + 1) R u x q) := Lib.hid ⟨t, t2, t4, hx, by rw [t1]; exact hqk, by rw [t1, List.getElem?_eq_getElem hqk, hR], t5, hX.ok.zero, by rw [t1]; omega⟩
      have d1 : decide ((q : Int) < 0) = false := by simp
      have d2 : decide ((k : Int) ≤ (q : Int)) = false := by simp; omega
      have d3 : decide (k ≤ q) = false := by simp; omega
      have hr1 : (x : Int) < (M.own.length : Int) + 1 := by omega
      have HX := Lib.hid hX
      have HB0 : Hid (Below w.heap.size w w) := Lib.hid (Below.refl _ _)
      clear hka ha hp hX hSS t1 t2 t3 t4 t5 t6 hx hk hR hin hqk e1 e2 r2
      go_enter Try.func80, Try.ntmps80
      go_wp2_with fail
      refine wp_scope_jumps 0 (DownJ N (M.own.length + 1) g R w) (downM N) rfl ?_ ?_
      ·
        go_wp2_with fail
        refine HKA.out.mono ?_
        rintro e w1 ⟨rfl, h1⟩
        subst w1
        go_wp2_with fail
        refine HT.out.mono ?_
        rintro e w1 ⟨rfl, h1⟩
        subst w1
        go_wp2_with fail
        obtain ⟨u, hu⟩ := HAT.out
        clear HT HKA b1 s1 hr1 d1 d2 d3
        obtain ⟨l, r, hl, hr, hlr, hrr, hc, hls, hm1, hm2, hbd, hL, hR, hE⟩ := hu.parts
        have HM := HX.out.mem.below HB0.out
        have b1 : w.cell? ⟨g, 1, none⟩ = _ := HM.blk.cell 1
        obtain ⟨-, -, -, -, -, -, -, -, -, l7, r8⟩ := HM.cells hc
        obtain ⟨-, -, -, -, -, -, s4, -, -, -, -⟩ := HM.cells hlr
        rw [hls] at s4
        rw [hl] at l7
        rw [hr] at r8
        obtain ⟨lr, hlr2⟩ : ∃ z, z = l.root := ⟨_, rfl⟩
        obtain ⟨rr, hrr2⟩ : ∃ z, z = r.root := ⟨_, rfl⟩
        obtain ⟨ll, hll⟩ : ∃ z, z = l.list.length := ⟨_, rfl⟩
        rw [← hlr2] at hlr s4 l7 hm1 hL
        rw [← hrr2] at hrr r8 hm2 hR
        rw [← hll] at s4 hL hR hE hbd
        obtain ⟨hq1, hq2⟩ := hbd
        have hc2 : (x : Int) < (M.own.length : Int) + 1 := by omega
        have hlr3 : (lr : Int) < (M.own.length : Int) + 1 := by omega
        have HL := Lib.hid hL
        have HR := Lib.hid hR
        have HE := Lib.hid hE
        have HM1 := Lib.hid hm1
        have HM2 := Lib.hid hm2
        clear hu hl hr hls hm1 hm2 hL hR hE HM hlr2 hrr2 hll
        rcases Nat.lt_trichotomy q ll with hcmp | hcmp | hcmp
        · have d7 : decide ((q : Int) < (ll : Int)) = true := by simp; omega
          have d8 : decide (q < ll) = true := by simpa using hcmp
          go_wp2_with fail
          apply wp_label
          go_wp2_with fail
          go_quiet (fail)
          go_wp2_with fail
          apply wp_goto
          exact ⟨rfl, lr, q, _, _, _, _, _, _, _, _, _, _, _, _, _, _, _, _, _, _, _, _, _, _, _, _, _, _, _, _, _, _, _, _, _, _, _, _, _, _, _, _, _, _, _, _, _, _, _, _, _, _, _, _, _, _, _, _, _, _, _, _, _, _, _, _, _, _, _, _, _, rfl, ⟨_, HL.out hcmp⟩, by first | exact HB0 | exact Lib.hid (below_drewN HB0.out _)⟩
        · have d7 : decide ((q : Int) < (ll : Int)) = false := by simp; omega
          have d8 : decide (q < ll) = false := by simp; omega
          have d9 : decide ((ll : Int) < (q : Int)) = false := by simp; omega
          have d10 : decide (ll < q) = false := by simp; omega
          have hRc := HE.out hcmp
          subst hRc
          go_wp2_with fail
          apply wp_label
          go_wp2_with fail
          go_quiet (fail)
          go_wp2_with fail
          simp only [Exit.jump]
          go_ret2
          exact ⟨rfl, by first | exact HB0.out | exact below_drewN HB0.out _⟩
        · have d7 : decide ((q : Int) < (ll : Int)) = false := by simp; omega
          have d8 : decide (q < ll) = false := by simp; omega
          have d9 : decide ((ll : Int) < (q : Int)) = true := by simp; omega
          have d10 : decide (ll < q) = true := by simpa using hcmp
          have hsub : (q : Int) - ((ll : Int) + 1) = ((q - (ll + 1) : Nat) : Int) := by omega
          have HSUB := Lib.hid hsub
          clear hsub
          go_wp2_with fail
          apply wp_label
          go_wp2_with fail
          go_quiet (fail)
          go_wp2_with fail
          rw [HSUB.out]
          apply wp_goto
          exact ⟨rfl, rr, q - (ll + 1), _, _, _, _, _, _, _, _, _, _, _, _, _, _, _, _, _, _, _, _, _, _, _, _, _, _, _, _, _, _, _, _, _, _, _, _, _, _, _, _, _, _, _, _, _, _, _, _, _, _, _, _, _, _, _, _, _, _, _, _, _, _, _, _, _, _, _, _, _, rfl, ⟨_, HR.out hcmp⟩, by first | exact HB0 | exact Lib.hid (below_drewN HB0.out _)⟩
      · clear HT HKA b1 s1 HAT d1 d2 d3 hr1
        rintro a' wr ⟨c, q, u3, u4, u5, u6, u7, u8, u9, u10, u11, u12, u13, u14, u15, u16, u17, u18, u19, u20, u21, u22, u23, u24, u25, u26, u27, u28, u29, u30, u31, u32, u33, u34, u35, u36, u37, u38, u39, u40, u41, u42, u43, u44, u45, u46, u47, u48, u49, u50, u51, u52, u53, u54, u55, u56, u57, u58, u59, u60, u61, u62, u63, u64, u65, u66, u67, u68, u69, u70, u71, rfl, ⟨u, hu⟩, HB⟩
        obtain ⟨l, r, hl, hr, hlr, hrr, hc, hls, hm1, hm2, hbd, hL, hR, hE⟩ := hu.parts
        have HM := HX.out.mem.below HB.out
        have b1 : wr.cell? ⟨g, 1, none⟩ = _ := HM.blk.cell 1
        obtain ⟨-, -, -, -, -, -, -, -, -, l7, r8⟩ := HM.cells hc
        obtain ⟨-, -, -, -, -, -, s4, -, -, -, -⟩ := HM.cells hlr
        rw [hls] at s4
        rw [hl] at l7
        rw [hr] at r8
        obtain ⟨lr, hlr2⟩ : ∃ z, z = l.root := ⟨_, rfl⟩
        obtain ⟨rr, hrr2⟩ : ∃ z, z = r.root := ⟨_, rfl⟩
        obtain ⟨ll, hll⟩ : ∃ z, z = l.list.length := ⟨_, rfl⟩
        rw [← hlr2] at hlr s4 l7 hm1 hL
        rw [← hrr2] at hrr r8 hm2 hR
        rw [← hll] at s4 hL hR hE hbd
        obtain ⟨hq1, hq2⟩ := hbd
        have hc2 : (c : Int) < (M.own.length : Int) + 1 := by omega
        have hlr3 : (lr : Int) < (M.own.length : Int) + 1 := by omega
        have HL := Lib.hid hL
        have HR := Lib.hid hR
        have HE := Lib.hid hE
        have HM1 := Lib.hid hm1
        have HM2 := Lib.hid hm2
        clear hu hl hr hls hm1 hm2 hL hR hE HM hlr2 hrr2 hll
        rcases Nat.lt_trichotomy q ll with hcmp | hcmp | hcmp
        · have d7 : decide ((q : Int) < (ll : Int)) = true := by simp; omega
          have d8 : decide (q < ll) = true := by simpa using hcmp
          go_wp2_with fail
          go_quiet (fail)
          go_wp2_with fail
          apply wp_goto
          refine ⟨rfl, ⟨lr, q, _, _, _, _, _, _, _, _, _, _, _, _, _, _, _, _, _, _, _, _, _, _, _, _, _, _, _, _, _, _, _, _, _, _, _, _, _, _, _, _, _, _, _, _, _, _, _, _, _, _, _, _, _, _, _, _, _, _, _, _, _, _, _, _, _, _, _, _, _, rfl, ⟨_, HL.out hcmp⟩, by first | exact HB | exact Lib.hid (below_drewN HB.out _)⟩, ?_⟩
          simp only [downM, intOf, Array.getD_eq_getD_getElem?, List.getElem?_toArray, List.getElem?_cons_succ, List.getElem?_cons_zero, Option.getD_some, Int.toNat_natCast]
          exact HM1.out
        · have d7 : decide ((q : Int) < (ll : Int)) = false := by simp; omega
          have d8 : decide (q < ll) = false := by simp; omega
          have d9 : decide ((ll : Int) < (q : Int)) = false := by simp; omega
          have d10 : decide (ll < q) = false := by simp; omega
          have hRc := HE.out hcmp
          subst hRc
          go_wp2_with fail
          go_quiet (fail)
          go_wp2_with fail
          simp only [Exit.jump]
          go_ret2
          exact ⟨rfl, by first | exact HB.out | exact below_drewN HB.out _⟩
        · have d7 : decide ((q : Int) < (ll : Int)) = false := by simp; omega
          have d8 : decide (q < ll) = false := by simp; omega
          have d9 : decide ((ll : Int) < (q : Int)) = true := by simp; omega
          have d10 : decide (ll < q) = true := by simpa using hcmp
          have hsub : (q : Int) - ((ll : Int) + 1) = ((q - (ll + 1) : Nat) : Int) := by omega
          have HSUB := Lib.hid hsub
          clear hsub
          go_wp2_with fail
          go_quiet (fail)
          go_wp2_with fail
          rw [HSUB.out]
          apply wp_goto
          refine ⟨rfl, ⟨rr, q - (ll + 1), _, _, _, _, _, _, _, _, _, _, _, _, _, _, _, _, _, _, _, _, _, _, _, _, _, _, _, _, _, _, _, _, _, _, _, _, _, _, _, _, _, _, _, _, _, _, _, _, _, _, _, _, _, _, _, _, _, _, _, _, _, _, _, _, _, _, _, _, _, rfl, ⟨_, HR.out hcmp⟩, by first | exact HB | exact Lib.hid (below_drewN HB.out _)⟩, ?_⟩
          simp only [downM, intOf, Array.getD_eq_getD_getElem?, List.getElem?_toArray, List.getElem?_cons_succ, List.getElem?_cons_zero, Option.getD_some, Int.toNat_natCast]
          exact HM2.out
    · have e1 : M.atA (p : Int) i = 0 := by
        unfold RM.atA
        rw [Int.toNat_natCast, if_neg (fun e => hin ⟨e.2.1, by omega⟩)]
      have e2 : M.atE (p : Int) i = 1 := by
        unfold RM.atE
        rw [if_pos ha, Int.toNat_natCast, if_neg (fun e => hin ⟨e.1, by omega⟩)]
      rw [e1, e2]
      have hr1 : (x : Int) < (M.own.length : Int) + 1 := by omega
      by_cases h0 : i < 0
      · have d1 : decide (i < 0) = true := by simpa using h0
        clear hka ha hp hX hSS t1 t2 t3 t4 t5 t6 hx hk hin e1 e2 r2
        go_enter Try.func80, Try.ntmps80
        go_wp2_with fail
        refine wp_scope_jumps 0 (fun _ _ => False) (fun _ _ => 0) rfl ?_ (fun _ _ h => h.elim)
        go_wp2_with fail
        refine HKA.out.mono ?_
        rintro e w1 ⟨rfl, h1⟩
        subst w1
        go_wp2_with fail
        refine HT.out.mono ?_
        rintro e w1 ⟨rfl, h1⟩
        subst w1
        go_wp2_with fail
        simp only [Exit.jump]
        go_ret2
        exact ⟨rfl, Below.refl _ _⟩
      · have d1 : decide (i < 0) = false := by simpa using h0
        have d2 : decide ((k : Int) ≤ i) = true := by simp; omega
        clear hka ha hp hX hSS t1 t2 t3 t4 t5 t6 hx hk hin e1 e2 r2
        go_enter Try.func80, Try.ntmps80
        go_wp2_with fail
        refine wp_scope_jumps 0 (fun _ _ => False) (fun _ _ => 0) rfl ?_ (fun _ _ h => h.elim)
        go_wp2_with fail
        refine HKA.out.mono ?_
        rintro e w1 ⟨rfl, h1⟩
        subst w1
        go_wp2_with fail
        refine HT.out.mono ?_
        rintro e w1 ⟨rfl, h1⟩
        subst w1
        go_wp2_with fail
        simp only [Exit.jump]
        go_ret2
        exact ⟨rfl, Below.refl _ _⟩
  · have e1 : M.atA a i = 0 := by unfold RM.atA; rw [if_neg (fun e => ha e.1)]
    have e2 : M.atE a i = 150 := by unfold RM.atE; rw [if_neg ha]
    have ha' : M.known a = false := by simpa using ha
    rw [ha'] at hka
    rw [e1, e2]
    have HKA := Lib.hid hka
    clear hka e1 e2 hX ha ha'
    go_enter Try.func80, Try.ntmps80
    go_wp2_with fail
    refine wp_scope_jumps 0 (fun _ _ => False) (fun _ _ => 0) rfl ?_ (fun _ _ h => h.elim)
    go_wp2_with fail
    refine HKA.out.mono ?_
    rintro e w1 ⟨rfl, h1⟩
    subst w1
    go_wp2_with fail
    simp only [Exit.jump]
    go_ret2
    exact ⟨rfl, Below.refl _ _⟩

end Go.Proofs.Ytlakcldgolpaiaa
