/-
  The walk of Index.
-/
import Derived.Test.YtlakcldgolpaiaaEP17
namespace Go.Proofs.Ytlakcldgolpaiaa
open Go.RowKit
set_option linter.unusedVariables false

/-- How many stand ahead, on the way up. -/
def cnt : Nat → List Up → Nat
  | A, [] => A
  | A, f :: fs => cnt (if f.right = true then A + (f.s.list.length + 1) else A) fs

theorem cnt_before : ∀ (fs : List Up) (xs : List Nat), (before xs fs).length = cnt xs.length fs
  | [], xs => rfl
  | f :: fs, xs => by
    unfold before cnt
    rw [cnt_before fs]
    cases f.right
    · simp
    · simp; congr 1; omega

theorem cnt_le : ∀ (fs : List Up) (A : Nat), A ≤ cnt A fs
  | [], A => Nat.le_refl _
  | f :: fs, A => by
    unfold cnt
    refine Nat.le_trans ?_ (cnt_le fs _)
    split <;> omega

structure IxI (N : Nodes SV) (n R c : Nat) (gs : List Up) (A : Nat) : Prop where
  zip : Zip N c gs
  lt : ∀ i ∈ around gs, 0 < i ∧ i < n
  nd : (around gs).Nodup
  out : c ∉ around gs
  cp : 0 < c
  res : cnt A gs = R

set_option maxRecDepth 100000 in
set_option maxHeartbeats 2000000 in
theorem rIndex (w : World) (g : Nat) (S : Nat → Prop) (M : RM SV) (h : Rp w g S M) (a : Int) :
    Calls Try.prog 81 #[.pointer (some ⟨g, 0, none⟩), .int .i64 a] w fun e w' => e = .returned (.tuple #[.int .i64 (M.indexA a), .int .i64 (M.errA a)]) ∧ Below w.heap.size w w' := by
  obtain ⟨B, sv, nb, cap, N, ss, hX, hSS⟩ := h
  have hka := knownX w g sv nb cap M hX.mem.blk a
  by_cases ha : M.known a = true
  · rw [ha] at hka
    obtain ⟨i, rfl, hi⟩ := known_nat ha
    have e1 : M.errA (i : Int) = 0 := by unfold RM.errA; rw [if_pos ha]
    obtain ⟨t, l, r, fs, k1, k2, k3, k4, k5, k6, k7, k8, k9, k10, k11, k12, k13⟩ := hX.at_ hi
    have hrow := row_mem hX.ok.ok hi
    have hnd := row_nodup hX.ok.ok hrow.1
    have hpos : (M.rowOf i).idxOf i = cnt l.list.length fs := by
      rw [← k8, ← cnt_before, List.idxOf_append, if_neg, List.idxOf_cons_self]
      · simp
      · intro hmem
        rw [← k8] at hnd
        exact (List.nodup_append.1 hnd).2.2 i hmem i (by simp) rfl
    have e2 : M.indexA (i : Int) = ((cnt l.list.length fs : Nat) : Int) := by unfold RM.indexA; rw [if_pos ha, Int.toNat_natCast, hpos]
    rw [e1, e2]
    obtain ⟨R, hR⟩ : ∃ R, R = cnt l.list.length fs := ⟨_, rfl⟩
    have hRle : R ≤ 65536 := by
      rw [hR, ← hpos]
      have := List.idxOf_lt_length_iff.2 hrow.2
      have := sizeOk hX hi
      omega
    rw [← hR]
    obtain ⟨n, hn⟩ : ∃ n, n = M.own.length + 1 := ⟨_, rfl⟩
    have hmem : Mem w g B sv nb n cap N := by rw [hn]; exact hX.mem
    rw [← hn] at k12
    have hin : i < n := by omega
    have hll : ∀ j ∈ l.list, 0 < j ∧ j < n := fun j hj => k12 j (by simp [hj])
    have hlr : l.root < n := root_lt (by omega) fun j hj => (hll j hj).2
    have b1 : w.cell? ⟨g, 1, none⟩ = _ := hmem.blk.cell 1
    obtain ⟨-, -, -, -, -, -, -, -, u6, l7, -⟩ := hmem.cells hin
    have s4 := (hmem.cells hlr).2.2.2.2.2.2.1
    rw [size_root k5.2.2.2.2.1 hX.ok.zero] at s4
    rw [k5.1] at l7
    rw [k7] at u6
    obtain ⟨lr, hlr0⟩ : ∃ x, x = l.root := ⟨_, rfl⟩
    obtain ⟨A, hA⟩ : ∃ x, x = l.list.length := ⟨_, rfl⟩
    obtain ⟨u, hu⟩ : ∃ x, x = nextP fs := ⟨_, rfl⟩
    rw [← hlr0] at s4 l7 hlr
    rw [← hA] at s4 hR
    rw [← hu] at u6
    have hnd2 := List.nodup_append.1 k11
    have HI : Hid (IxI N n R i fs A) := Lib.hid ⟨k6, fun j hj => k12 j (List.mem_append_right _ hj), hnd2.2.1, fun hj => hnd2.2.2 i (by simp) i hj rfl, by omega, hR.symm⟩
    have HU := Lib.hid hu
    have HKA := Lib.hid hka
    have HM := Lib.hid hmem
    have H0 := Lib.hid hX.ok.zero
    have hlr2 : (lr : Int) < (n : Int) := by omega
    have hin2 : (i : Int) < (n : Int) := by omega
    have hfs : fs.length = fs.length := rfl
    clear hka ha hi hX hSS e1 e2 k1 k2 k3 k4 k5 k6 k7 k8 k9 k10 k11 k12 k13 hrow hnd hpos hmem hll hlr0 hA hu hnd2 hn hR
    go_enter Try.func81, Try.ntmps81
    go_wp2_with fail
    refine HKA.out.mono ?_
    rintro e w1 ⟨rfl, h1⟩
    subst w1
    go_wp2_with fail
    go_region
    go_wp2_with fail
    go_loopg [1, 6, 7] fs.length (fun k s1 s6 s7 wr => ∃ (q c : Nat) (gs : List Up) (A : Nat) (u : Nat), wr = w.drewN q ∧ k = gs.length ∧ s1 = .int .i64 (c : Int) ∧ s6 = .int .i64 (A : Int) ∧ s7 = .int .i64 (u : Int) ∧ Hid (u = nextP gs) ∧ Hid (IxI N n R c gs A))
    case atStart => exact ⟨1, i, fs, A, u, rfl, rfl, rfl, rfl, rfl, HU, HI⟩
    case round =>
      obtain ⟨q, c, gs, A, u, hwr, rfl, rfl, rfl, rfl, HU, HI⟩ := hrel
      have HWR := Lib.hid hwr
      have HMR : Hid (Mem wr g B sv nb n cap N) := Lib.hid (by rw [hwr]; exact HM.out.drewN q)
      clear hwr b1 u6 l7 s4
      have b1 : wr.cell? ⟨g, 1, none⟩ = _ := HMR.out.blk.cell 1
      cases gs with
      | nil =>
        have hu : u = 0 := HU.out
        have hA : R = A := HI.out.res.symm
        subst hu
        subst hA
        go_wp2_with fail
        go_ret2
        exact ⟨rfl, by rw [HWR.out]; exact below_drewN (Below.refl _ _) _⟩
      | cons f gs =>
        obtain ⟨d, p, s⟩ := f
        have hu : p = u := HU.out.symm
        subst hu
        have hpn := HI.out.lt p (by simp [around])
        have hpl : p < n := hpn.2
        have hd0 : ((p : Int) != 0) = true := by have := hpn.1; simp; omega
        obtain ⟨g1, g2, g3, g4, g5⟩ := HI.out.zip
        obtain ⟨u2, hu2⟩ : ∃ u2, u2 = nextP gs := ⟨_, rfl⟩
        have u6 : wr.cell? ⟨nb, p * 11 + 8, none⟩ = some (.int .i64 (u2 : Int)) := by have := (HMR.out.cells hpl).2.2.2.2.2.2.2.2.1; rw [g4, ← hu2] at this; exact this
        have HU2 := Lib.hid hu2
        have HAR := HI.out.nd
        have hps := (List.nodup_cons.1 (show (p :: (s.list ++ around gs)).Nodup from HAR))
        have hpl2 : (p : Int) < (n : Int) := by omega
        have hHI2 : ∀ A', cnt A' gs = R → IxI N n R p gs A' := fun A' hA' => ⟨g5, fun j hj => HI.out.lt j (by simp [around, hj]), (List.nodup_append.1 hps.2).2.1, fun hj => hps.1 (List.mem_append_right _ hj), hpn.1, hA'⟩
        have HHI2 := Lib.hid hHI2
        have hres := HI.out.res
        obtain ⟨sr, hsr⟩ : ∃ sr, sr = s.root := ⟨_, rfl⟩
        cases d with
        | true =>
          simp only [if_true] at g1
          have r8 : wr.cell? ⟨nb, p * 11 + 10, none⟩ = some (.int .i64 (c : Int)) := by have := (HMR.out.cells hpl).2.2.2.2.2.2.2.2.2.2; rw [g1.1] at this; exact this
          have l7 : wr.cell? ⟨nb, p * 11 + 9, none⟩ = some (.int .i64 (sr : Int)) := by have := (HMR.out.cells hpl).2.2.2.2.2.2.2.2.2.1; rw [g1.2, ← hsr] at this; exact this
          have hsl : sr < n := by rw [hsr]; exact root_lt (by omega) fun j hj => (HI.out.lt j (by simp [around, hj])).2
          have hsl2 : (sr : Int) < (n : Int) := by omega
          obtain ⟨z, hz⟩ : ∃ z, z = s.list.length := ⟨_, rfl⟩
          have s4 : wr.cell? ⟨nb, sr * 11 + 6, none⟩ = some (.int .i64 (z : Int)) := by have := (HMR.out.cells hsl).2.2.2.2.2.2.1; rw [hsr, size_root g2 H0.out, ← hz, ← hsr] at this; exact this
          have hd1 : ((c : Int) == (c : Int)) = true := by simp
          have hc2 : cnt (A + (z + 1)) gs = R := by rw [hz]; simpa [cnt] using hres
          have hle := cnt_le gs (A + (z + 1))
          rw [hc2] at hle
          have HC2 := Lib.hid hc2
          have hw1 : IntKind.i64.wrap ((z : Int) + 1) = (z : Int) + 1 := by rw [IntKind.wrap_i64]; omega
          have hw2 : IntKind.i64.wrap ((A : Int) + ((z : Int) + 1)) = (A : Int) + ((z : Int) + 1) := by rw [IntKind.wrap_i64]; omega
          clear g1 g2 g3 g4 g5 hu2 HAR hps hHI2 hres hsr hz hc2
          go_wp2_with fail
          go_region
          go_wp2_with fail
          go_region
          go_wp2_with fail
          go_roundg gs.length
          case measure => simp
          case rel => exact ⟨q + 2, p, gs, A + (z + 1), u2, by rw [HWR.out]; rfl, rfl, rfl, by simp, rfl, HU2, Lib.hid (HHI2.out _ HC2.out)⟩
        | false =>
          simp only [Bool.false_eq_true, if_false] at g1
          have r8 : wr.cell? ⟨nb, p * 11 + 10, none⟩ = some (.int .i64 (sr : Int)) := by have := (HMR.out.cells hpl).2.2.2.2.2.2.2.2.2.2; rw [g1.2, ← hsr] at this; exact this
          have hne : sr ≠ c := by
            rw [hsr]
            exact (root_ne HI.out.cp fun hj => HI.out.out (by simp [around, hj])).symm
          have hd1 : ((sr : Int) == (c : Int)) = false := by simp; omega
          have hc2 : cnt A gs = R := by simpa [cnt] using hres
          have HC2 := Lib.hid hc2
          clear g1 g2 g3 g4 g5 hu2 HAR hps hHI2 hres hsr hc2 hne
          go_wp2_with fail
          go_region
          go_wp2_with fail
          go_roundg gs.length
          case measure => simp
          case rel => exact ⟨q + 1, p, gs, A, u2, by rw [HWR.out]; rfl, rfl, rfl, rfl, rfl, HU2, Lib.hid (HHI2.out _ HC2.out)⟩
  · have e1 : M.errA a = 150 := by unfold RM.errA; rw [if_neg ha]
    have e2 : M.indexA a = 0 := by unfold RM.indexA; rw [if_neg ha]
    have ha' : M.known a = false := by simpa using ha
    rw [ha'] at hka
    rw [e1, e2]
    have HKA := Lib.hid hka
    clear hka e1 e2 hX ha ha'
    go_enter Try.func81, Try.ntmps81
    go_wp2_with fail
    refine HKA.out.mono ?_
    rintro e w1 ⟨rfl, h1⟩
    subst w1
    go_wp2_with fail
    go_ret2
    exact ⟨rfl, Below.refl _ _⟩

end Go.Proofs.Ytlakcldgolpaiaa
