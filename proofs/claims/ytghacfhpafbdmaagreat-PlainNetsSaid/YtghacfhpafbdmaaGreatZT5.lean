/-
  The walk of skeinlaw06's alive: the document's example.
-/
import Derived.Test.YtghacfhpafbdmaaGreatZT3
namespace Go.Proofs.YtghacfhpafbdmaaGreat
open Go.RowKit
set_option linter.unusedVariables false

/-- P holds now, and as long as what is there stays. -/
def Keeps (P : World → Prop) (w : World) : Prop := ∀ w', Below w.heap.size w w' → P w'
theorem Keeps.step {P : World → Prop} {w w' : World} (h : Keeps P w) (hb : Below w.heap.size w w') : Keeps P w' := fun w2 h2 => h w2 (hb.trans (h2.mono hb.size))
theorem Keeps.now {P : World → Prop} {w : World} (h : Keeps P w) : P w := h w (Below.refl _ _)
theorem keeps_cell {w : World} {b o : Nat} {v : Value} (h : w.cell? ⟨b, o, none⟩ = some v) (hb : b < w.heap.size) : Keeps (fun w' => w'.cell? ⟨b, o, none⟩ = some v) w := fun w' h' => (h'.cell (p := ⟨b, o, none⟩) hb).trans h
theorem RI.first {w : World} {B : Nat} {v : Value} {x : Int} {r : List Int} (h : RI w B v (x :: r)) (hB : B ≤ w.heap.size) : ∃ b o c, v = .slice (some ⟨b, o, none⟩) (r.length + 1) c ∧ r.length + 1 ≤ c ∧ Keeps (fun w' => w'.cell? ⟨b, o, none⟩ = some (.int .i64 x)) w := by
  obtain ⟨A, c, rfl, h1, h2, h3, HC⟩ := h.open_
  obtain ⟨b, o, rfl, hb, hx⟩ := HC.out 0 (by simp)
  have := cellI hx
  exact ⟨b, o, c, rfl, h1, keeps_cell this (by omega)⟩
theorem RLs.shape {w : World} {B : Nat} {v : Value} {ls : List (List Int)} (h : RLs w B v ls) : ∃ A c, v = .slice A ls.length c := by
  obtain ⟨ts, h1, h2, _⟩ := h
  obtain ⟨A, c, rfl, _⟩ := h2.open_
  exact ⟨A, c, by rw [h1]⟩
theorem small_along : alongT (pathL smV smE 1 2) = .tuple #[.agg #[.int .i64 3, .int .i64 1, .int .i64 3, .int .i64 4, .complex .f64 4620693217682128896 4611686018427387904], .int .i64 0] := by
  rw [small_path]
  have h1 : fl 8 = 4620693217682128896 := by decide
  have h2 : fl 2 = 4611686018427387904 := by decide
  rw [← h1, ← h2]
  rfl
theorem aggZ_lit : aggZ = #[.int .i64 0, .int .i64 0, .int .i64 0, .int .i64 0, .complex .f64 0 0] := rfl
theorem cplx_eq (w : World) : (binOp .eql 48 (.complex .f64 4620693217682128896 4611686018427387904) (.complex .f64 4620693217682128896 4611686018427387904)).run Tryz.prog w = .ok (.bool true) w := by kernel_rfl
theorem ans_yes (w : World) : (Instr.field 83 (.agg (ansV true)) 1).run Tryz.prog w = .ok (.bool true) w := by kernel_rfl
theorem run_storeCy (P : Program) (w : World) (a : Addr) (m : Mode) (k : FloatKind) (x y : Nat) : (store a (.complex k x y) m).run P w = stored P w a (.complex k x y) m := run_store P w a _ m rfl
attribute [local go_sem] run_storeCy

set_option maxRecDepth 100000 in
set_option maxHeartbeats 8000000 in
theorem alive_any (w : World) : Calls Tryz.prog 8 #[] w fun e w' => e = .returned (.bool true) ∧ Below w.heap.size w w' := by
  go_enter Tryz.func8, Tryz.ntmps8
  go_wp2_with fail
  refine (small_any _).mono ?_
  rintro e w1 ⟨sv, se, rfl, hv, he, hb⟩
  have HB : Hid (Below w.heap.size w w1) := hb
  have HV := Lib.hid hv
  have HE := Lib.hid he
  clear hv he hb
  go_wp2_with fail
  refine (Forest_ok sv se smV smE _ w1.heap.size HV.out HE.out (Nat.le_refl _) small_right).mono ?_
  rw [small_forest]
  rintro e w2 ⟨fv, rfl, ho, hb⟩
  have HB' := Lib.hid (HB.out.trans (hb.mono HB.out.size))
  clear HB
  have HB := HB'
  clear HB'
  clear HV HE
  obtain ⟨bf, of, cf, rfl, hcf, kf⟩ := RI.first (ho.rk encI_len (Nat.le_refl _)) (Nat.le_refl _)
  have KF := Lib.hid kf
  clear ho hb kf
  go_wp2_with fail
  refine (small_any _).mono ?_
  rintro e w3 ⟨sv, se, rfl, hv, he, hb⟩
  have HB' := Lib.hid (HB.out.trans (hb.mono HB.out.size))
  clear HB
  have HB := HB'
  clear HB'
  have KF' := Lib.hid (KF.out.step hb)
  clear KF
  have KF := KF'
  clear KF'
  have HV := Lib.hid hv
  have HE := Lib.hid he
  clear hv he hb
  go_wp2_with fail
  refine (Weight_ok sv se smV smE _ w3.heap.size HV.out HE.out (Nat.le_refl _) small_right).mono ?_
  rw [small_weight, toldT_lo (by decide)]
  rintro e w4 ⟨rfl, hb⟩
  have HB' := Lib.hid (HB.out.trans (hb.mono HB.out.size))
  clear HB
  have HB := HB'
  clear HB'
  have KF' := Lib.hid (KF.out.step hb)
  clear KF
  have KF := KF'
  clear KF'
  clear HV HE
  clear hb
  go_wp2_with fail
  refine (small_any _).mono ?_
  rintro e w5 ⟨sv, se, rfl, hv, he, hb⟩
  have HB' := Lib.hid (HB.out.trans (hb.mono HB.out.size))
  clear HB
  have HB := HB'
  clear HB'
  have KF' := Lib.hid (KF.out.step hb)
  clear KF
  have KF := KF'
  clear KF'
  have HV := Lib.hid hv
  have HE := Lib.hid he
  clear hv he hb
  go_wp2_with fail
  refine (Path_ok sv se smV smE 1 2 _ w5.heap.size HV.out HE.out (Nat.le_refl _) small_pathErr).mono ?_
  rw [small_path]
  rintro e w6 ⟨pv, rfl, ho, hb⟩
  have HB' := Lib.hid (HB.out.trans (hb.mono HB.out.size))
  clear HB
  have HB := HB'
  clear HB'
  have KF' := Lib.hid (KF.out.step hb)
  clear KF
  have KF := KF'
  clear KF'
  clear HV HE
  obtain ⟨bp, op, cp, rfl, hcp, kp⟩ := RI.first (ho.rk encI_len (Nat.le_refl _)) (Nat.le_refl _)
  have KP := Lib.hid kp
  clear ho hb kp
  go_wp2_with fail
  refine (small_any _).mono ?_
  rintro e w7 ⟨sv, se, rfl, hv, he, hb⟩
  have HB' := Lib.hid (HB.out.trans (hb.mono HB.out.size))
  clear HB
  have HB := HB'
  clear HB'
  have KF' := Lib.hid (KF.out.step hb)
  clear KF
  have KF := KF'
  clear KF'
  have KP' := Lib.hid (KP.out.step hb)
  clear KP
  have KP := KP'
  clear KP'
  have HV := Lib.hid hv
  have HE := Lib.hid he
  clear hv he hb
  go_wp2_with fail
  refine (Along_ok sv se smV smE 1 2 _ w7.heap.size HV.out HE.out (Nat.le_refl _) small_pathErr).mono ?_
  rw [small_along]
  rintro e w8 ⟨rfl, hb⟩
  have HB' := Lib.hid (HB.out.trans (hb.mono HB.out.size))
  clear HB
  have HB := HB'
  clear HB'
  have KF' := Lib.hid (KF.out.step hb)
  clear KF
  have KF := KF'
  clear KF'
  have KP' := Lib.hid (KP.out.step hb)
  clear KP
  have KP := KP'
  clear KP'
  clear HV HE
  clear hb
  go_wp2_with fail
  refine (small_any _).mono ?_
  rintro e w9 ⟨sv, se, rfl, hv, he, hb⟩
  have hbk := Blk.new w8 50 #[.int .i64 3, .int .i64 1, .int .i64 3, .int .i64 4, .complex .f64 4620693217682128896 4611686018427387904]
  have KX0 := Lib.hid ((keeps_cell (v := .int .i64 3) (hbk.cell 0) hbk.lt).step hb)
  have KX4 := Lib.hid ((keeps_cell (v := .complex .f64 4620693217682128896 4611686018427387904) (hbk.cell 4) hbk.lt).step hb)
  clear hbk
  have hb := ((Below.refl w8.heap.size w8).alloc (Nat.le_refl _) _).trans (hb.mono (by simp))
  have HB' := Lib.hid (HB.out.trans (hb.mono HB.out.size))
  clear HB
  have HB := HB'
  clear HB'
  have KF' := Lib.hid (KF.out.step hb)
  clear KF
  have KF := KF'
  clear KF'
  have KP' := Lib.hid (KP.out.step hb)
  clear KP
  have KP := KP'
  clear KP'
  have HV := Lib.hid hv
  have HE := Lib.hid he
  clear hv he hb
  go_wp2_with fail
  refine (Span_ok sv se smV smE 1 _ w9.heap.size HV.out HE.out (Nat.le_refl _) small_chk1).mono ?_
  rw [small_span, toldT_lo (by decide)]
  rintro e w10 ⟨rfl, hb⟩
  have HB' := Lib.hid (HB.out.trans (hb.mono HB.out.size))
  clear HB
  have HB := HB'
  clear HB'
  have KF' := Lib.hid (KF.out.step hb)
  clear KF
  have KF := KF'
  clear KF'
  have KP' := Lib.hid (KP.out.step hb)
  clear KP
  have KP := KP'
  clear KP'
  have KX0' := Lib.hid (KX0.out.step hb)
  clear KX0
  have KX0 := KX0'
  clear KX0'
  have KX4' := Lib.hid (KX4.out.step hb)
  clear KX4
  have KX4 := KX4'
  clear KX4'
  clear HV HE
  clear hb
  go_wp2_with fail
  refine (small_any _).mono ?_
  rintro e w11 ⟨sv, se, rfl, hv, he, hb⟩
  have HB' := Lib.hid (HB.out.trans (hb.mono HB.out.size))
  clear HB
  have HB := HB'
  clear HB'
  have KF' := Lib.hid (KF.out.step hb)
  clear KF
  have KF := KF'
  clear KF'
  have KP' := Lib.hid (KP.out.step hb)
  clear KP
  have KP := KP'
  clear KP'
  have KX0' := Lib.hid (KX0.out.step hb)
  clear KX0
  have KX0 := KX0'
  clear KX0'
  have KX4' := Lib.hid (KX4.out.step hb)
  clear KX4
  have KX4 := KX4'
  clear KX4'
  have HV := Lib.hid hv
  have HE := Lib.hid he
  clear hv he hb
  go_wp2_with fail
  refine (Along_no sv se smV smE 1 4 61 _ w11.heap.size HV.out HE.out (Nat.le_refl _) small_noPath (by decide)).mono ?_
  rw [aggZ_lit]
  rintro e w12 ⟨rfl, hb⟩
  have HB' := Lib.hid (HB.out.trans (hb.mono HB.out.size))
  clear HB
  have HB := HB'
  clear HB'
  have KF' := Lib.hid (KF.out.step hb)
  clear KF
  have KF := KF'
  clear KF'
  have KP' := Lib.hid (KP.out.step hb)
  clear KP
  have KP := KP'
  clear KP'
  have KX0' := Lib.hid (KX0.out.step hb)
  clear KX0
  have KX0 := KX0'
  clear KX0'
  have KX4' := Lib.hid (KX4.out.step hb)
  clear KX4
  have KX4 := KX4'
  clear KX4'
  clear HV HE
  clear hb
  go_wp2_with fail
  refine (small_any _).mono ?_
  rintro e w13 ⟨sv, se, rfl, hv, he, hb⟩
  have hb := ((Below.refl w12.heap.size w12).alloc (Nat.le_refl _) _).trans (hb.mono (by simp))
  have HB' := Lib.hid (HB.out.trans (hb.mono HB.out.size))
  clear HB
  have HB := HB'
  clear HB'
  have KF' := Lib.hid (KF.out.step hb)
  clear KF
  have KF := KF'
  clear KF'
  have KP' := Lib.hid (KP.out.step hb)
  clear KP
  have KP := KP'
  clear KP'
  have KX0' := Lib.hid (KX0.out.step hb)
  clear KX0
  have KX0 := KX0'
  clear KX0'
  have KX4' := Lib.hid (KX4.out.step hb)
  clear KX4
  have KX4 := KX4'
  clear KX4'
  have HV := Lib.hid hv
  have HE := Lib.hid he
  clear hv he hb
  go_wp2_with fail
  refine (trees_ok sv se smV smE _ w13.heap.size HV.out HE.out (Nat.le_refl _) small_right).mono ?_
  rw [small_trees]
  rintro e w14 ⟨tv, rfl, ht, hb⟩
  have HB' := Lib.hid (HB.out.trans (hb.mono HB.out.size))
  clear HB
  have HB := HB'
  clear HB'
  have KF' := Lib.hid (KF.out.step hb)
  clear KF
  have KF := KF'
  clear KF'
  have KP' := Lib.hid (KP.out.step hb)
  clear KP
  have KP := KP'
  clear KP'
  have KX0' := Lib.hid (KX0.out.step hb)
  clear KX0
  have KX0 := KX0'
  clear KX0'
  have KX4' := Lib.hid (KX4.out.step hb)
  clear KX4
  have KX4 := KX4'
  clear KX4'
  clear HV HE
  obtain ⟨At, ct, rfl⟩ := ht.shape
  clear ht hb
  go_wp2_with fail
  refine (small_any _).mono ?_
  rintro e w15 ⟨sv, se, rfl, hv, he, hb⟩
  have HB' := Lib.hid (HB.out.trans (hb.mono HB.out.size))
  clear HB
  have HB := HB'
  clear HB'
  have KF' := Lib.hid (KF.out.step hb)
  clear KF
  have KF := KF'
  clear KF'
  have KP' := Lib.hid (KP.out.step hb)
  clear KP
  have KP := KP'
  clear KP'
  have KX0' := Lib.hid (KX0.out.step hb)
  clear KX0
  have KX0 := KX0'
  clear KX0'
  have KX4' := Lib.hid (KX4.out.step hb)
  clear KX4
  have KX4 := KX4'
  clear KX4'
  have HV := Lib.hid hv
  have HE := Lib.hid he
  clear hv he hb
  go_wp2_with fail
  refine (Joined_ok sv se smV smE 1 3 _ w15.heap.size HV.out HE.out (Nat.le_refl _) small_chk13).mono ?_
  rw [small_joined]
  rintro e w16 ⟨rfl, hb⟩
  have HB' := Lib.hid (HB.out.trans (hb.mono HB.out.size))
  clear HB
  have HB := HB'
  clear HB'
  have KF' := Lib.hid (KF.out.step hb)
  clear KF
  have KF := KF'
  clear KF'
  have KP' := Lib.hid (KP.out.step hb)
  clear KP
  have KP := KP'
  clear KP'
  have KX0' := Lib.hid (KX0.out.step hb)
  clear KX0
  have KX0 := KX0'
  clear KX0'
  have KX4' := Lib.hid (KX4.out.step hb)
  clear KX4
  have KX4 := KX4'
  clear KX4'
  clear HV HE
  clear hb
  go_wp2_with fail
  refine (small_any _).mono ?_
  rintro e w17 ⟨sv, se, rfl, hv, he, hb⟩
  have HB' := Lib.hid (HB.out.trans (hb.mono HB.out.size))
  clear HB
  have HB := HB'
  clear HB'
  have KF' := Lib.hid (KF.out.step hb)
  clear KF
  have KF := KF'
  clear KF'
  have KP' := Lib.hid (KP.out.step hb)
  clear KP
  have KP := KP'
  clear KP'
  have KX0' := Lib.hid (KX0.out.step hb)
  clear KX0
  have KX0 := KX0'
  clear KX0'
  have KX4' := Lib.hid (KX4.out.step hb)
  clear KX4
  have KX4 := KX4'
  clear KX4'
  have HV := Lib.hid hv
  have HE := Lib.hid he
  clear hv he hb
  go_wp2_with fail
  refine (check_ok sv se smV smE _ w17.heap.size HV.out HE.out (Nat.le_refl _) small_right).mono ?_
  rintro e w18 ⟨rfl, hb⟩
  have HB' := Lib.hid (HB.out.trans (hb.mono HB.out.size))
  clear HB
  have HB := HB'
  clear HB'
  have KF' := Lib.hid (KF.out.step hb)
  clear KF
  have KF := KF'
  clear KF'
  have KP' := Lib.hid (KP.out.step hb)
  clear KP
  have KP := KP'
  clear KP'
  have KX0' := Lib.hid (KX0.out.step hb)
  clear KX0
  have KX0 := KX0'
  clear KX0'
  have KX4' := Lib.hid (KX4.out.step hb)
  clear KX4
  have KX4 := KX4'
  clear KX4'
  clear HV HE
  clear hb
  go_wp2_with fail
  refine (New_any _).mono ?_
  rintro e w19 ⟨rfl, hg, hz, hb⟩
  have HN := Lib.hid hb
  have HG := Lib.hid hg
  have hz2 : w18.heap.size + 4 = w19.heap.size := hz.symm
  clear hg hb hz
  go_wp2_with fail
  refine (DoV_any _ _ _ _ _ HG.out).mono ?_
  rintro e w20 ⟨rfl, hg, hb⟩
  have HG1 := Lib.hid hg
  have hb := HN.out.trans (hb _ (by omega) (Nat.le_refl _))
  have HB' := Lib.hid (HB.out.trans (hb.mono HB.out.size))
  clear HB
  have HB := HB'
  clear HB'
  have KF' := Lib.hid (KF.out.step hb)
  clear KF
  have KF := KF'
  clear KF'
  have KP' := Lib.hid (KP.out.step hb)
  clear KP
  have KP := KP'
  clear KP'
  have KX0' := Lib.hid (KX0.out.step hb)
  clear KX0
  have KX0 := KX0'
  clear KX0'
  have KX4' := Lib.hid (KX4.out.step hb)
  clear KX4
  have KX4 := KX4'
  clear KX4'
  clear HG HN hg hb
  go_wp2_with fail
  refine (AskV_any _ _ _ _ _ _ _ HG1.out (by decide)).mono ?_
  rintro e w21 ⟨rfl, hb⟩
  have HB' := Lib.hid (HB.out.trans (hb.mono HB.out.size))
  clear HB
  have HB := HB'
  clear HB'
  have KF' := Lib.hid (KF.out.step hb)
  clear KF
  have KF := KF'
  clear KF'
  have KP' := Lib.hid (KP.out.step hb)
  clear KP
  have KP := KP'
  clear KP'
  have KX0' := Lib.hid (KX0.out.step hb)
  clear KX0
  have KX0 := KX0'
  clear KX0'
  have KX4' := Lib.hid (KX4.out.step hb)
  clear KX4
  have KX4 := KX4'
  clear KX4'
  clear HG1 hb
  have hkf := KF.out.now
  have hkp := KP.out.now
  have hkx0 := KX0.out.now
  have hkx4 := KX4.out.now
  have hcx := cplx_eq w21
  have hfl := ans_yes w21
  have hcf0 : (0 : Int) < cf := by omega
  go_wp2_with fail
  go_ret
  exact ⟨rfl, HB.out⟩
end Go.Proofs.YtghacfhpafbdmaaGreat

/-
  The walks of skeinref01's Has and SameInts; lists of lists opened.
-/
namespace Go.Proofs.YtghacfhpafbdmaaGreat
open Go.RowKit
set_option linter.unusedVariables false

theorem Has_any (v : Value) (V : List Int) (x : Int) (q : Bool) (hq : V.contains x = q) (w : World) (B : Nat) (hv : RI w B v V) :
    Calls Tryz.prog 30 #[v, .int .i64 x] w fun e w' => e = .returned (.bool q) ∧ w = w' := by
  obtain ⟨A, c, rfl, hc1, hc2, hc3, HC⟩ := hv.open_
  clear hv
  obtain ⟨n, hn⟩ : ∃ n, n = V.length := ⟨_, rfl⟩
  rw [← hn] at hc1 hc3 ⊢
  have HN := Lib.hid hn
  have HQ : Hid ((V.drop 0).contains x = q) := hq
  clear hn hq
  go_enter Tryz.func30, Tryz.ntmps30
  go_wp2
  go_loop [5] (fun i => ∃ k : Nat, k ≤ n ∧ i = .int .i64 k ∧ Hid ((V.drop k).contains x = q)) (fun i => n - (intOf i).toNat)
  case atStart => exact ⟨0, Nat.zero_le _, rfl, HQ⟩
  case round =>
    obtain ⟨k, hk, rfl, HT⟩ := hrel
    by_cases hlt : k < n
    · obtain ⟨b, o, rfl, hb, hx⟩ := HC.out k (by have := HN.out; omega)
      have hx := cellI hx
      obtain ⟨y, hy⟩ : ∃ y, y = V[k]'(by have := HN.out; omega) := ⟨_, rfl⟩
      rw [← hy] at hx
      have HD : Hid ((V.drop k).contains x = (x == y || (V.drop (k + 1)).contains x)) := by
        rw [List.drop_eq_getElem_cons (by have := HN.out; omega), ← hy]; rfl
      clear hy
      by_cases hxy : y = x
      · have HF : Hid (q = true) := by show _ = _; rw [← HT.out, HD.out, hxy]; simp
        subst hxy
        clear HD HT
        go_wp2
        go_ret
        exact ⟨by rw [HF.out]; rfl, rfl⟩
      · have HT' : Hid ((V.drop (k + 1)).contains x = q) := by
          show _ = _
          rw [← HT.out, HD.out]
          have : (x == y) = false := by simpa using fun e => hxy e.symm
          rw [this]; rfl
        clear HD HT
        go_wp2
        go_round
        case rel => exact ⟨k + 1, by omega, by go_num, HT'⟩
        case measure => simp [intOf]; omega
    · obtain rfl : k = n := by omega
      have HF : Hid (q = false) := by
        show _ = _
        rw [← HT.out, List.drop_eq_nil_of_le (by have := HN.out; omega)]; rfl
      go_wp2
      go_ret
      exact ⟨by rw [HF.out]; rfl, rfl⟩

theorem RLs.open_ {w : World} {B : Nat} {v : Value} {ls : List (List Int)} (h : RLs w B v ls) : ∃ A c, v = .slice A ls.length c ∧ ls.length ≤ c ∧ c ≤ 9223372036854775807 ∧ ls.length ≤ 140737488355328 ∧
    Hid (∀ i, (hi : i < ls.length) → ∃ b o s, A = some ⟨b, o, none⟩ ∧ b < B ∧ w.cell? ⟨b, o + i, none⟩ = some s ∧ RI w B s ls[i]) := by
  obtain ⟨ts, h1, h2, h3⟩ := h
  obtain ⟨A, c, rfl, h4, h5, h6, HC⟩ := h2.open_
  refine ⟨A, c, by rw [h1], by omega, h5, by omega, fun i hi => ?_⟩
  obtain ⟨b, o, hA, hb, hx⟩ := HC.out i (by omega)
  have hx := hx 0 _ rfl
  refine ⟨b, o, _, hA, hb, by simpa using hx, h3 i _ _ (List.getElem?_eq_getElem _) (List.getElem?_eq_getElem hi)⟩
theorem RLs.below {w w' : World} {B : Nat} {v : Value} {ls : List (List Int)} (h : RLs w B v ls) (hb : Below B w w') : RLs w' B v ls := by
  obtain ⟨ts, h1, h2, h3⟩ := h
  exact ⟨ts, h1, h2.below hb, fun i t l ht hl => (h3 i t l ht hl).below hb⟩
end Go.Proofs.YtghacfhpafbdmaaGreat
