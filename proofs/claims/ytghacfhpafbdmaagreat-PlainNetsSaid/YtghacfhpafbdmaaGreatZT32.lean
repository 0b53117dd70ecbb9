/-
  The walks of skeinref06's Joined, Forest and Weight.
-/
import Derived.Test.YtghacfhpafbdmaaGreatZT29
namespace Go.Proofs.YtghacfhpafbdmaaGreat
open Go.RowKit
set_option linter.unusedVariables false

theorem ask_chk (sv se uv : Value) (V : List Int) (E : List Ed) (U : List Int) (w : World) (B : Nat) (hv : RI w B sv V) (he : RE w B se E) (hu : RI w B uv U) (hB : B ≤ w.heap.size) :
    Calls Tryz.prog 44 #[netV sv se, uv] w fun e w' => e = .returned (.int .i64 (chkV V E U)) ∧ Below w.heap.size w w' := ask_any sv se uv V E U w B hv he hu hB

theorem refJoined_no (sv se : Value) (V : List Int) (E : List Ed) (u v c : Int) (w : World) (B : Nat) (hv : RI w B sv V) (he : RE w B se E) (hB : B ≤ w.heap.size) (hc : chkV V E [u, v] = c) (h0 : c ≠ 0) :
    Calls Tryz.prog 13 #[netV sv se, .int .i64 u, .int .i64 v] w fun e w' => e = .returned (.tuple #[.bool false, .int .i64 c]) ∧ Below w.heap.size w w' := by
  have HC := Lib.hid hc
  have HV := Lib.hid hv
  have HE := Lib.hid he
  clear hc hv he
  go_enter Tryz.func13, Tryz.ntmps13
  go_wp2_with fail
  refine (ask_chk _ _ _ V E [u, v] _ (w.heap.size + 2) (((HV.out.alloc hB _).alloc (by simp; omega) _).more (by omega)) (((HE.out.alloc hB _).alloc (by simp; omega) _).more (by omega)) (RI.lit _ _ _ _ _ [u, v] 2 2 (by simp) rfl rfl (by simp) (by simp) (by simp) (by omega)) (by simp)).mono ?_
  rw [HC.out]
  rintro e w1 ⟨rfl, hb⟩
  have HB1 : Hid (Below w.heap.size w w1) := Lib.hid ((((Below.refl _ _).alloc (Nat.le_refl _) _).alloc (by simp) _).trans (hb.mono (by simp; omega)))
  clear hb
  have hcd : (c != 0) = true := by simpa using h0
  go_wp2_with fail
  go_ret2
  exact ⟨rfl, HB1.out⟩

set_option maxRecDepth 100000 in
set_option maxHeartbeats 4000000 in
theorem refJoined_ok (sv se : Value) (V : List Int) (E : List Ed) (u v : Int) (w : World) (B : Nat) (hv : RI w B sv V) (he : RE w B se E) (hB : B ≤ w.heap.size) (hc : chkV V E [u, v] = 0) :
    Calls Tryz.prog 13 #[netV sv se, .int .i64 u, .int .i64 v] w fun e w' => e = .returned (.tuple #[.bool (joinedB V E u v), .int .i64 0]) ∧ Below w.heap.size w w' := by
  obtain ⟨hn, hm⟩ := chk_zero hc
  have hu := hm u (by simp)
  have hv' := hm v (by simp)
  have HR := Lib.hid (right_of hn)
  have HC := Lib.hid hc
  have HV := Lib.hid hv
  have HE := Lib.hid he
  obtain ⟨pi, hpi⟩ : ∃ k, k = pl V u := ⟨_, rfl⟩
  obtain ⟨qi, hqi⟩ : ∃ k, k = pl V v := ⟨_, rfl⟩
  have hpn : pi < V.length := by rw [hpi]; exact pl_lt HR.out.vup hu
  have hqn : qi < V.length := by rw [hqi]; exact pl_lt HR.out.vup hv'
  obtain ⟨n, hnn⟩ : ∃ n, n = V.length := ⟨_, rfl⟩
  rw [← hnn] at hpn hqn
  have HN := Lib.hid hnn
  have HP := Lib.hid hu
  have HQ := Lib.hid hv'
  have HPI := Lib.hid hpi
  have HQI := Lib.hid hqi
  clear hc hv he hn hm hu hv' hpi hqi hnn
  go_enter Tryz.func13, Tryz.ntmps13
  go_wp2_with fail
  refine (ask_chk _ _ _ V E [u, v] _ (w.heap.size + 2) (((HV.out.alloc hB _).alloc (by simp; omega) _).more (by omega)) (((HE.out.alloc hB _).alloc (by simp; omega) _).more (by omega)) (RI.lit _ _ _ _ _ [u, v] 2 2 (by simp) rfl rfl (by simp) (by simp) (by simp) (by omega)) (by simp)).mono ?_
  rw [HC.out]
  rintro e w1 ⟨rfl, hb⟩
  have HNb : Hid (Blk w1 w.heap.size 25 #[sv, se]) := Lib.hid (((Blk.new w 25 #[sv, se]).alloc _).below hb (by simp; omega))
  have HB1 : Hid (Below w.heap.size w w1) := Lib.hid ((((Below.refl _ _).alloc (Nat.le_refl _) _).alloc (by simp) _).trans (hb.mono (by simp; omega)))
  clear hb
  have hz1 := HNb.out.lt
  have c0 := HNb.out.cell 0
  have c1 := HNb.out.cell 1
  go_wp2_with fail
  refine (Sets_any _ _ V E _ ((HV.out.below (HB1.out.mono hB)).more (by omega)) ((HE.out.below (HB1.out.mono hB)).more (by omega)) HR.out.vup (fun e he => ⟨HR.out.eu e he, HR.out.ev e he⟩) (by have := HR.out.vlen; omega) (by have := HR.out.elen; omega)).mono ?_
  rintro e w2 ⟨x, rfl, ho, hb2⟩
  have HNb2 : Hid (Blk w2 w.heap.size 25 #[sv, se]) := Lib.hid (HNb.out.below hb2 hz1)
  have HB2 : Hid (Below w.heap.size w w2) := Lib.hid (HB1.out.trans (hb2.mono (by omega)))
  obtain ⟨L, hL⟩ : ∃ L, L = labs V E := ⟨_, rfl⟩
  rw [← hL] at ho
  have hLl : L.length = n := by rw [hL, labs_len]; exact HN.out.symm
  obtain ⟨b5, c5, hsh, -, -⟩ := ho.shape (by rw [natsI_len, hLl]; omega)
  rw [natsI_len, hLl] at hsh
  subst hsh
  obtain ⟨la, hla⟩ : ∃ a : Int, a = (lab L pi : Nat) := ⟨_, rfl⟩
  obtain ⟨lb, hlb⟩ : ∃ b : Int, b = (lab L qi : Nat) := ⟨_, rfl⟩
  have y1 : w2.cell? ⟨b5, pi, none⟩ = some (.int .i64 la) := by
    have := ho.cellK encI_len (i := pi) (j := 0) (x := la) (by rw [hla]; exact natsI_at (by rw [hLl]; exact hpn)) rfl
    simpa using this
  have y2 : w2.cell? ⟨b5, qi, none⟩ = some (.int .i64 lb) := by
    have := ho.cellK encI_len (i := qi) (j := 0) (x := lb) (by rw [hlb]; exact natsI_at (by rw [hLl]; exact hqn)) rfl
    simpa using this
  have HVR := Lib.hid (HV.out.below (HB2.out.mono hB))
  have HP1 : Hid (∀ n, _) := Lib.hid fun n => Calls.quiet_of_same (w := w2) (n := n) (place_q _ V u _ _ (HVR.out.drewN n) HR.out.vup HP.out)
  have HP2 : Hid (∀ n, _) := Lib.hid fun n => Calls.quiet_of_same (w := w2) (n := n) (place_q _ V v _ _ (HVR.out.drewN n) HR.out.vup HQ.out)
  rw [← HPI.out] at HP1
  rw [← HQI.out] at HP2
  obtain ⟨jb, hjb⟩ : ∃ jb, jb = (la == lb) := ⟨_, rfl⟩
  have HJB : Hid (joinedB V E u v = jb) := Lib.hid (by
    unfold joinedB
    rw [hjb, hla, hlb, hL, HPI.out, HQI.out, Bool.eq_iff_iff]
    simp
    omega)
  have hjd : (la == lb) = jb := hjb.symm
  have hpd : (pi : Int) < (n : Int) := by omega
  have hqd : (qi : Int) < (n : Int) := by omega
  have d0 := HNb2.out.cell 0
  have d1 := HNb2.out.cell 1
  clear c0 c1 hla hlb hL hLl hjb ho hb2
  go_wp2_with fail
  go_quiet (first
    | (go_at_call 46; with_reducible exact HP1.out _)
    | (go_at_call 46; with_reducible exact HP2.out _))
  go_wp2_with fail
  go_ret2
  exact ⟨by rw [HJB.out]; rfl, below_drewN HB2.out _⟩

theorem refForest_no (sv se : Value) (V : List Int) (E : List Ed) (w : World) (B : Nat) (hv : RI w B sv V) (he : RE w B se E) (hB : B ≤ w.heap.size) (hr : rightN V E = false) :
    Calls Tryz.prog 15 #[netV sv se] w fun e w' => e = .returned (.tuple #[.slice none 0 0, .int .i64 60]) ∧ Below w.heap.size w w' := by
  have HV := Lib.hid hv
  have HE := Lib.hid he
  clear hv he
  go_enter Tryz.func15, Tryz.ntmps15
  go_wp2_with fail
  refine (refCheck_any _ _ V E _ B (HV.out.alloc hB _) (HE.out.alloc hB _) (by simp; omega)).mono ?_
  rw [refChk_no hr]
  rintro e w1 ⟨rfl, hb⟩
  have HB1 : Hid (Below w.heap.size w w1) := Lib.hid (((Below.refl _ _).alloc (Nat.le_refl _) _).trans (hb.mono (by simp)))
  clear hb
  go_wp2_with fail
  go_ret2
  exact ⟨rfl, HB1.out⟩

theorem refWeight_no (sv se : Value) (V : List Int) (E : List Ed) (w : World) (B : Nat) (hv : RI w B sv V) (he : RE w B se E) (hB : B ≤ w.heap.size) (hr : rightN V E = false) :
    Calls Tryz.prog 17 #[netV sv se] w fun e w' => e = .returned (.tuple #[.int .i64 0, .int .i64 60]) ∧ Below w.heap.size w w' := by
  have HV := Lib.hid hv
  have HE := Lib.hid he
  clear hv he
  go_enter Tryz.func17, Tryz.ntmps17
  go_wp2_with fail
  refine (refCheck_any _ _ V E _ B (HV.out.alloc hB _) (HE.out.alloc hB _) (by simp; omega)).mono ?_
  rw [refChk_no hr]
  rintro e w1 ⟨rfl, hb⟩
  have HB1 : Hid (Below w.heap.size w w1) := Lib.hid (((Below.refl _ _).alloc (Nat.le_refl _) _).trans (hb.mono (by simp)))
  clear hb
  go_wp2_with fail
  go_ret2
  exact ⟨rfl, HB1.out⟩

set_option maxRecDepth 100000 in
set_option maxHeartbeats 4000000 in
theorem refForest_ok (sv se : Value) (V : List Int) (E : List Ed) (w : World) (B : Nat) (hv : RI w B sv V) (he : RE w B se E) (hB : B ≤ w.heap.size) (hr : rightN V E = true) :
    Calls Tryz.prog 15 #[netV sv se] w fun e w' => ∃ lv, e = .returned (.tuple #[lv, .int .i64 0]) ∧ OK encI 1 3 w' w.heap.size lv (forestL V E) ∧ Below w.heap.size w w' := by
  have HR : Hid (Right V E) := Lib.hid (right_of hr)
  have HV := Lib.hid hv
  have HE := Lib.hid he
  have hfl := forE_len V E
  have hel := HR.out.elen
  clear hv he
  go_enter Tryz.func15, Tryz.ntmps15
  go_wp2_with fail
  refine (refCheck_any _ _ V E _ B (HV.out.alloc hB _) (HE.out.alloc hB _) (by simp; omega)).mono ?_
  rw [refChk_yes hr]
  rintro e w1 ⟨rfl, hb⟩
  have HNb : Hid (Blk w1 w.heap.size 25 #[sv, se]) := Lib.hid ((Blk.new w 25 #[sv, se]).below hb (by simp))
  have HB1 : Hid (Below w.heap.size w w1) := Lib.hid (((Below.refl _ _).alloc (Nat.le_refl _) _).trans (hb.mono (by simp)))
  clear hb hr
  have hz1 := HNb.out.lt
  have c0 := HNb.out.cell 0
  have c1 := HNb.out.cell 1
  go_wp2_with fail
  refine (Taken_any _ _ V E _ B (HV.out.below (HB1.out.mono hB)) (HE.out.below (HB1.out.mono hB)) (by omega) HR.out).mono ?_
  rintro e Wo ⟨x, rfl, ho, hb2⟩
  have HBo : Hid (Below w.heap.size w Wo) := Lib.hid (HB1.out.trans (hb2.mono (by omega)))
  obtain ⟨F, hF⟩ : ∃ F, F = forE V E := ⟨_, rfl⟩
  rw [← hF] at ho hfl
  have HF := Lib.hid hF
  have HFI : Hid (sortIds (F.map (·.id)) = forestL V E) := Lib.hid (by rw [hF]; exact sortIds_forest HR.out)
  obtain ⟨As, cs, rfl, -, -, -, HD⟩ := (ho.rk (B' := Wo.heap.size) encE_len (Nat.le_refl _)).open_
  obtain ⟨m, hm⟩ : ∃ m, m = F.length := ⟨_, rfl⟩
  rw [← hm] at hfl ⊢
  have HM := Lib.hid hm
  have hzo := HBo.out.size
  clear c0 c1 ho hb2 hF hm
  go_wp2_with fail
  go_loopw [6, 7] (fun t i wr => ∃ (A6 : Option Addr) (m6 c6 k : Nat), k ≤ m ∧ t = .slice A6 m6 c6 ∧ i = .int .i64 k ∧ Hid (Below Wo.heap.size Wo wr) ∧ Hid (OK encI 1 3 wr Wo.heap.size (.slice A6 m6 c6) (sortIds ((F.map (·.id)).take k)))) (fun _ i _ => m - (intOf i).toNat)
  case atStart => exact ⟨_, _, _, 0, Nat.zero_le _, rfl, rfl, Lib.hid ((Below.refl _ _).alloc (Nat.le_refl _) _), Lib.hid ⟨by simp [sortIds], World.ownsRow_lit Wo #[] 0 (by omega) (by decide) rfl⟩⟩
  case round =>
    obtain ⟨A6, m6, c6, k, hk, rfl, rfl, HB, HO⟩ := hrel
    have hz := HB.out.size
    by_cases hkm : k < m
    · have hkv : k < F.length := by have := HM.out; omega
      obtain ⟨b2, o2, rfl, hb2, hx⟩ := HD.out k hkv
      obtain ⟨⟨id, p, q, wt⟩, hy⟩ : ∃ y, y = F[k] := ⟨_, rfl⟩
      have HTK : Hid (sortIds ((F.map (·.id)).take (k + 1)) = insI id (sortIds ((F.map (·.id)).take k))) := Lib.hid (by
        rw [List.take_succ_eq_append_getElem (by simpa using hkv), sortIds_snoc, List.getElem_map, ← hy])
      rw [← hy] at hx
      obtain ⟨x0, -, -, -⟩ := cellE hx
      dsimp only at x0
      have x0 := (HB.out.cell (p := ⟨b2, o2 + k * 4, none⟩) hb2).trans x0
      have hkd : (k : Int) < (m : Int) := by omega
      have HLN : Hid ((sortIds ((F.map (·.id)).take k)).length ≤ k) := Lib.hid (by rw [sortIds_len]; simp; omega)
      clear hx hy
      go_wp2_with fail
      refine (With_any _ _ id _ wr.heap.size (HO.out.rk encI_len (Nat.le_refl _)) (Nat.le_refl _) (by have := HLN.out; omega)).mono ?_
      rintro e w3 ⟨v3, rfl, ho3, hb3⟩
      rw [← HTK.out] at ho3
      obtain ⟨A7, m7, c7, rfl⟩ := ho3.slice3
      have HO3 := Lib.hid (ho3.base hz)
      have HB3 := Lib.hid (HB.out.trans (hb3.mono hz))
      clear ho3 hb3 x0
      go_wp2_with fail
      go_roundw
      case rel => exact ⟨A7, m7, c7, k + 1, by omega, rfl, by go_num, HB3, HO3⟩
      case measure => simp [intOf]; omega
    · obtain rfl : k = m := by omega
      have hkd : decide ((k : Int) < (k : Int)) = false := by simp
      go_wp2_with fail
      go_ret2
      refine ⟨_, rfl, ?_, HBo.out.trans (HB.out.mono hzo)⟩
      have := HO.out
      rw [List.take_of_length_le (by have := HM.out; simp; omega), HFI.out] at this
      exact this.base hzo

set_option maxRecDepth 100000 in
set_option maxHeartbeats 4000000 in
theorem refWeight_ok (sv se : Value) (V : List Int) (E : List Ed) (w : World) (B : Nat) (hv : RI w B sv V) (he : RE w B se E) (hB : B ≤ w.heap.size) (hr : rightN V E = true) :
    Calls Tryz.prog 17 #[netV sv se] w fun e w' => e = .returned (toldT (weightV V E)) ∧ Below w.heap.size w w' := by
  have HR : Hid (Right V E) := Lib.hid (right_of hr)
  have HV := Lib.hid hv
  have HE := Lib.hid he
  have hfl := forE_len V E
  have hel := HR.out.elen
  clear hv he
  have HWB : Hid (∀ k, 0 ≤ sumW ((forE V E).take k) ∧ sumW ((forE V E).take k) ≤ 2251799813685248) := Lib.hid (by
    intro k
    have h1 := sumW_bd ((forE V E).take k) fun e he => HR.out.ew e (forE_sub V E e (List.mem_of_mem_take he))
    have h2 := List.length_take_le' k (forE V E)
    omega)
  have HEE : Hid (∀ e ∈ forE V E, 0 ≤ e.w ∧ e.w ≤ 1099511627776) := Lib.hid fun e he => HR.out.ew e (forE_sub V E e he)
  unfold weightV
  obtain ⟨F, hF⟩ : ∃ F, F = forE V E := ⟨_, rfl⟩
  rw [← hF] at hfl HWB HEE ⊢
  have HF := Lib.hid hF
  clear hF
  go_enter Tryz.func17, Tryz.ntmps17
  go_wp2_with fail
  refine (refCheck_any _ _ V E _ B (HV.out.alloc hB _) (HE.out.alloc hB _) (by simp; omega)).mono ?_
  rw [refChk_yes hr]
  rintro e w1 ⟨rfl, hb⟩
  have HNb : Hid (Blk w1 w.heap.size 25 #[sv, se]) := Lib.hid ((Blk.new w 25 #[sv, se]).below hb (by simp))
  have HB1 : Hid (Below w.heap.size w w1) := Lib.hid (((Below.refl _ _).alloc (Nat.le_refl _) _).trans (hb.mono (by simp)))
  clear hb hr
  have hz1 := HNb.out.lt
  have c0 := HNb.out.cell 0
  have c1 := HNb.out.cell 1
  go_wp2_with fail
  refine (Taken_any _ _ V E _ B (HV.out.below (HB1.out.mono hB)) (HE.out.below (HB1.out.mono hB)) (by omega) HR.out).mono ?_
  rintro e Wo ⟨x, rfl, ho, hb2⟩
  have HBo : Hid (Below w.heap.size w Wo) := Lib.hid (HB1.out.trans (hb2.mono (by omega)))
  rw [← HF.out] at ho
  obtain ⟨As, cs, rfl, -, -, -, HD⟩ := (ho.rk (B' := Wo.heap.size) encE_len (Nat.le_refl _)).open_
  obtain ⟨m, hm⟩ : ∃ m, m = F.length := ⟨_, rfl⟩
  rw [← hm] at hfl ⊢
  have HM := Lib.hid hm
  have hzo := HBo.out.size
  clear c0 c1 ho hb2 hm
  go_wp2_with fail
  go_loopw [6, 7] (fun t i wr => ∃ (s : Int) (k : Nat), k ≤ m ∧ t = .int .i64 s ∧ i = .int .i64 k ∧ Hid (s = sumW (F.take k)) ∧ Hid (wr = Wo)) (fun _ i _ => m - (intOf i).toNat)
  case atStart => exact ⟨0, 0, Nat.zero_le _, rfl, rfl, Lib.hid rfl, Lib.hid rfl⟩
  case round =>
    obtain ⟨s, k, hk, rfl, rfl, HS, HW⟩ := hrel
    have hsb : 0 ≤ s ∧ s ≤ 2251799813685248 := by rw [HS.out]; exact HWB.out k
    obtain ⟨hs0, hs1⟩ := hsb
    by_cases hkm : k < m
    · have hkv : k < F.length := by have := HM.out; omega
      obtain ⟨b2, o2, rfl, hb2, hx⟩ := HD.out k hkv
      obtain ⟨⟨id, p, q, wt⟩, hy⟩ : ∃ y, y = F[k] := ⟨_, rfl⟩
      have HTK : Hid (sumW (F.take (k + 1)) = sumW (F.take k) + wt) := Lib.hid (by
        rw [List.take_succ_eq_append_getElem hkv, sumW_snoc, ← hy])
      have hw := HEE.out _ (List.getElem_mem hkv)
      rw [← hy] at hx hw
      obtain ⟨-, -, -, x3⟩ := cellE hx
      dsimp only at x3 hw
      rw [← HW.out] at x3
      obtain ⟨hw0, hw1⟩ := hw
      have hkd : (k : Int) < (m : Int) := by omega
      clear hx hy
      go_wp2_with fail
      go_roundw
      case rel => exact ⟨s + wt, k + 1, by omega, by go_num, by go_num, Lib.hid (by rw [HTK.out, HS.out]), HW⟩
      case measure => simp [intOf]; omega
    · obtain rfl : k = m := by omega
      have hkd : decide ((k : Int) < (k : Int)) = false := by simp
      have HST : Hid (sumW F = s) := Lib.hid (by rw [HS.out, List.take_of_length_le (by have := HM.out; omega)])
      by_cases hbig : 70368744177664 < s
      · go_wp2_with fail
        go_ret2
        exact ⟨by rw [HST.out, toldT_hi hbig]; rfl, by rw [HW.out]; exact HBo.out⟩
      · go_wp2_with fail
        go_ret2
        exact ⟨by rw [HST.out, toldT_lo (by omega)]; rfl, by rw [HW.out]; exact HBo.out⟩

end Go.Proofs.YtghacfhpafbdmaaGreat

/-
  The walk of skeinref06.Trees.
-/
namespace Go.Proofs.YtghacfhpafbdmaaGreat
open Go.RowKit
set_option linter.unusedVariables false

theorem refTrees_no (sv se : Value) (V : List Int) (E : List Ed) (w : World) (B : Nat) (hv : RI w B sv V) (he : RE w B se E) (hB : B ≤ w.heap.size) (hr : rightN V E = false) :
    Calls Tryz.prog 26 #[netV sv se] w fun e w' => e = .returned (.tuple #[.slice none 0 0, .int .i64 60]) ∧ Below w.heap.size w w' := by
  have HV := Lib.hid hv
  have HE := Lib.hid he
  clear hv he
  go_enter Tryz.func26, Tryz.ntmps26
  go_wp2_with fail
  refine (refCheck_any _ _ V E _ B (HV.out.alloc hB _) (HE.out.alloc hB _) (by simp; omega)).mono ?_
  rw [refChk_no hr]
  rintro e w1 ⟨rfl, hb⟩
  have HB1 : Hid (Below w.heap.size w w1) := Lib.hid (((Below.refl _ _).alloc (Nat.le_refl _) _).trans (hb.mono (by simp)))
  clear hb
  go_wp2_with fail
  go_ret2
  exact ⟨rfl, HB1.out⟩

def encSl (t : Sl) : List Value := [encS t]
theorem encSl_len (t : Sl) : (encSl t).length = 1 := rfl
theorem encSl_one (t : Sl) : ∀ u ∈ encSl t, u.oneCell' = true := by intro u hu; simp [encSl, encS] at hu; subst hu; rfl
theorem etLists : ElemT 57 22 1 24 := elemT_of (z := .slice none 0 0) Tryz.underlying57 (by kernel_rfl) (by kernel_rfl) (by decide) (by decide) (by decide)

/-- Rows of one's own, a list for each. -/
def RowsOf (w : World) (B : Nat) (ts : List Sl) (ls : List (List Int)) : Prop := ts.length = ls.length ∧ ∀ (p : Nat) t l, ts[p]? = some t → ls[p]? = some l → OK encI 1 3 w B (encS t) l

theorem RowsOf.nil (w : World) (B : Nat) : RowsOf w B [] [] := ⟨rfl, fun p t l h => by simp at h⟩

theorem RowsOf.below {w w' : World} {B : Nat} {ts : List Sl} {ls : List (List Int)} (h : RowsOf w B ts ls) (hb : Below w.heap.size w w') : RowsOf w' B ts ls := ⟨h.1, fun p t l h1 h2 => (h.2 p t l h1 h2).below hb⟩

theorem RowsOf.kept {w w' : World} {B : Nat} {ts : List Sl} {ls : List (List Int)} {v : Value} {xs : List Sl} {B2 : Nat} (h : RowsOf w B ts ls) (ho : OK encSl 1 22 w B2 v xs) (hg : w.grownBy w' v.ownBlock) : RowsOf w' B ts ls :=
  ⟨h.1, fun p t l h1 h2 => (h.2 p t l h1 h2).kept hg (own_ne (h.2 p t l h1 h2) ho (by decide))⟩

theorem RowsOf.snoc {w : World} {B : Nat} {ts : List Sl} {ls : List (List Int)} {t : Sl} {l : List Int} (h : RowsOf w B ts ls) (h1 : OK encI 1 3 w B (encS t) l) : RowsOf w B (ts ++ [t]) (ls ++ [l]) := by
  refine ⟨by simp [h.1], fun p t2 l2 h2 h3 => ?_⟩
  by_cases hp : p < ts.length
  · rw [List.getElem?_append_left hp] at h2
    rw [List.getElem?_append_left (by rw [← h.1]; exact hp)] at h3
    exact h.2 p t2 l2 h2 h3
  · rw [List.getElem?_append_right (by omega)] at h2
    rw [List.getElem?_append_right (by rw [← h.1]; omega), ← h.1] at h3
    have h4 : p - ts.length = 0 := by
      have := (List.getElem?_eq_some_iff.1 h2).1
      simp at this
      omega
    rw [h4] at h2 h3
    simp at h2 h3
    subst h2 h3
    exact h1

theorem RowsOf.rls {w : World} {B : Nat} {v : Value} {ts : List Sl} {ls : List (List Int)} (h : RowsOf w B ts ls) (ho : OK encSl 1 22 w B v ts) : RLs w w.heap.size v ls :=
  ⟨ts, h.1, ho.rk encSl_len (Nat.le_refl _), fun p t l h1 h2 => (h.2 p t l h1 h2).rk encI_len (Nat.le_refl _)⟩

theorem oneSl (w : World) (t : Sl) (ty : TypeId) : ∀ (j : Nat) u, (encSl t)[j]? = some u → (w.alloc (.cells #[encS t] ty)).cell? ⟨w.heap.size, j, none⟩ = some u := by
  intro j u hu; rw [(Blk.new w _ _).cell j]; simpa [encSl] using hu

set_option maxRecDepth 100000 in
set_option maxHeartbeats 8000000 in
theorem refTrees_ok (sv se : Value) (V : List Int) (E : List Ed) (w : World) (B : Nat) (hv : RI w B sv V) (he : RE w B se E) (hB : B ≤ w.heap.size) (hr : rightN V E = true) :
    Calls Tryz.prog 26 #[netV sv se] w fun e w' => ∃ lv, e = .returned (.tuple #[lv, .int .i64 0]) ∧ RLs w' w'.heap.size lv (treesL V E) ∧ Below w.heap.size w w' := by
  have HR : Hid (Right V E) := Lib.hid (right_of hr)
  have HV := Lib.hid (hv.more hB)
  have HE := Lib.hid (he.more hB)
  obtain ⟨Av, cv, rfl, -, -, -, HC⟩ := HV.out.open_
  obtain ⟨Ae, ce, rfl, -, -, -, -⟩ := HE.out.open_
  clear hv he
  have hlV : V.length ≤ 2048 := HR.out.vlen
  obtain ⟨n, hn⟩ : ∃ n, n = V.length := ⟨_, rfl⟩
  obtain ⟨ne, hne⟩ : ∃ n, n = E.length := ⟨_, rfl⟩
  rw [← hn] at HV hlV ⊢
  rw [← hne] at HE ⊢
  have HN := Lib.hid hn
  clear hn hne
  go_enter Tryz.func26, Tryz.ntmps26
  go_wp2_with fail
  refine (refCheck_any _ _ V E _ w.heap.size (HV.out.alloc (Nat.le_refl _) _) (HE.out.alloc (Nat.le_refl _) _) (by simp)).mono ?_
  rw [refChk_yes hr]
  rintro e w1 ⟨rfl, hb⟩
  have HNb : Hid (Blk w1 w.heap.size 25 #[.slice Av n cv, .slice Ae ne ce]) := Lib.hid ((Blk.new w 25 #[.slice Av n cv, .slice Ae ne ce]).below hb (by simp))
  have HB1 : Hid (Below w.heap.size w w1) := Lib.hid (((Below.refl _ _).alloc (Nat.le_refl _) _).trans (hb.mono (by simp)))
  clear hb hr
  have hz1 := HNb.out.lt
  have c0 := HNb.out.cell 0
  have c1 := HNb.out.cell 1
  go_wp2_with fail
  refine (Sets_any _ _ V E _ ((HV.out.below HB1.out).more (by omega)) ((HE.out.below HB1.out).more (by omega)) HR.out.vup (fun e he => ⟨HR.out.eu e he, HR.out.ev e he⟩) (by have := HR.out.vlen; omega) (by have := HR.out.elen; omega)).mono ?_
  rintro e Wo ⟨x, rfl, ho, hb2⟩
  have HNo : Hid (Blk Wo w.heap.size 25 #[.slice Av n cv, .slice Ae ne ce]) := Lib.hid (HNb.out.below hb2 hz1)
  have HBo : Hid (Below w.heap.size w Wo) := Lib.hid (HB1.out.trans (hb2.mono (by omega)))
  have hzo := HNo.out.lt
  obtain ⟨L, hL⟩ : ∃ L, L = labs V E := ⟨_, rfl⟩
  rw [← hL] at ho
  have HLL : Hid (L.length = n) := Lib.hid (by rw [hL, labs_len]; exact HN.out.symm)
  have HLOK : Hid (LabOk L) := Lib.hid (by rw [hL]; exact labs_ok HR.out.vup fun e he => ⟨HR.out.eu e he, HR.out.ev e he⟩)
  have HTR : Hid (treesTo V L V.length = treesL V E) := Lib.hid (by rw [hL]; exact treesTo_all HR.out)
  obtain ⟨As, cs, hsl, -, -, -, HD⟩ := (ho.rk (B' := Wo.heap.size) encI_len (Nat.le_refl _)).open_
  rw [natsI_len, HLL.out] at hsl
  subst hsl
  have HLA : Hid (∀ i, i < n → ∃ h : i < (natsI L).length, (natsI L)[i] = ((lab L i : Nat) : Int)) := Lib.hid fun i hi => by
    have h1 := natsI_at (L := L) (i := i) (by have := HLL.out; omega)
    obtain ⟨h2, h3⟩ := List.getElem?_eq_some_iff.1 h1
    exact ⟨h2, h3⟩
  have HCo := Lib.hid (HV.out.below HBo.out)
  clear c0 c1 ho hb2 hL HC
  obtain ⟨Av2, cv2, hav, -, -, -, HC⟩ := (HCo.out.more (B' := Wo.heap.size) (by omega)).open_
  rw [← HN.out] at hav
  injection hav with hav1 _ hav2
  subst hav1 hav2
  go_wp2_with fail
  go_loopw [6, 7] (fun t i wr => ∃ (A6 : Option Addr) (m6 c6 i6 : Nat) (ts : List Sl), i6 ≤ n ∧ t = .slice A6 m6 c6 ∧ i = .int .i64 i6 ∧ Hid (Below Wo.heap.size Wo wr) ∧ Hid (OK encSl 1 22 wr Wo.heap.size (.slice A6 m6 c6) ts) ∧ Hid (RowsOf wr Wo.heap.size ts (treesTo V L i6))) (fun _ i _ => n - (intOf i).toNat)
  case atStart => exact ⟨_, _, _, 0, [], Nat.zero_le _, rfl, rfl, Lib.hid ((Below.refl _ _).alloc (Nat.le_refl _) _), Lib.hid ⟨by simp, World.ownsRow_lit Wo #[] 0 (by omega) (by decide) rfl⟩, Lib.hid (RowsOf.nil _ _)⟩
  case round =>
    obtain ⟨A6, m6, c6, i6, ts, hi6, rfl, rfl, HB, HO, HT⟩ := hrel
    obtain ⟨Wi, hWi⟩ : ∃ W, W = wr := ⟨_, rfl⟩
    rw [← hWi] at HB HO HT ⊢
    clear hWi wr
    have hz := HB.out.size
    have hnb := HNo.out.below HB.out hzo
    have d0 := hnb.cell 0
    have d1 := hnb.cell 1
    by_cases hin : i6 < n
    · obtain ⟨hs1, hs2⟩ := HLA.out i6 hin
      obtain ⟨b3, o3, hb3e, hb3, hx3⟩ := HD.out i6 hs1
      rw [hs2] at hx3
      obtain ⟨x, hx⟩ : ∃ x : Int, x = (lab L i6 : Nat) := ⟨_, rfl⟩
      rw [← hx] at hx3
      have x3 := (HB.out.cell (p := ⟨b3, o3 + i6, none⟩) hb3).trans (cellI hx3)
      have HX := Lib.hid hx
      have HAS := Lib.hid hb3e
      clear hs2 hs1 hx3 hx hnb hb3e
      have hid : (i6 : Int) < (n : Int) := by omega
      by_cases hxi : x = (i6 : Int)
      · have HFI : Hid (lab L i6 = i6) := Lib.hid (by have := HX.out; omega)
        have hxd : (x == (i6 : Int)) = true := by simpa using hxi
        have hb3e := HAS.out
        subst hb3e
        clear hxi
        go_wp2_with fail
        go_loopw [8, 9] (fun t k wr => ∃ (A8 : Option Addr) (m8 c8 k9 : Nat), i6 ≤ k9 ∧ k9 ≤ n ∧ t = .slice A8 m8 c8 ∧ k = .int .i64 k9 ∧ Hid (Below Wi.heap.size Wi wr) ∧ Hid (OK encI 1 3 wr Wi.heap.size (.slice A8 m8 c8) (mem L V k9 i6))) (fun _ k _ => n - (intOf k).toNat)
        case atStart => exact ⟨_, _, _, i6, Nat.le_refl _, hi6, rfl, rfl, Lib.hid ((Below.refl _ _).alloc (Nat.le_refl _) _), Lib.hid (by rw [mem_from HLOK.out (V := V) (by rw [HLL.out, HN.out]) (by rw [← HN.out]; exact hi6) (Nat.le_refl _)]; exact ⟨by simp, World.ownsRow_lit Wi #[] 0 (by omega) (by decide) rfl⟩)⟩
        case round =>
          clear d0 d1 x3
          obtain ⟨A8, m8, c8, k, hik, hkn, rfl, rfl, HB2, HO2⟩ := hrel
          have hz2 := HB2.out.size
          have HBB : Hid (Below Wo.heap.size Wo wr) := Lib.hid (HB.out.trans (HB2.out.mono hz))
          have hnb := HNo.out.below HBB.out hzo
          have d0 := hnb.cell 0
          have d1 := hnb.cell 1
          clear hnb
          by_cases hkl : k < n
          · obtain ⟨hs1, hs2⟩ := HLA.out k hkl
            obtain ⟨b4, o4, hb4e, hb4, hx4⟩ := HD.out k hs1
            rw [hs2] at hx4
            injection hb4e with hb4e
            injection hb4e with e1 e2
            subst e1 e2
            obtain ⟨y, hy⟩ : ∃ x : Int, x = (lab L k : Nat) := ⟨_, rfl⟩
            rw [← hy] at hx4
            have x4 := (HBB.out.cell (p := ⟨b3, o3 + k, none⟩) hb4).trans (cellI hx4)
            obtain ⟨b7, o7, hb7e, hb7, hx7⟩ := HC.out k (by have := HN.out; omega)
            obtain ⟨z, hz'⟩ : ∃ z, z = V[k]'(by have := HN.out; omega) := ⟨_, rfl⟩
            rw [← hz'] at hx7
            have x7 := (HBB.out.cell (p := ⟨b7, o7 + k, none⟩) hb7).trans (cellI hx7)
            have HM := Lib.hid (mem_succ L V k i6)
            have HG : Hid (V.getD k 0 = z) := Lib.hid (by rw [hz']; simp [List.getD, List.getElem?_eq_getElem (show k < V.length by have := HN.out; omega)])
            rw [HG.out] at HM
            have HY := Lib.hid hy
            have HML := Lib.hid (mem_len L V k i6)
            clear hx4 hx7 hs2 hs1 hy hz'
            have hkd : (k : Int) < (n : Int) := by omega
            by_cases hyi : y = (i6 : Int)
            · have hyd : (y == (i6 : Int)) = true := by simpa using hyi
              have HMT : Hid (mem L V (k + 1) i6 = mem L V k i6 ++ [z]) := Lib.hid (by rw [HM.out, if_pos (by have := HY.out; omega)])
              subst hb7e
              clear hyi
              go_wp2_with (at_builtin; refine wpList_app1 etInts encI_len encI_one (y := z) rfl (.tmp 49) (.tmp 55) rfl rfl (HO2.out.alloc _) wr.heap.size rfl (oneI wr z _) (by have := HML.out; omega) (by simp; omega) ?_; intro v5 w5 ho5 hg5 hb5; have HO5 := Lib.hid ho5; have HG5 := Lib.hid hg5; clear ho5 hg5 hb5)
              obtain ⟨A9, m9, c9, rfl⟩ := HO5.out.slice3
              go_wp2_with fail
              go_roundw
              case rel => exact ⟨A9, m9, c9, k + 1, by omega, by omega, rfl, by go_num, Lib.hid ((HB2.out.alloc hz2 _).grown HG5.out (by simp; omega) (fun q hq => (HO2.out.lt q hq).1)), Lib.hid (by rw [HMT.out]; exact HO5.out)⟩
              case measure => simp [intOf]; omega
            · have hyd : (y == (i6 : Int)) = false := by simpa using hyi
              have HMT : Hid (mem L V (k + 1) i6 = mem L V k i6) := Lib.hid (by rw [HM.out, if_neg (by have := HY.out; omega)])
              go_wp2_with fail
              go_roundw
              case rel => exact ⟨A8, m8, c8, k + 1, by omega, by omega, rfl, by go_num, HB2, Lib.hid (by rw [HMT.out]; exact HO2.out)⟩
              case measure => simp [intOf]; omega
          · obtain rfl : k = n := by omega
            have hkd : decide ((k : Int) < (k : Int)) = false := by simp
            have HOo : Hid (OK encSl 1 22 wr Wo.heap.size (.slice A6 m6 c6) ts) := Lib.hid (HO.out.below HB2.out)
            have HTT : Hid (RowsOf wr Wo.heap.size ts (treesTo V L i6)) := Lib.hid (HT.out.below HB2.out)
            have HTL : Hid (ts.length ≤ i6) := Lib.hid (by rw [HT.out.1]; exact treesTo_len V L i6)
            have HNX : Hid (treesTo V L (i6 + 1) = treesTo V L i6 ++ [mem L V k i6]) := Lib.hid (by rw [treesTo_take HFI.out, ← HN.out])
            have hzb := HBB.out.size
            have HG1 : Hid (∀ (ob : Obj) w5, (wr.alloc ob).grownBy w5 (Value.slice A6 m6 c6).ownBlock → Below Wo.heap.size Wo w5 ∧ RowsOf w5 Wo.heap.size (ts ++ [(A8, m8, c8)]) (treesTo V L (i6 + 1))) := Lib.hid fun ob w5 hg => by
              refine ⟨(HBB.out.alloc hzb _).grown hg (by simp; omega) (fun q hq => (HOo.out.lt q hq).1), ?_⟩
              rw [HNX.out]
              refine ((HTT.out.below ((Below.refl _ _).alloc (Nat.le_refl _) _)).kept (HOo.out.alloc ob) hg).snoc ?_
              exact ((HO2.out.alloc ob).kept hg (own_ne (HO2.out.alloc ob) (HOo.out.alloc ob) (by decide))).base hz
            go_wp2_with (at_builtin; refine wpList_app1 etLists encSl_len encSl_one (y := ((A8, m8, c8) : Sl)) rfl (.tmp 57) (.tmp 59) rfl rfl (HOo.out.alloc _) wr.heap.size rfl (oneSl wr (A8, m8, c8) _) (by have := HTL.out; omega) (by simp; omega) ?_; intro v5 w5 ho5 hg5 hb5; have HO5 := Lib.hid ho5; have HB5 := Lib.hid (HG1.out _ _ hg5).1; have HT5 := Lib.hid (HG1.out _ _ hg5).2; clear ho5 hg5 hb5)
            obtain ⟨A9, m9, c9, rfl⟩ := HO5.out.slice3
            go_wp2_with fail
            go_roundw
            case rel => exact ⟨A9, m9, c9, i6 + 1, _, by omega, rfl, by go_num, HB5, HO5, HT5⟩
            case measure => simp [intOf]; omega
      · have hxd : (x == (i6 : Int)) = false := by simpa using hxi
        have HNX : Hid (treesTo V L (i6 + 1) = treesTo V L i6) := Lib.hid (treesTo_skip (by have := HX.out; omega))
        have hb3e := HAS.out
        subst hb3e
        go_wp2_with fail
        go_roundw
        case rel => exact ⟨A6, m6, c6, i6 + 1, ts, by omega, rfl, by go_num, HB, HO, Lib.hid (by rw [HNX.out]; exact HT.out)⟩
        case measure => simp [intOf]; omega
    · obtain rfl : i6 = n := by omega
      have hid : decide ((i6 : Int) < (i6 : Int)) = false := by simp
      go_wp2_with fail
      go_ret2
      refine ⟨_, rfl, ?_, HBo.out.trans (HB.out.mono HBo.out.size)⟩
      have := HT.out
      rw [HN.out, HTR.out] at this
      exact this.rls HO.out

end Go.Proofs.YtghacfhpafbdmaaGreat
