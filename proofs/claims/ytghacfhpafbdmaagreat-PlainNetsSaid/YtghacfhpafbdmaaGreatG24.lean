/-
  The walks of plain's Forest and Weight.
-/
import Derived.Test.YtghacfhpafbdmaaGreatG23
import Derived.Test.YtghacfhpafbdmaaGreatG3
namespace Go.Proofs.YtghacfhpafbdmaaGreat
open Go.RowKit Go.Sort
set_option linter.unusedVariables false

def forestL (V : List Int) (E : List Ed) : List Int := ((forE V E).map (·.id)).mergeSort fun x y => decide (x ≤ y)

set_option maxHeartbeats 1000000 in
theorem Forest_no (sv se : Value) (V : List Int) (E : List Ed) (w : World) (B : Nat) (hv : RI w B sv V) (he : RE w B se E) (hB : B ≤ w.heap.size) (hr : rightN V E = false) :
    Calls Tryz.prog 14 #[netV sv se] w fun e w' => e = .returned (.tuple #[.slice none 0 0, .int .i64 60]) ∧ Below w.heap.size w w' := by
  have HV := Lib.hid hv
  have HE := Lib.hid he
  clear hv he
  go_enter Tryz.func14, Tryz.ntmps14
  go_wp2_with fail
  refine (check_no _ _ V E _ B (HV.out.alloc hB _) (HE.out.alloc hB _) (by simp; omega) hr).mono ?_
  rintro e w1 ⟨rfl, hb⟩
  have HB1 : Hid (Below w.heap.size w w1) := ((Below.refl _ _).alloc (Nat.le_refl _) _).trans (hb.mono (by simp))
  clear hb hr
  go_wp2_with fail
  go_ret2
  exact ⟨rfl, HB1.out⟩

set_option maxRecDepth 100000 in
set_option maxHeartbeats 2000000 in
theorem Forest_ok (sv se : Value) (V : List Int) (E : List Ed) (w : World) (B : Nat) (hv : RI w B sv V) (he : RE w B se E) (hB : B ≤ w.heap.size) (hr : rightN V E = true) :
    Calls Tryz.prog 14 #[netV sv se] w fun e w' => ∃ lv, e = .returned (.tuple #[lv, .int .i64 0]) ∧ OK encI 1 3 w' w.heap.size lv (forestL V E) ∧ Below w.heap.size w w' := by
  have HR : Hid (Right V E) := right_of hr
  have HV := Lib.hid hv
  have HE := Lib.hid he
  have hfl := forE_len V E
  have hel := HR.out.elen
  clear hv he
  go_enter Tryz.func14, Tryz.ntmps14
  go_wp2_with fail
  refine (check_ok _ _ V E _ B (HV.out.alloc hB _) (HE.out.alloc hB _) (by simp; omega) hr).mono ?_
  rintro e w1 ⟨rfl, hb⟩
  have HB1 : Hid (Below (w.heap.size + 1) (w.alloc (.cells #[sv, se] 25)) w1) := hb.mono (by simp)
  have HW1 : Hid (Below w.heap.size w w1) := ((Below.refl _ _).alloc (Nat.le_refl _) _).trans (hb.mono (by simp))
  have hz1 := hb.size
  simp only [World.alloc, Array.size_push] at hz1
  clear hb hr
  have b0 : w1.cell? ⟨w.heap.size, 0, none⟩ = some sv := (HB1.out.cell (p := ⟨w.heap.size, 0, none⟩) (by show w.heap.size < _; omega)).trans (by simp)
  have b1 : w1.cell? ⟨w.heap.size, 1, none⟩ = some se := (HB1.out.cell (p := ⟨w.heap.size, 1, none⟩) (by show w.heap.size < _; omega)).trans (by simp)
  go_wp2_with fail
  refine (forest_any _ _ V E _ B (HV.out.below (HW1.out.mono hB)) (HE.out.below (HW1.out.mono hB)) (by omega) HR.out).mono ?_
  rintro e w2 ⟨fv, rfl, ho2, hb2⟩
  have hre : RE w2 w2.heap.size fv (forE V E) := ho2.rk encE_len (Nat.le_refl _)
  have HRE := Lib.hid hre
  have HW2 : Hid (Below w.heap.size w w2) := HW1.out.trans (hb2.mono (by omega))
  have hz2 := hb2.size
  clear hre ho2 hb2 b0 b1
  go_wp2_with fail
  refine (idsOf_any fv (forE V E) _ _ HRE.out (Nat.le_refl _) (by omega)).mono ?_
  rintro e w3 ⟨iv, rfl, ho3, hb3⟩
  have HO3 := Lib.hid ho3
  have HW3 : Hid (Below w.heap.size w w3) := HW2.out.trans (hb3.mono (by omega))
  clear ho3 hb3
  go_wp2_with fail
  refine (sortInts_any iv _ _ _ HO3.out (by rw [List.length_map]; omega)).mono ?_
  rintro e w4 ⟨rfl, ho4, hg4⟩
  have HO4 := Lib.hid ho4
  have HW4 : Hid (Below w.heap.size w w4) := HW3.out.trans (below_grownBy hg4 (by have := HW3.out.size; omega) (fun q hq => by have := (HO3.out.lt q hq).1; omega))
  clear ho4 hg4
  go_wp2_with fail
  go_ret2
  exact ⟨iv, rfl, HO4.out.base (by omega), HW4.out⟩

theorem told_hi (s : Int) (h : 70368744177664 < s) (w : World) : Calls Tryz.prog 52 #[.int .i64 s] w fun e w' => e = .returned (.tuple #[.int .i64 0, .int .i64 62]) ∧ w = w' := by
  have := told_any s w
  rwa [if_pos h, if_pos h] at this
theorem told_lo (s : Int) (h : ¬ 70368744177664 < s) (w : World) : Calls Tryz.prog 52 #[.int .i64 s] w fun e w' => e = .returned (.tuple #[.int .i64 s, .int .i64 0]) ∧ w = w' := by
  have := told_any s w
  rwa [if_neg h, if_neg h] at this

/-- A sum as it is told. -/
def toldT (s : Int) : Value := .tuple #[.int .i64 (if 70368744177664 < s then 0 else s), .int .i64 (if 70368744177664 < s then 62 else 0)]
theorem toldT_hi {s : Int} (h : 70368744177664 < s) : toldT s = .tuple #[.int .i64 0, .int .i64 62] := by unfold toldT; rw [if_pos h, if_pos h]
theorem toldT_lo {s : Int} (h : ¬ 70368744177664 < s) : toldT s = .tuple #[.int .i64 s, .int .i64 0] := by unfold toldT; rw [if_neg h, if_neg h]

def weightV (V : List Int) (E : List Ed) : Int := sumW (forE V E)
theorem sumW_snoc (p : List Ed) (e : Ed) : sumW (p ++ [e]) = sumW p + e.w := by rw [sumW_append]; simp
theorem sumW_bd : ∀ (p : List Ed), (∀ e ∈ p, 0 ≤ e.w ∧ e.w ≤ 1099511627776) → 0 ≤ sumW p ∧ sumW p ≤ 1099511627776 * p.length
  | [], _ => by simp
  | e :: r, h => by
    have h1 := h e (by simp)
    have h2 := sumW_bd r fun x hx => h x (by simp [hx])
    rw [sumW_cons, List.length_cons]
    omega

theorem Weight_no (sv se : Value) (V : List Int) (E : List Ed) (w : World) (B : Nat) (hv : RI w B sv V) (he : RE w B se E) (hB : B ≤ w.heap.size) (hr : rightN V E = false) :
    Calls Tryz.prog 16 #[netV sv se] w fun e w' => e = .returned (.tuple #[.int .i64 0, .int .i64 60]) ∧ Below w.heap.size w w' := by
  have HV := Lib.hid hv
  have HE := Lib.hid he
  clear hv he
  go_enter Tryz.func16, Tryz.ntmps16
  go_wp2_with fail
  refine (check_no _ _ V E _ B (HV.out.alloc hB _) (HE.out.alloc hB _) (by simp; omega) hr).mono ?_
  rintro e w1 ⟨rfl, hb⟩
  have HB1 : Hid (Below w.heap.size w w1) := ((Below.refl _ _).alloc (Nat.le_refl _) _).trans (hb.mono (by simp))
  clear hb hr
  go_wp2_with fail
  go_ret2
  exact ⟨rfl, HB1.out⟩

def WeiRel (W : World) (F : List Ed) (n : Nat) (t i : Value) (wr : World) : Prop :=
  ∃ k : Nat, k ≤ n ∧ i = .int .i64 k ∧ t = .int .i64 (sumW (F.take k)) ∧ Below W.heap.size W wr

set_option maxRecDepth 100000 in
set_option maxHeartbeats 2000000 in
theorem Weight_ok (sv se : Value) (V : List Int) (E : List Ed) (w : World) (B : Nat) (hv : RI w B sv V) (he : RE w B se E) (hB : B ≤ w.heap.size) (hr : rightN V E = true) :
    Calls Tryz.prog 16 #[netV sv se] w fun e w' => e = .returned (toldT (weightV V E)) ∧ Below w.heap.size w w' := by
  have HR : Hid (Right V E) := right_of hr
  have HV := Lib.hid hv
  have HE := Lib.hid he
  have hfl := forE_len V E
  have hel := HR.out.elen
  clear hv he
  have hwb : ∀ k, 0 ≤ sumW ((forE V E).take k) ∧ sumW ((forE V E).take k) ≤ 1099511627776 * 2048 := by
    intro k
    have h1 := sumW_bd ((forE V E).take k) fun e he => HR.out.ew e (forE_sub V E e (List.mem_of_mem_take he))
    have h2 := List.length_take_le' k (forE V E)
    omega
  have hee : ∀ e ∈ forE V E, 0 ≤ e.w ∧ e.w ≤ 1099511627776 := fun e he => HR.out.ew e (forE_sub V E e he)
  unfold weightV
  obtain ⟨F, hF⟩ : ∃ F, F = forE V E := ⟨_, rfl⟩
  rw [← hF] at hfl hwb hee ⊢
  have HF := Lib.hid hF
  have HWB := Lib.hid hwb
  have HEE := Lib.hid hee
  clear hwb hee hF
  go_enter Tryz.func16, Tryz.ntmps16
  go_wp2_with fail
  refine (check_ok _ _ V E _ B (HV.out.alloc hB _) (HE.out.alloc hB _) (by simp; omega) hr).mono ?_
  rintro e w1 ⟨rfl, hb⟩
  have HB1 : Hid (Below (w.heap.size + 1) (w.alloc (.cells #[sv, se] 25)) w1) := hb.mono (by simp)
  have HW1 : Hid (Below w.heap.size w w1) := ((Below.refl _ _).alloc (Nat.le_refl _) _).trans (hb.mono (by simp))
  have hz1 := hb.size
  simp only [World.alloc, Array.size_push] at hz1
  clear hb hr
  have b0 : w1.cell? ⟨w.heap.size, 0, none⟩ = some sv := (HB1.out.cell (p := ⟨w.heap.size, 0, none⟩) (by show w.heap.size < _; omega)).trans (by simp)
  have b1 : w1.cell? ⟨w.heap.size, 1, none⟩ = some se := (HB1.out.cell (p := ⟨w.heap.size, 1, none⟩) (by show w.heap.size < _; omega)).trans (by simp)
  go_wp2_with fail
  refine (forest_any _ _ V E _ B (HV.out.below (HW1.out.mono hB)) (HE.out.below (HW1.out.mono hB)) (by omega) HR.out).mono ?_
  rintro e w2 ⟨fv, rfl, ho2, hb2⟩
  rw [← HF.out] at ho2
  have hre : RE w2 w2.heap.size fv F := ho2.rk encE_len (Nat.le_refl _)
  have HW2 : Hid (Below w.heap.size w w2) := HW1.out.trans (hb2.mono (by omega))
  have hz2 := hb2.size
  clear ho2 hb2 b0 b1
  obtain ⟨A, c, rfl, hc1, hc2, hc3, HC⟩ := hre.open_
  clear hre
  obtain ⟨n, hn⟩ : ∃ n, n = F.length := ⟨_, rfl⟩
  rw [← hn] at hc1 hc3 hfl
  rw [← hn]
  have HN := Lib.hid hn
  clear hn
  go_wp2_with fail
  go_loopw [5, 16] (fun t i wr => WeiRel w2 F n t i wr) (fun _ i wr => n - (intOf i).toNat)
  case atStart => exact ⟨0, Nat.zero_le _, rfl, rfl, Below.refl _ _⟩
  case round =>
    obtain ⟨k, hk, rfl, rfl, hbel⟩ := hrel
    have HB := Lib.hid hbel
    have hz := hbel.size
    by_cases hlt : k < n
    · obtain ⟨b, o, rfl, hb, hx⟩ := HC.out k (by have := HN.out; omega)
      obtain ⟨e, hy⟩ : ∃ e, e = F[k]'(by have := HN.out; omega) := ⟨_, rfl⟩
      have hT : sumW (F.take (k + 1)) = sumW (F.take k) + e.w := by
        rw [List.take_succ_eq_append_getElem (by have := HN.out; omega), sumW_snoc, ← hy]
      have hw1 := HWB.out k
      have hw2 := HWB.out (k + 1)
      have hew := HEE.out e (by rw [hy]; exact List.getElem_mem _)
      rw [hT] at hw2
      rw [← hy] at hx
      obtain ⟨x0, x1, x2, x3⟩ := cellE hx
      have HT := Lib.hid hT
      clear hx hy hT
      have x0 := (hbel.cell (p := ⟨b, o + k * 4, none⟩) (by show b < _; omega)).trans x0
      have x1 := (hbel.cell (p := ⟨b, o + k * 4 + 1, none⟩) (by show b < _; omega)).trans x1
      have x2 := (hbel.cell (p := ⟨b, o + k * 4 + 2, none⟩) (by show b < _; omega)).trans x2
      have x3 := (hbel.cell (p := ⟨b, o + k * 4 + 3, none⟩) (by show b < _; omega)).trans x3
      clear hbel
      obtain ⟨eid, eu, ev, ew⟩ := e
      dsimp only at *
      obtain ⟨s, hs⟩ : ∃ s, s = sumW (F.take k) := ⟨_, rfl⟩
      rw [← hs] at hw1 hw2 HT ⊢
      have HS := Lib.hid hs
      clear hs
      go_wp2_with fail
      go_roundw
      case rel => exact ⟨k + 1, by omega, by go_num, by rw [HT.out], HB.out.alloc (by omega) _⟩
      case measure => simp [intOf]; omega
    · obtain rfl : k = n := by omega
      clear hbel
      have HFt : Hid (F.take k = F) := by show _ = _; rw [HN.out, List.take_length]
      obtain ⟨s, hs⟩ : ∃ s, s = sumW (F.take k) := ⟨_, rfl⟩
      have HS : Hid (s = sumW F) := by show _ = _; rw [hs, HFt.out]
      rw [← hs]
      clear hs
      by_cases hbig : 70368744177664 < s
      · have HRes : Hid (toldT (sumW F) = .tuple #[.int .i64 0, .int .i64 62]) := by show _ = _; rw [← HS.out, toldT_hi hbig]
        have HBig := Lib.hid hbig
        clear hbig
        go_wp2_with fail
        refine (told_hi _ HBig.out _).mono ?_
        rintro e w3 ⟨rfl, rfl⟩
        go_wp2_with fail
        go_ret2
        exact ⟨by rw [HRes.out]; rfl, HW2.out.trans (HB.out.mono (by omega))⟩
      · have HRes : Hid (toldT (sumW F) = .tuple #[.int .i64 s, .int .i64 0]) := by show _ = _; rw [← HS.out, toldT_lo hbig]
        have HBig := Lib.hid hbig
        clear hbig
        go_wp2_with fail
        refine (told_lo s (by have := HBig.out; omega) _).mono ?_
        rintro e w3 ⟨rfl, rfl⟩
        go_wp2_with fail
        go_ret2
        exact ⟨by rw [HRes.out]; rfl, HW2.out.trans (HB.out.mono (by omega))⟩
end Go.Proofs.YtghacfhpafbdmaaGreat
