/-
  The walk of plain's Joined.
-/
import Derived.Test.YtghacfhpafbdmaaGreatG13
namespace Go.Proofs.YtghacfhpafbdmaaGreat
open Go.RowKit
set_option linter.unusedVariables false

/-- A new block of numbers reads as them. -/
theorem RI.lit (w : World) (B g : Nat) (cs : Array Value) (t : TypeId) (xs : List Int) (c n : Nat) (hg : g = w.heap.size) (h : cs.toList = xs.map (Value.int .i64)) (hn : n = xs.length) (hlen : xs.length ≤ 1000000) (hc : xs.length ≤ c) (hc' : c ≤ 9223372036854775807) (hB : g < B) :
    RI (w.alloc (.cells cs t)) B (.slice (some ⟨g, 0, none⟩) n c) xs := by
  subst hg hn
  refine ⟨by omega, some ⟨w.heap.size, 0, none⟩, c, rfl, hc, hc', .inr ⟨_, _, rfl, hB, ?_⟩⟩
  intro i x hx j u hu
  rw [cell_of_row (w.alloc (.cells cs t)) w.heap.size _ cs t (0, 0) (heap_alloc_new w _), ← Array.getElem?_toList, h]
  match j, hu with
  | 0, hu =>
    simp [encI] at hu
    subst hu
    simp [hx]
  | j + 1, hu => simp [encI] at hu

theorem chk_zero {V : List Int} {E : List Ed} {vs : List Int} (h : chkV V E vs = 0) : rightN V E = true ∧ ∀ v ∈ vs, v ∈ V := by
  unfold chkV at h
  cases hr : rightN V E
  · rw [hr] at h; simp at h
  · rw [hr] at h
    simp only [if_true] at h
    cases ha : vs.all (V.contains ·)
    · rw [ha] at h; simp at h
    · refine ⟨rfl, fun v hv => ?_⟩
      have := List.all_eq_true.1 ha v hv
      simpa using this
theorem chk_yes {V : List Int} {E : List Ed} {vs : List Int} (h : rightN V E = true) (hv : ∀ v ∈ vs, v ∈ V) : chkV V E vs = 0 := by
  unfold chkV
  rw [h]
  have : vs.all (V.contains ·) = true := List.all_eq_true.2 fun v h' => by simpa using hv v h'
  rw [this]; rfl

def joinedB (V : List Int) (E : List Ed) (u v : Int) : Bool := decide (lab (labs V E) (pl V u) = lab (labs V E) (pl V v))

def SJd (sets sv se : Value) (V : List Int) (Lb : List Nat) (u v : Int) (i : Nat) (x : Value) (w : World) : Prop := match i with
  | 0 => x = sets
  | 1 => x = netV sv se
  | 2 => x = .int .i64 u
  | 3 => x = .int .i64 (pl V u : Nat)
  | 4 => x = .int .i64 (lab Lb (pl V u) : Nat)
  | 5 => x = sets
  | 6 => x = netV sv se
  | 7 => x = .int .i64 v
  | 8 => x = .int .i64 (pl V v : Nat)
  | 9 => x = .int .i64 (lab Lb (pl V v) : Nat)
  | 10 => x = .bool (decide (lab Lb (pl V u) = lab Lb (pl V v)))
  | 11 => x = .bool (decide (lab Lb (pl V u) = lab Lb (pl V v)))
  | _ => x = .int .i64 0
def IJd (W : World) (G : Nat) (Lb : List Nat) (L : Array Bool) (w : World) : Prop := W.grownBy w (some G) ∧ SB w G Lb
theorem IJd.keep {W w w' : World} {G : Nat} {Lb : List Nat} {L L' : Array Bool} (h : IJd W G Lb L w) (hb : Below w.heap.size w w') : IJd W G Lb L' w' :=
  ⟨grownBy_trans h.1 (grownBy_below hb), h.2.below hb h.2.lt⟩

set_option maxRecDepth 100000 in
set_option maxHeartbeats 4000000 in
theorem Joined_ok (sv se : Value) (V : List Int) (E : List Ed) (u v : Int) (w : World) (B : Nat) (hv : RI w B sv V) (he : RE w B se E) (hB : B ≤ w.heap.size) (hc : chkV V E [u, v] = 0) :
    Calls Tryz.prog 12 #[netV sv se, .int .i64 u, .int .i64 v] w fun e w' => e = .returned (.tuple #[.bool (joinedB V E u v), .int .i64 0]) ∧ Below w.heap.size w w' := by
  obtain ⟨hrn, hmem⟩ := chk_zero hc
  have HR : Hid (Right V E) := right_of hrn
  have HU : Hid (u ∈ V ∧ v ∈ V) := ⟨hmem u (by simp), hmem v (by simp)⟩
  have HC := Lib.hid hc
  have hvl := HR.out.vlen
  have HV := Lib.hid hv
  have HE := Lib.hid he
  clear hrn hmem hc hv he
  go_enter Tryz.func12, Tryz.ntmps12
  go_wp2_with fail
  refine (checkVerts_any _ _ _ V E [u, v] _ B (w.heap.size + 2) ((HV.out.alloc hB _).alloc (by simp; omega) _) ((HE.out.alloc hB _).alloc (by simp; omega) _) (by simp; omega) (RI.lit _ _ _ _ _ [u, v] 2 2 (by simp) rfl rfl (by simp) (by simp) (by simp) (by omega)) (by simp)).mono ?_
  rw [HC.out]
  rintro e w1 ⟨rfl, hb⟩
  have HB1 : Hid (Below (w.heap.size + 1) (w.alloc (.cells #[sv, se] 25)) w1) := ((Below.refl _ _).alloc (by simp) _).trans (hb.mono (by simp))
  clear hb
  have b0 : w1.cell? ⟨w.heap.size, 0, none⟩ = some sv := (HB1.out.cell (p := ⟨w.heap.size, 0, none⟩) (by show w.heap.size < _; omega)).trans (by simp)
  have b1 : w1.cell? ⟨w.heap.size, 1, none⟩ = some se := (HB1.out.cell (p := ⟨w.heap.size, 1, none⟩) (by show w.heap.size < _; omega)).trans (by simp)
  have HW1 : Hid (Below w.heap.size w w1) := ((Below.refl _ _).alloc (Nat.le_refl _) _).trans (HB1.out.mono (by omega))
  have hz1 := HB1.out.size
  simp only [World.alloc, Array.size_push] at hz1
  go_wp2_with fail
  refine (joined_any _ _ V E _ B (HV.out.below (HW1.out.mono hB)) (HE.out.below (HW1.out.mono hB)) (by omega) HR.out).mono ?_
  rintro e w2 ⟨G, rfl, hG, hs, hb⟩
  have hGlt := hs.lt
  have c0 : w2.cell? ⟨w.heap.size, 0, none⟩ = some sv := (hb.cell (p := ⟨w.heap.size, 0, none⟩) (by show w.heap.size < _; omega)).trans b0
  have c1 : w2.cell? ⟨w.heap.size, 1, none⟩ = some se := (hb.cell (p := ⟨w.heap.size, 1, none⟩) (by show w.heap.size < _; omega)).trans b1
  have HW2 : Hid (Below w.heap.size w w2) := HW1.out.trans (hb.mono (by omega))
  have HVW : Hid (RI w2 B sv V) := HV.out.below (HW2.out.mono hB)
  have HTW := Lib.hid hs
  have hz2 := hb.size
  clear b0 b1 hb hs
  go_wp2_with fail
  rename_i K hK
  have hlok : LabOk (labs V E) := labs_ok HR.out.vup fun e he => ⟨HR.out.eu e he, HR.out.ev e he⟩
  have hpu := pl_lt HR.out.vup HU.out.1
  have hpv := pl_lt HR.out.vup HU.out.2
  have hll := labs_len V E
  obtain ⟨m, hm⟩ : ∃ m, m = V.length := ⟨_, rfl⟩
  rw [← hm] at hpu hpv hll hvl ⊢
  clear hm
  refine wp_region_slots (SJd (.slice (some ⟨G, 0, none⟩) m m) sv se V (labs V E) u v) (IJd w2 G (labs V E)) (by kernel_rfl) (by kernel_rfl) (by kernel_rfl) ⟨⟨rfl, rfl, rfl, Nat.le_refl _, fun _ _ _ => rfl⟩, HTW.out⟩ ?_ ?_
  · intro L a w3 i o' h ho h0 hd
    have d0 : w3.cell? ⟨w.heap.size, 0, none⟩ = some sv := (cell_grownBy h.world.1 _ _ (by omega) (by simp; omega)).trans c0
    have d1 : w3.cell? ⟨w.heap.size, 1, none⟩ = some se := (cell_grownBy h.world.1 _ _ (by omega) (by simp; omega)).trans c1
    have hv1 : RI w3 B sv V := HVW.out.grown h.world.1 (by omega) (by intro g hg; injection hg with hg; omega)
    have hz3 := h.world.1.size
    revert L a w3
    revert i o'
    refine each_array ?_
    refine ⟨?_, ?_, ?_, ?_, ?_, ?_, ?_, ?_, ?_, ?_, ?_, ?_, ?_, trivial⟩ <;> intro L a w3 h h0 hd d0 d1 hv1 hz3
    · exact h.val rfl rfl (ro_move w3 (h.still 9 (by kernel_rfl))) (h.world.keep (Below.refl _ _)) rfl
    · exact h.val rfl rfl (ro_loadNet w3 (h.still 3 (by kernel_rfl)) d0 d1) (h.world.keep (Below.refl _ _)) rfl
    · exact h.val rfl rfl (ro_move w3 (h.still 1 (by kernel_rfl))) (h.world.keep (Below.refl _ _)) rfl
    · have r1 := h.ran 1 _ 21 rfl rfl (hd ⟨1, .data⟩ (by simp) rfl)
      have r3 := h.ran 2 _ 22 rfl rfl (hd ⟨2, .data⟩ (by simp) rfl)
      refine h.call rfl rfl (ro_call2 cf_at w3 r1 r3) ((at_any _ _ V _ w3 B hv1 (by omega) HR.out.vup).mono ?_)
      rintro r w4 ⟨rfl, hb⟩
      exact ⟨_, rfl, fun _ _ _ h => h, h.world.keep hb, rfl⟩
    · have r0 := h.ran 0 _ 20 rfl rfl (hd ⟨0, .data⟩ (by simp) rfl)
      have r3 := h.ran 3 _ 23 rfl rfl (hd ⟨3, .data⟩ (by simp) rfl)
      refine h.call rfl rfl (ro_call2 cf_first w3 r0 r3) ((first_any _ _ m (pl V u) w3 hlok h.world.2 hll.symm hpu (by omega)).mono ?_)
      rintro r w4 ⟨rfl, hg4, hs4, hz4⟩
      exact ⟨_, rfl, fun _ _ _ h => h, ⟨grownBy_trans h.world.1 hg4, hs4⟩, rfl⟩
    · exact h.val rfl rfl (ro_move w3 (h.still 9 (by kernel_rfl))) (h.world.keep (Below.refl _ _)) rfl
    · exact h.val rfl rfl (ro_loadNet w3 (h.still 3 (by kernel_rfl)) d0 d1) (h.world.keep (Below.refl _ _)) rfl
    · exact h.val rfl rfl (ro_move w3 (h.still 2 (by kernel_rfl))) (h.world.keep (Below.refl _ _)) rfl
    · have r1 := h.ran 6 _ 26 rfl rfl (hd ⟨6, .data⟩ (by simp) rfl)
      have r3 := h.ran 7 _ 27 rfl rfl (hd ⟨7, .data⟩ (by simp) rfl)
      refine h.call rfl rfl (ro_call2 cf_at w3 r1 r3) ((at_any _ _ V _ w3 B hv1 (by omega) HR.out.vup).mono ?_)
      rintro r w4 ⟨rfl, hb⟩
      exact ⟨_, rfl, fun _ _ _ h => h, h.world.keep hb, rfl⟩
    · have r0 := h.ran 5 _ 25 rfl rfl (hd ⟨5, .data⟩ (by simp) rfl)
      have r3 := h.ran 8 _ 28 rfl rfl (hd ⟨8, .data⟩ (by simp) rfl)
      refine h.call rfl rfl (ro_call2 cf_first w3 r0 r3) ((first_any _ _ m (pl V v) w3 hlok h.world.2 hll.symm hpv (by omega)).mono ?_)
      rintro r w4 ⟨rfl, hg4, hs4, hz4⟩
      exact ⟨_, rfl, fun _ _ _ h => h, ⟨grownBy_trans h.world.1 hg4, hs4⟩, rfl⟩
    · have r4 : a.tmps.getD 24 undef = .int .i64 (lab (labs V E) (pl V u) : Nat) := h.ran 4 _ 24 rfl rfl (hd ⟨4, .data⟩ (by simp) rfl)
      have r9 : a.tmps.getD 29 undef = .int .i64 (lab (labs V E) (pl V v) : Nat) := h.ran 9 _ 29 rfl rfl (hd ⟨9, .data⟩ (by simp) rfl)
      refine h.val rfl rfl (v := .bool (decide (lab (labs V E) (pl V u) = lab (labs V E) (pl V v)))) ?_ (h.world.keep (Below.refl _ _)) rfl
      generalize lab (labs V E) (pl V u) = x at r4 ⊢
      generalize lab (labs V E) (pl V v) = y at r9 ⊢
      simp only [execOp, Act.eval]
      go_simp
      rw [Bool.eq_iff_iff]; simp; omega
    · exact h.val rfl rfl (ro_assign w3 (h.ran 10 _ 30 rfl rfl (hd ⟨10, .data⟩ (by simp) rfl))) (h.world.keep (Below.refl _ _)) rfl
    · exact h.val rfl rfl (ro_assignC w3) (h.world.keep (Below.refl _ _)) rfl
  · intro L a w3 hL hdf hsz' hw hother hall
    refine hK _ _ ?_
    refine wp_ret ?_
    have h11 : a.tmps.getD 6 undef = .bool (joinedB V E u v) := hall 11 _ 6 rfl rfl
    have h12 : a.tmps.getD 7 undef = .int .i64 0 := hall 12 _ 7 rfl rfl
    exact bodyPost_ret (v := .tuple #[.bool (joinedB V E u v), .int .i64 0]) ((results_tmp2 (t := 6) (u := 7) rfl _ _ _).trans (by rw [h11, h12])) hdf ⟨rfl, HW2.out.trans (below_grownBy hw.1 (by omega) (by intro g hg; injection hg with hg; omega))⟩

set_option maxHeartbeats 1000000 in
theorem Joined_no (sv se : Value) (V : List Int) (E : List Ed) (u v c : Int) (w : World) (B : Nat) (hv : RI w B sv V) (he : RE w B se E) (hB : B ≤ w.heap.size) (hc : chkV V E [u, v] = c) (h0 : c ≠ 0) :
    Calls Tryz.prog 12 #[netV sv se, .int .i64 u, .int .i64 v] w fun e w' => e = .returned (.tuple #[.bool false, .int .i64 c]) ∧ Below w.heap.size w w' := by
  have HC := Lib.hid hc
  have HV := Lib.hid hv
  have HE := Lib.hid he
  clear hc hv he
  go_enter Tryz.func12, Tryz.ntmps12
  go_wp2_with fail
  refine (checkVerts_any _ _ _ V E [u, v] _ B (w.heap.size + 2) ((HV.out.alloc hB _).alloc (by simp; omega) _) ((HE.out.alloc hB _).alloc (by simp; omega) _) (by simp; omega) (RI.lit _ _ _ _ _ [u, v] 2 2 (by simp) rfl rfl (by simp) (by simp) (by simp) (by omega)) (by simp)).mono ?_
  rw [HC.out]
  rintro e w1 ⟨rfl, hb⟩
  have HB1 : Hid (Below (w.heap.size + 1) (w.alloc (.cells #[sv, se] 25)) w1) := ((Below.refl _ _).alloc (by simp) _).trans (hb.mono (by simp))
  clear hb
  go_wp2_with fail
  go_ret2
  exact ⟨rfl, ((Below.refl _ _).alloc (Nat.le_refl _) _).trans (HB1.out.mono (by omega))⟩
end Go.Proofs.YtghacfhpafbdmaaGreat
