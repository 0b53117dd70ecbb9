/-
  The walks of the reference's Elem and Prop.
-/
import Derived.Test.YtbmjiheclagfiaaK3
import Derived.Test.YtbmjiheclagfiaaRo
import Derived.Test.YtbmjiheclagfiaaL2
import Derived.Deep.RegionHeld3
import Derived.Laws.IdiomStrings
import Derived.Outline
namespace Go.Proofs.Ytbmjiheclagfiaa
open Go.RowKit
set_option linter.unusedVariables false

def RefAt (p : Nat) (e : Bool) (n : Int) (w : World) : Prop := w.cell? ⟨p, 0, none⟩ = some (.bool e) ∧ w.cell? ⟨p, 1, none⟩ = some (.int .i64 n)
theorem RefAt.keep {p B : Nat} {e : Bool} {n : Int} {W w' : World} (h : RefAt p e n W) (hp : p < B) (hb : Below B W w') : RefAt p e n w' :=
  ⟨(hb.cell (p := ⟨p, 0, none⟩) hp).trans h.1, (hb.cell (p := ⟨p, 1, none⟩) hp).trans h.2⟩

theorem cf_class (args : Array Value) (w : World) : (callFunc 41 args).run Try.prog w = .ok (.enter 41 args) w := by go_simp
theorem cf_four (args : Array Value) (w : World) : (callFunc 42 args).run Try.prog w = .ok (.enter 42 args) w := by go_simp
theorem cf_cat (args : Array Value) (w : World) : (callFunc 40 args).run Try.prog w = .ok (.enter 40 args) w := by go_simp

def SElem (B p : Nat) (e : Bool) (m : Nat) (i : Nat) (v : Value) (w : World) : Prop := match i with
  | 0 => v = refV e m
  | 1 => v = .int .u8 (clsN e : Nat)
  | 2 => v = .int .u8 ((1 + clsN e : Nat) : Int)
  | 3 => RB w w.heap.size v [1 + clsN e]
  | 4 => v = .pointer (some ⟨p, 1, none⟩)
  | 5 => v = .int .i64 (m : Int)
  | 6 => RB w w.heap.size v (idL m)
  | 7 => OB w B v (elemL e m)
  | 8 => OB w B v (elemL e m)
  | 9 => v = .int .i64 0
  | _ => True
theorem selem_stable (B p : Nat) (e : Bool) (m : Nat) : Stable (SElem B p e m) := by
  intro k v w w' h hb
  unfold SElem at h ⊢
  split at h <;> first | exact h | exact RBn h hb | exact OB.below h hb
theorem clsN_le (e : Bool) : clsN e ≤ 1 := by cases e <;> simp [clsN]
theorem cls1 (e : Bool) : IntKind.u8.wrap (1 + (clsN e : Int)) = ((1 + clsN e : Nat) : Int) := by cases e <;> decide

set_option maxHeartbeats 4000000 in
theorem relem_any (e : Bool) (n : Int) (w : World) : Calls Try.prog 13 #[refV e n] w (Bytes2 w.heap.size w (elemR e n)) := by
  unfold refV
  cases hid : idB n with
  | false =>
    have HR := Lib.hid (elemR_no (e := e) hid)
    have hb : ¬ (1 ≤ n ∧ n ≤ 2147483647) := fun h => by rw [show idB n = true from inB_yes h.1 h.2] at hid; cases hid
    clear hid
    by_cases h1 : n < 1
    · clear hb
      go_enter Try.func13, Try.ntmps13
      go_wp2
      go_ret2
      refine ⟨.slice none 0 0, by rw [HR.out]; rfl, by rw [HR.out]; exact OB.nil _ _, by go_grown⟩
    · have d1 : decide (n < 1) = false := decide_eq_false h1
      have h2 : 2147483647 < n := by omega
      clear hb
      go_enter Try.func13, Try.ntmps13
      go_wp2
      go_ret2
      refine ⟨.slice none 0 0, by rw [HR.out]; rfl, by rw [HR.out]; exact OB.nil _ _, by go_grown⟩
  | true =>
    obtain ⟨h1, h2⟩ := inB_iff.1 hid
    obtain ⟨m, rfl⟩ := Int.eq_ofNat_of_zero_le (show 0 ≤ n by omega)
    have HR := Lib.hid (elemR_yes (e := e) hid)
    have d1 : decide ((m : Int) < 1) = false := decide_eq_false (by omega)
    have d2 : decide (2147483647 < (m : Int)) = false := decide_eq_false (by omega)
    have HM : Hid (m ≤ 2147483647) := (by omega : m ≤ 2147483647)
    clear hid h1 h2
    go_enter Try.func13, Try.ntmps13
    go_wp2_with fail
    rename_i K hK
    obtain ⟨W, hW⟩ : ∃ W, W = w.alloc (Obj.cells #[Value.bool e, Value.int IntKind.i64 (m : Int)] 29) := ⟨_, rfl⟩
    have hA : RefAt w.heap.size e m W := by rw [hW]; exact ⟨by simp, by simp⟩
    have hB : Below w.heap.size w W := by rw [hW]; exact (Below.refl _ _).alloc (Nat.le_refl _) _
    have hz : w.heap.size < W.heap.size := by rw [hW]; simp
    rw [← hW]
    clear hW
    refine wp_region_slots (SElem w.heap.size w.heap.size e m) (fun w' => Below W.heap.size W w') (by kernel_rfl) (by kernel_rfl) (by kernel_rfl) ((Below.refl _ _).drew) ?_ ?_
    · intro L a w1 i o h ho hd
      have hA1 : RefAt w.heap.size e m w1 := hA.keep hz h.world
      have hst := fun (w2 : World) (hb : Below w1.heap.size w1 w2) (k : Nat) (v : Value) (hk : SElem w.heap.size w.heap.size e m k v w1) => selem_stable w.heap.size w.heap.size e m k v w1 w2 hk hb
      have hzz := h.world.size
      revert L a w1
      revert i o
      refine each_array ?_
      refine ⟨?_, ?_, ?_, ?_, ?_, ?_, ?_, ?_, ?_, ?_, trivial⟩ <;> intro L a w1 h hd hA1 hst hzz
      · have e1 := h.still 1 (by kernel_rfl)
        obtain ⟨c0, c1⟩ := hA1
        refine h.val rfl rfl (v := refV e m) (by simp only [execOp, Act.eval]; unfold refV; go_simp) rfl
      · have e1 := h.ran 0 _ 12 rfl rfl (hd ⟨0, .data⟩ (by simp) rfl)
        refine h.call rfl rfl (ro_call1 cf_class w1 e1) ((class_any e m w1).mono ?_)
        rintro r w2 ⟨rfl, hb⟩
        exact ⟨_, rfl, hst w2 hb, h.world.trans (hb.mono hzz), rfl⟩
      · have e1 : a.tmps.getD 13 undef = .int .u8 (clsN e : Nat) := h.ran 1 _ 13 rfl rfl (hd ⟨1, .data⟩ (by simp) rfl)
        have := cls1 e
        refine h.val rfl rfl (v := .int .u8 ((1 + clsN e : Nat) : Int)) (by simp only [execOp, Act.eval]; go_simp) rfl
      · have e1 : a.tmps.getD 14 undef = .int .u8 ((1 + clsN e : Nat) : Int) := h.ran 2 _ 14 rfl rfl (hd ⟨2, .data⟩ (by simp) rfl)
        have hb := (Below.refl w1.heap.size w1).alloc (Nat.le_refl _) (.cells #[.int .u8 ((1 + clsN e : Nat) : Int)] 5)
        have := clsN_le e
        refine h.mem rfl rfl (v := .slice (some ⟨w1.heap.size, 0, none⟩) 1 1) (w' := w1.alloc (.cells #[.int .u8 ((1 + clsN e : Nat) : Int)] 5)) (ro_build1 w1 e1) (hst _ hb) (h.world.trans (hb.mono hzz)) ?_
        exact RB.lit _ _ _ _ [1 + clsN e] 1 _ rfl (by simp [bcell]) (by simp; omega) rfl (by simp)
      · have e1 := h.still 1 (by kernel_rfl)
        refine h.val rfl rfl (v := .pointer (some ⟨w.heap.size, 1, none⟩)) (by simp only [execOp, Act.eval]; go_simp) rfl
      · have e1 : a.tmps.getD 16 undef = .pointer (some ⟨w.heap.size, 1, none⟩) := h.ran 4 _ 16 rfl rfl (hd ⟨4, .data⟩ (by simp) rfl)
        obtain ⟨c0, c1⟩ := hA1
        refine h.val rfl rfl (v := .int .i64 (m : Int)) (by simp only [execOp, Act.eval]; go_simp) rfl
      · have e1 := h.ran 5 _ 17 rfl rfl (hd ⟨5, .data⟩ (by simp) rfl)
        refine h.call rfl rfl (ro_call1 cf_four w1 e1) ((four_any m w1 HM.out).mono ?_)
        rintro r w2 ⟨v2, rfl, hr, hb⟩
        exact ⟨_, rfl, hst w2 hb, h.world.trans (hb.mono hzz), hr⟩
      · have r1 : RB w1 w1.heap.size (a.tmps.getD 15 undef) [1 + clsN e] := h.ran 3 _ 15 rfl rfl (hd ⟨3, .data⟩ (by simp) rfl)
        have r2 : RB w1 w1.heap.size (a.tmps.getD 18 undef) (idL m) := h.ran 6 _ 18 rfl rfl (hd ⟨6, .data⟩ (by simp) rfl)
        refine h.call rfl rfl (ro_call2 cf_cat w1 rfl rfl) ((cat_any _ _ _ _ w1 r1 r2 (by simp [idL])).mono ?_)
        rintro r w2 ⟨v2, rfl, hr, hb⟩
        exact ⟨_, rfl, hst w2 hb, h.world.trans (hb.mono hzz), hr.base (by omega)⟩
      · exact h.val rfl rfl (ro_assign w1 rfl) (h.ran 7 _ 19 rfl rfl (hd ⟨7, .data⟩ (by simp) rfl) : OB w1 w.heap.size (a.tmps.getD 19 undef) (elemL e m))
      · exact h.val rfl rfl (ro_assignC w1) rfl
    · intro a w1 hdf hsz hw hother hall
      refine hK _ _ ?_
      refine wp_ret ?_
      have h8 : OB w1 w.heap.size (a.tmps.getD 2 undef) (elemL e m) := hall 8 _ 2 rfl rfl
      have h9 : a.tmps.getD 3 undef = .int .i64 0 := hall 9 _ 3 rfl rfl
      refine bodyPost_ret (v := .tuple #[a.tmps.getD 2 undef, .int .i64 0]) ((results_tmp2 (t := 2) (u := 3) rfl _ _ _).trans (by rw [h9])) hdf ⟨_, by rw [HR.out]; rfl, by rw [HR.out]; exact h8, hB.trans (hw.mono (by omega))⟩

def SProp (B p : Nat) (e : Bool) (m : Nat) (s : ByteArray) (i : Nat) (v : Value) (w : World) : Prop := match i with
  | 0 => v = refV e m
  | 1 => v = .int .u8 (clsN e : Nat)
  | 2 => RB w w.heap.size v [3, clsN e]
  | 3 => v = .pointer (some ⟨p, 1, none⟩)
  | 4 => v = .int .i64 (m : Int)
  | 5 => RB w w.heap.size v (idL m)
  | 6 => RB w w.heap.size v ([3, clsN e] ++ idL m)
  | 7 => v = .string s
  | 8 => RB w w.heap.size v (strL s)
  | 9 => OB w B v (propL e m s)
  | 10 => OB w B v (propL e m s)
  | 11 => v = .int .i64 0
  | _ => True
theorem sprop_stable (B p : Nat) (e : Bool) (m : Nat) (s : ByteArray) : Stable (SProp B p e m s) := by
  intro k v w w' h hb
  unfold SProp at h ⊢
  split at h <;> first | exact h | exact RBn h hb | exact OB.below h hb

set_option maxHeartbeats 4000000 in
theorem rprop_any (e : Bool) (n : Int) (s : ByteArray) (w : World) (hs : s.size ≤ 140737488351232) : Calls Try.prog 15 #[refV e n, .string s] w (Bytes2 w.heap.size w (propR e n s)) := by
  unfold refV
  cases hid : idB n with
  | false =>
    have HR := Lib.hid (propR_no (e := e) (s := s) hid)
    have hb : ¬ (1 ≤ n ∧ n ≤ 2147483647) := fun h => by rw [show idB n = true from inB_yes h.1 h.2] at hid; cases hid
    clear hid
    by_cases h1 : n < 1
    · clear hb
      go_enter Try.func15, Try.ntmps15
      go_wp2
      go_ret2
      refine ⟨.slice none 0 0, by rw [HR.out]; rfl, by rw [HR.out]; exact OB.nil _ _, by go_grown⟩
    · have d1 : decide (n < 1) = false := decide_eq_false h1
      have h2 : 2147483647 < n := by omega
      clear hb
      go_enter Try.func15, Try.ntmps15
      go_wp2
      go_ret2
      refine ⟨.slice none 0 0, by rw [HR.out]; rfl, by rw [HR.out]; exact OB.nil _ _, by go_grown⟩
  | true =>
    obtain ⟨h1, h2⟩ := inB_iff.1 hid
    obtain ⟨m, rfl⟩ := Int.eq_ofNat_of_zero_le (show 0 ≤ n by omega)
    have d1 : decide ((m : Int) < 1) = false := decide_eq_false (by omega)
    have d2 : decide (2147483647 < (m : Int)) = false := decide_eq_false (by omega)
    have HM : Hid (m ≤ 2147483647) := (by omega : m ≤ 2147483647)
    clear h1 h2
    cases hnm : nameB s with
    | false =>
      have HR := Lib.hid (propR_bad (e := e) hid hnm)
      have HN := Lib.hid hnm
      clear hid hnm
      go_enter Try.func15, Try.ntmps15
      go_wp2_with fail
      refine (rname_any s _ (by omega)).mono ?_
      rw [HN.out]
      rintro r w1 ⟨rfl, rfl⟩
      go_wp2
      go_ret2
      refine ⟨.slice none 0 0, by rw [HR.out]; rfl, by rw [HR.out]; exact OB.nil _ _, by go_grown⟩
    | true =>
      have HR := Lib.hid (propR_yes (e := e) hid hnm)
      have HN := Lib.hid hnm
      clear hid hnm
      go_enter Try.func15, Try.ntmps15
      go_wp2_with fail
      refine (rname_any s _ (by omega)).mono ?_
      rw [HN.out]
      rintro r w1 ⟨rfl, rfl⟩
      go_wp2_with fail
      rename_i K hK
      obtain ⟨W, hW⟩ : ∃ W, W = w.alloc (Obj.cells #[Value.bool e, Value.int IntKind.i64 (m : Int)] 29) := ⟨_, rfl⟩
      have hA : RefAt w.heap.size e m W := by rw [hW]; exact ⟨by simp, by simp⟩
      have hB : Below w.heap.size w W := by rw [hW]; exact (Below.refl _ _).alloc (Nat.le_refl _) _
      have hz : w.heap.size < W.heap.size := by rw [hW]; simp
      rw [← hW]
      clear hW
      refine wp_region_slots (SProp w.heap.size w.heap.size e m s) (fun w' => Below W.heap.size W w') (by kernel_rfl) (by kernel_rfl) (by kernel_rfl) ((Below.refl _ _).drew) ?_ ?_
      · intro L a w1 i o h ho hd
        have hA1 : RefAt w.heap.size e m w1 := hA.keep hz h.world
        have hst := fun (w2 : World) (hb : Below w1.heap.size w1 w2) (k : Nat) (v : Value) (hk : SProp w.heap.size w.heap.size e m s k v w1) => sprop_stable w.heap.size w.heap.size e m s k v w1 w2 hk hb
        have hzz := h.world.size
        revert L a w1
        revert i o
        refine each_array ?_
        refine ⟨?_, ?_, ?_, ?_, ?_, ?_, ?_, ?_, ?_, ?_, ?_, ?_, trivial⟩ <;> intro L a w1 h hd hA1 hst hzz
        · have e1 := h.still 2 (by kernel_rfl)
          obtain ⟨c0, c1⟩ := hA1
          refine h.val rfl rfl (v := refV e m) (by simp only [execOp, Act.eval]; unfold refV; go_simp) rfl
        · have e1 := h.ran 0 _ 17 rfl rfl (hd ⟨0, .data⟩ (by simp) rfl)
          refine h.call rfl rfl (ro_call1 cf_class w1 e1) ((class_any e m w1).mono ?_)
          rintro r w2 ⟨rfl, hb⟩
          exact ⟨_, rfl, hst w2 hb, h.world.trans (hb.mono hzz), rfl⟩
        · have e1 : a.tmps.getD 18 undef = .int .u8 (clsN e : Nat) := h.ran 1 _ 18 rfl rfl (hd ⟨1, .data⟩ (by simp) rfl)
          have hb := (Below.refl w1.heap.size w1).alloc (Nat.le_refl _) (.cells #[.int .u8 3, .int .u8 (clsN e : Nat)] 5)
          have := clsN_le e
          refine h.mem rfl rfl (ro_build2 w1 e1) (hst _ hb) (h.world.trans (hb.mono hzz)) ?_
          exact RB.lit _ _ _ _ [3, clsN e] 2 _ rfl (by simp [bcell]) (by simp; omega) rfl (by simp)
        · have e1 := h.still 2 (by kernel_rfl)
          refine h.val rfl rfl (v := .pointer (some ⟨w.heap.size, 1, none⟩)) (by simp only [execOp, Act.eval]; go_simp) rfl
        · have e1 : a.tmps.getD 20 undef = .pointer (some ⟨w.heap.size, 1, none⟩) := h.ran 3 _ 20 rfl rfl (hd ⟨3, .data⟩ (by simp) rfl)
          obtain ⟨c0, c1⟩ := hA1
          refine h.val rfl rfl (v := .int .i64 (m : Int)) (by simp only [execOp, Act.eval]; go_simp) rfl
        · have e1 := h.ran 4 _ 21 rfl rfl (hd ⟨4, .data⟩ (by simp) rfl)
          refine h.call rfl rfl (ro_call1 cf_four w1 e1) ((four_any m w1 HM.out).mono ?_)
          rintro r w2 ⟨v2, rfl, hr, hb⟩
          exact ⟨_, rfl, hst w2 hb, h.world.trans (hb.mono hzz), hr⟩
        · have r1 : RB w1 w1.heap.size (a.tmps.getD 19 undef) [3, clsN e] := h.ran 2 _ 19 rfl rfl (hd ⟨2, .data⟩ (by simp) rfl)
          have r2 : RB w1 w1.heap.size (a.tmps.getD 22 undef) (idL m) := h.ran 5 _ 22 rfl rfl (hd ⟨5, .data⟩ (by simp) rfl)
          refine h.call rfl rfl (ro_call2 cf_cat w1 rfl rfl) ((cat_any _ _ _ _ w1 r1 r2 (by simp [idL])).mono ?_)
          rintro r w2 ⟨v2, rfl, hr, hb⟩
          exact ⟨_, rfl, hst w2 hb, h.world.trans (hb.mono hzz), hr.rb (Nat.le_refl _)⟩
        · exact h.val rfl rfl (ro_move w1 (h.still 1 (by kernel_rfl))) rfl
        · have e1 : a.tmps.getD 24 undef = .string s := h.ran 7 _ 24 rfl rfl (hd ⟨7, .data⟩ (by simp) rfl)
          have hb : Below w1.heap.size w1 (w1.drew.alloc (.cells (bytesRow s (grownCap w1 s.size 0 5)) 5 ((bytesRow s (grownCap w1 s.size 0 5)).size, (bytesRow s (grownCap w1 s.size 0 5)).size + 1))) := ((Below.refl w1.heap.size w1).drew).alloc (Nat.le_refl _) _
          exact h.mem rfl rfl (ro_bytes w1 e1) (hst _ hb) (h.world.trans (hb.mono hzz)) (RB.ofString w1 s (by omega))
        · have r1 : RB w1 w1.heap.size (a.tmps.getD 23 undef) ([3, clsN e] ++ idL m) := h.ran 6 _ 23 rfl rfl (hd ⟨6, .data⟩ (by simp) rfl)
          have r2 : RB w1 w1.heap.size (a.tmps.getD 25 undef) (strL s) := h.ran 8 _ 25 rfl rfl (hd ⟨8, .data⟩ (by simp) rfl)
          refine h.call rfl rfl (ro_call2 cf_cat w1 rfl rfl) ((cat_any _ _ _ _ w1 r1 r2 (by rw [strL_length]; simp [idL]; omega)).mono ?_)
          rintro r w2 ⟨v2, rfl, hr, hb⟩
          exact ⟨_, rfl, hst w2 hb, h.world.trans (hb.mono hzz), hr.base (by omega)⟩
        · exact h.val rfl rfl (ro_assign w1 rfl) (h.ran 9 _ 26 rfl rfl (hd ⟨9, .data⟩ (by simp) rfl) : OB w1 w.heap.size (a.tmps.getD 26 undef) (propL e m s))
        · exact h.val rfl rfl (ro_assignC w1) rfl
      · intro a w1 hdf hsz hw hother hall
        refine hK _ _ ?_
        refine wp_ret ?_
        have h8 : OB w1 w.heap.size (a.tmps.getD 4 undef) (propL e m s) := hall 10 _ 4 rfl rfl
        have h9 : a.tmps.getD 5 undef = .int .i64 0 := hall 11 _ 5 rfl rfl
        refine bodyPost_ret (v := .tuple #[a.tmps.getD 4 undef, .int .i64 0]) ((results_tmp2 (t := 4) (u := 5) rfl _ _ _).trans (by rw [h9])) hdf ⟨_, by rw [HR.out]; rfl, by rw [HR.out]; exact h8, hB.trans (hw.mono (by omega))⟩
end Go.Proofs.Ytbmjiheclagfiaa
