/-
  The walks of keys.Elem and keys.Prop.
-/
import Derived.Test.YtbmjiheclagfiaaK2
import Derived.Test.YtbmjiheclagfiaaRo
import Derived.Lib.AppendStr
namespace Go.Proofs.Ytbmjiheclagfiaa
open Go.RowKit
set_option linter.unusedVariables false

def elemL (e : Bool) (n : Nat) : List Nat := (1 + clsN e) :: idL n
def elemR (e : Bool) (n : Int) : List Nat × Nat := if idB n then (elemL e n.toNat, 0) else ([], 1)
theorem elemR_yes {e : Bool} {n : Nat} (h : idB (n : Int) = true) : elemR e n = (elemL e n, 0) := by unfold elemR; rw [if_pos h]; rfl
theorem elemR_no {e : Bool} {n : Int} (h : idB n = false) : elemR e n = ([], 1) := by unfold elemR; rw [h]; rfl
/-- What a call that answers bytes and an error leaves. -/
def Bytes2 (B : Nat) (w : World) (r : List Nat × Nat) (e : Ending) (w' : World) : Prop := ∃ v', e = .returned (.tuple #[v', .int .i64 (r.2 : Int)]) ∧ OB w' B v' r.1 ∧ Below B w w'

set_option maxHeartbeats 1000000 in
theorem elem_any (e : Bool) (n : Int) (w : World) : Calls Try.prog 12 #[refV e n] w (Bytes2 w.heap.size w (elemR e n)) := by
  unfold refV
  cases hid : idB n with
  | false =>
    have HR := Lib.hid (elemR_no (e := e) hid)
    have HI := Lib.hid hid
    clear hid
    go_enter Try.func12, Try.ntmps12
    go_wp2_with fail
    refine (isId_any n _).mono ?_
    rw [HI.out]
    rintro r w1 ⟨rfl, rfl⟩
    go_wp2
    go_ret2
    refine ⟨.slice none 0 0, by rw [HR.out]; rfl, by rw [HR.out]; exact OB.nil _ _, by go_grown⟩
  | true =>
    obtain ⟨h1, h2⟩ := inB_iff.1 hid
    obtain ⟨m, rfl⟩ := Int.eq_ofNat_of_zero_le (show 0 ≤ n by omega)
    have HR := Lib.hid (elemR_yes (e := e) hid)
    have HI := Lib.hid hid
    clear hid
    cases e
    · go_enter Try.func12, Try.ntmps12
      go_wp2_with fail
      refine (isId_any _ _).mono ?_
      rw [HI.out]
      rintro r w1 ⟨rfl, rfl⟩
      go_wp2_with fail
      refine (addId_any _ [1] m _ (w.heap.size + 1) (by exact OB.lit _ _ _ _ [1] 1 (by simp) (by simp [bcell]) (by simp) (by simp) (by simp) (by simp)) (by simp) (by simp) (by omega)).mono ?_
      rintro r w1 ⟨v1, rfl, ho1, hb1⟩
      have HO1 := Lib.hid ho1
      have HB1 := Lib.hid hb1
      clear ho1 hb1
      go_wp2
      go_ret2
      exact ⟨_, by rw [HR.out]; rfl, by rw [HR.out]; exact HO1.out.base (by omega), Below.trans (by go_grown) (HB1.out.mono (by omega))⟩
    · go_enter Try.func12, Try.ntmps12
      go_wp2_with fail
      refine (isId_any _ _).mono ?_
      rw [HI.out]
      rintro r w1 ⟨rfl, rfl⟩
      go_wp2_with fail
      refine (addId_any _ [2] m _ (w.heap.size + 1) (by exact OB.lit _ _ _ _ [2] 1 (by simp) (by simp [bcell]) (by simp) (by simp) (by simp) (by simp)) (by simp) (by simp) (by omega)).mono ?_
      rintro r w1 ⟨v1, rfl, ho1, hb1⟩
      have HO1 := Lib.hid ho1
      have HB1 := Lib.hid hb1
      clear ho1 hb1
      go_wp2
      go_ret2
      exact ⟨_, by rw [HR.out]; rfl, by rw [HR.out]; exact HO1.out.base (by omega), Below.trans (by go_grown) (HB1.out.mono (by omega))⟩
theorem strCells_eq (s : ByteArray) : Lib.strCells s = (strL s).map bcell := by
  simp [Lib.strCells, strL, bcell]

theorem wpList_appStr {w : World} {ops : Array Oper} {rest : List Oper} {o : Oper} {a : Act} {Q : Exit → Act → World → Prop} (hgd : o.guard = none) (sl x : Operand)
    (ho : o.op = .call { callee := .builtin .append, args := #[sl, x], argTypes := #[22, 9] })
    (B : Nat) (v : Value) (l : List Nat) (hs : a.eval sl = v) (hown : OB w B v l) (s : ByteArray) (hx : a.eval x = .string s) (hbase : B ≤ w.heap.size) (hlen : l.length + s.size ≤ 140737488355328)
    (h : ∀ v' w', OB w' B v' (l ++ strL s) → w.grownBy w' v.ownBlock → wpList Try.prog ops Q rest (a.put o.dst v') w') : wpList Try.prog ops Q (o :: rest) a w := by
  obtain ⟨i0, hi, hz0, hz1, hz2⟩ := info_parts info5
  obtain ⟨o1, o2, hown⟩ := hown
  refine Lib.wpList_append_own_string w hgd sl x 22 9 ho B 5 i0 Try.underlying22 Try.underlying9 hi hz0 hz1 hz2 v _ _ hs hown s hx (by simp only [maxLen]; omega) hlen hbase ?_
  intro v' w' h1 h2 _
  refine h v' w' ⟨?_, by rw [List.length_append, strL_length]; exact hlen, ?_⟩ h2
  · intro y hy
    rcases List.mem_append.1 hy with hy | hy
    · exact o1 y hy
    · exact strL_lt s y hy
  · rw [List.length_append, strL_length, List.map_append, ← strCells_eq]
    exact h1

def propL (e : Bool) (n : Nat) (s : ByteArray) : List Nat := (3 :: clsN e :: idL n) ++ strL s
def propR (e : Bool) (n : Int) (s : ByteArray) : List Nat × Nat := if idB n then (if nameB s then (propL e n.toNat s, 0) else ([], 54)) else ([], 1)
theorem propR_yes {e : Bool} {n : Nat} {s : ByteArray} (h : idB (n : Int) = true) (hs : nameB s = true) : propR e n s = (propL e n s, 0) := by unfold propR; rw [if_pos h, if_pos hs]; rfl
theorem propR_no {e : Bool} {n : Int} {s : ByteArray} (h : idB n = false) : propR e n s = ([], 1) := by unfold propR; rw [h]; rfl
theorem propR_bad {e : Bool} {n : Int} {s : ByteArray} (h : idB n = true) (hs : nameB s = false) : propR e n s = ([], 54) := by unfold propR; rw [h, hs]; rfl

set_option maxHeartbeats 1000000 in
theorem prop_any (e : Bool) (n : Int) (s : ByteArray) (w : World) (hs : s.size ≤ 140737488351232) : Calls Try.prog 14 #[refV e n, .string s] w (Bytes2 w.heap.size w (propR e n s)) := by
  unfold refV
  cases hid : idB n with
  | false =>
    have HR := Lib.hid (propR_no (e := e) (s := s) hid)
    have HI := Lib.hid hid
    clear hid
    go_enter Try.func14, Try.ntmps14
    go_wp2_with fail
    refine (isId_any n _).mono ?_
    rw [HI.out]
    rintro r w1 ⟨rfl, rfl⟩
    go_wp2
    go_ret2
    refine ⟨.slice none 0 0, by rw [HR.out]; rfl, by rw [HR.out]; exact OB.nil _ _, by go_grown⟩
  | true =>
    cases hnm : nameB s with
    | false =>
      have HR := Lib.hid (propR_bad (e := e) hid hnm)
      have HI := Lib.hid hid
      have HN := Lib.hid hnm
      clear hid hnm
      go_enter Try.func14, Try.ntmps14
      go_wp2_with fail
      refine (isId_any n _).mono ?_
      rw [HI.out]
      rintro r w1 ⟨rfl, rfl⟩
      go_wp2_with fail
      refine (name_any s _ (by omega)).mono ?_
      rw [HN.out]
      rintro r w1 ⟨rfl, rfl⟩
      go_wp2
      go_ret2
      refine ⟨.slice none 0 0, by rw [HR.out]; rfl, by rw [HR.out]; exact OB.nil _ _, by go_grown⟩
    | true =>
      obtain ⟨h1, h2⟩ := inB_iff.1 hid
      obtain ⟨m, rfl⟩ := Int.eq_ofNat_of_zero_le (show 0 ≤ n by omega)
      have HR := Lib.hid (propR_yes (e := e) hid hnm)
      have HI := Lib.hid hid
      have HN := Lib.hid hnm
      clear hid hnm
      cases e
      · go_enter Try.func14, Try.ntmps14
        go_wp2_with fail
        refine (isId_any _ _).mono ?_
        rw [HI.out]
        rintro r w1 ⟨rfl, rfl⟩
        go_wp2_with fail
        refine (name_any s _ (by omega)).mono ?_
        rw [HN.out]
        rintro r w1 ⟨rfl, rfl⟩
        go_wp2_with fail
        refine (addId_any _ [3, 0] m _ (w.heap.size + 1) (by exact OB.lit _ _ _ _ [3, 0] 2 (by simp) (by simp [bcell]) (by simp) (by simp) (by simp) (by simp)) (by simp) (by simp) (by omega)).mono ?_
        rintro r w1 ⟨v1, rfl, ho1, hb1⟩
        have HO1 := Lib.hid ho1
        have HB1 : Hid (Below w.heap.size w w1) := Below.trans (by go_grown) (hb1.mono (by omega))
        have HZ1 := Lib.hid hb1.size
        clear ho1 hb1
        go_wp2_with (at_builtin; go_must (refine wpList_appStr rfl (.tmp 22) (.tmp 23) rfl w.heap.size _ _ rfl (HO1.out.base (by omega)) s rfl HB1.out.size (by simp [idL]; omega) ?_); intro v' w2 ho2 hg2; have HO2 := Lib.hid ho2; have HG2 := Lib.hid hg2; clear ho2 hg2)
        go_ret2
        exact ⟨_, by rw [HR.out]; rfl, by rw [HR.out]; exact HO2.out, HB1.out.grown HG2.out HB1.out.size (fun k hk => ((HO1.out.base (Nat.le_succ _)).lt k hk).1)⟩
      · go_enter Try.func14, Try.ntmps14
        go_wp2_with fail
        refine (isId_any _ _).mono ?_
        rw [HI.out]
        rintro r w1 ⟨rfl, rfl⟩
        go_wp2_with fail
        refine (name_any s _ (by omega)).mono ?_
        rw [HN.out]
        rintro r w1 ⟨rfl, rfl⟩
        go_wp2_with fail
        refine (addId_any _ [3, 1] m _ (w.heap.size + 1) (by exact OB.lit _ _ _ _ [3, 1] 2 (by simp) (by simp [bcell]) (by simp) (by simp) (by simp) (by simp)) (by simp) (by simp) (by omega)).mono ?_
        rintro r w1 ⟨v1, rfl, ho1, hb1⟩
        have HO1 := Lib.hid ho1
        have HB1 : Hid (Below w.heap.size w w1) := Below.trans (by go_grown) (hb1.mono (by omega))
        have HZ1 := Lib.hid hb1.size
        clear ho1 hb1
        go_wp2_with (at_builtin; go_must (refine wpList_appStr rfl (.tmp 22) (.tmp 23) rfl w.heap.size _ _ rfl (HO1.out.base (by omega)) s rfl HB1.out.size (by simp [idL]; omega) ?_); intro v' w2 ho2 hg2; have HO2 := Lib.hid ho2; have HG2 := Lib.hid hg2; clear ho2 hg2)
        go_ret2
        exact ⟨_, by rw [HR.out]; rfl, by rw [HR.out]; exact HO2.out, HB1.out.grown HG2.out HB1.out.size (fun k hk => ((HO1.out.base (Nat.le_succ _)).lt k hk).1)⟩
end Go.Proofs.Ytbmjiheclagfiaa
