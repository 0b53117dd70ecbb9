/-
  The walks of GetText, both.
-/
import Derived.Test.YtbmjiheclagfiaaN5
import Derived.Laws.CopyOwn
import Derived.Handy
namespace Go.Proofs.Ytbmjiheclagfiaa
open Go.RowKit
set_option linter.unusedVariables false

theorem getGo_next (p : Nat) (len : Nat) : ∀ (l : List Nat) (i u : Nat), p + i + l.length ≤ len → (getGo p l i u).2.2 = 0 → p + i < (getGo p l i u).2.1 ∧ (getGo p l i u).2.1 ≤ len := by
  intro l
  induction l with
  | nil => intro i u _ h; simp [getGo] at h
  | cons c r ih =>
    intro i u hlen h
    rw [List.length_cons] at hlen
    rw [getGo] at h ⊢
    split
    · rename_i h9; rw [if_pos h9] at h; simp at h
    · rename_i h9
      rw [if_neg h9] at h
      split
      · rename_i h1
        rw [if_pos h1] at h
        have := ih (i + 1) _ (by omega) h
        omega
      · rename_i h1
        rw [if_neg h1] at h
        split
        · rename_i h2; rw [if_pos h2] at h; simp at h
        · simp; omega
theorem getA_next (l : List Nat) (at_ : Int) (ru rn : Nat) (hr : getA l at_ = (ru, rn, 0)) : 0 ≤ at_ ∧ at_ < (rn : Int) ∧ rn ≤ l.length := by
  unfold getA at hr
  by_cases h : at_ < 0 ∨ (l.length : Int) < at_
  · rw [if_pos h] at hr; simp at hr
  · rw [if_neg h] at hr
    obtain ⟨p, rfl⟩ : ∃ p : Nat, at_ = (p : Int) := ⟨at_.toNat, by omega⟩
    have h1 : getGo p (l.drop p) 0 0 = (ru, rn, 0) := by simpa [getR] using hr
    have := getGo_next p l.length (l.drop p) 0 0 (by rw [List.length_drop]; omega) (by rw [h1])
    rw [h1] at this
    simp at this
    omega

/-- A text read. -/
def textA (l : List Nat) (at_ most : Int) : List Nat × Nat × Nat :=
  if (getA l at_).2.2 ≠ 0 then ([], 0, (getA l at_).2.2)
  else if max most 0 < ((getA l at_).1 : Int) then ([], 0, 4)
  else if l.length - (getA l at_).2.1 < (getA l at_).1 then ([], 0, 2)
  else (piece l (getA l at_).2.1 ((getA l at_).2.1 + (getA l at_).1), (getA l at_).2.1 + (getA l at_).1, 0)

theorem run_mkn (n : Nat) (hn : n ≤ 140737488355328) (W : World) : (Instr.makeSlice 22 (.int .u64 (n : Int)) (.int .u64 (n : Int))).run Try.prog W =
    .ok (.slice (some ⟨W.heap.size, 0, none⟩) n n) (W.alloc (.cells (madeCells #[.int .u8 0] n) 5)) := by
  obtain ⟨i0, hi, hz0, hz1, hz2⟩ := info_parts info5
  have := run_make (P := Try.prog) W 22 5 i0 _ Try.underlying22 hi hz0 .u64 .u64 n n (by omega) (by omega) (by rw [hz2]; omega) (by omega)
  simpa [hz1, Value.cells] using this

set_option maxHeartbeats 400000 in
theorem getText_err (v : Value) (l : List Nat) (at_ most : Int) (w : World) (B : Nat) (hv : RB w B v l) (ru rn re : Nat) (hr : getA l at_ = (ru, rn, re)) (h0 : re ≠ 0) :
    Calls Try.prog 58 #[v, .int .i64 at_, .int .i64 most] w fun e w' => e = .returned (.tuple #[.slice none 0 0, .int .i64 0, .int .i64 (re : Int)]) ∧ w = w' := by
  have hne : ((re : Int) != 0) = true := by simp; omega
  have HH := Lib.hid hr
  have HV := Lib.hid hv
  clear hr hv h0
  go_enter Try.func58, Try.ntmps58
  go_wp2_with fail
  refine (get_any v l at_ w B HV.out ru rn re HH.out).mono ?_
  rintro e w1 ⟨rfl, rfl⟩
  go_wp2
  go_ret3
  exact ⟨rfl, rfl⟩

theorem OB.ofRow {w : World} {B g n : Nat} {cs : List Value} {l : List Nat} (hg : w.heap[g]? = some (.cells cs.toArray 5 (0, 0))) (h : cs = l.map bcell) (hn : l.length = n) (hB : B ≤ g) (hl : ∀ x ∈ l, x < 256) (hlen : n ≤ 140737488355328) :
    OB w B (.slice (some ⟨g, 0, none⟩) n n) l := by
  subst hn
  subst h
  exact ⟨hl, hlen, by simp, .inr ⟨g, l.length, _, rfl, hB, hg, Nat.le_refl _, by simp only [maxLen]; omega, by simp, by rw [List.take_of_length_le (by simp)]⟩⟩
theorem add_plain2 (b off k : Nat) : (⟨b, off, none⟩ : Addr).add k = ⟨b, off + k, none⟩ := by unfold Addr.add; split <;> simp_all
theorem bcells_one (l : List Nat) : ∀ u ∈ l.map bcell, u.oneCell' = true := by
  intro u hu
  simp [bcell] at hu
  obtain ⟨x, _, rfl⟩ := hu
  rfl
theorem size_made (n : Nat) : (madeCells #[Value.int IntKind.u8 0] n).toList.length = n := by simp [madeCells]
theorem splice_all (L cs : List Value) (h : L.length = cs.length) : splice L 0 cs = cs := by
  unfold splice
  rw [List.take_zero, List.nil_append, List.drop_of_length_le (by omega), List.append_nil]

set_option maxHeartbeats 1000000 in
theorem getText_ok (v : Value) (l : List Nat) (at_ most : Int) (w : World) (hv : RB w w.heap.size v l) (n rn : Nat) (hr : getA l at_ = (n, rn, 0)) (hm1 : -9223372036854775808 ≤ most) (hm2 : most ≤ 9223372036854775807) :
    Calls Try.prog 58 #[v, .int .i64 at_, .int .i64 most] w fun e w' => ∃ v', e = .returned (.tuple #[v', .int .i64 ((textA l at_ most).2.1 : Nat), .int .i64 ((textA l at_ most).2.2 : Nat)]) ∧ OB w' w.heap.size v' (textA l at_ most).1 ∧ Below w.heap.size w w' := by
  obtain ⟨ha, hb, hc⟩ := getA_next l at_ n rn hr
  have hlt : Hid (n < 18446744073709551616) := getA_lt l at_ n rn 0 hr
  have HH := Lib.hid hr
  have HV := Lib.hid hv
  have ht : textA l at_ most = if max most 0 < (n : Int) then ([], 0, 4) else if l.length - rn < n then ([], 0, 2) else (piece l rn (rn + n), rn + n, 0) := by
    unfold textA
    rw [hr]
    simp
  obtain ⟨A, c, rfl, ha1, ha2, ha3, HA⟩ := hv.open_
  clear hr hv
  by_cases h1 : max most 0 < (n : Int)
  · rw [if_pos h1] at ht
    rw [ht]
    clear ht
    go_enter Try.func58, Try.ntmps58
    go_wp2_with fail
    refine (get_any _ l at_ w w.heap.size HV.out n rn 0 HH.out).mono ?_
    rintro e w1 ⟨rfl, rfl⟩
    go_wp2
    all_goals
      go_ret3
      exact ⟨_, rfl, OB.nil _ _, Below.refl _ _⟩
  · rw [if_neg h1] at ht
    have h1' : (n : Int) ≤ max most 0 := by omega
    by_cases h2 : l.length - rn < n
    · rw [if_pos h2] at ht
      rw [ht]
      clear ht
      have h2' : (l.length : Int) - (rn : Int) < (n : Int) := by omega
      go_enter Try.func58, Try.ntmps58
      go_wp2_with fail
      refine (get_any _ l at_ w w.heap.size HV.out n rn 0 HH.out).mono ?_
      rintro e w1 ⟨rfl, rfl⟩
      go_wp2
      all_goals
        go_ret3
        exact ⟨_, rfl, OB.nil _ _, Below.refl _ _⟩
    · rw [if_neg h2] at ht
      rw [ht]
      clear ht
      have h2' : rn + n ≤ l.length := by omega
      have hmk := fun W => run_mkn n (by omega) W
      have hpl : (piece l rn (rn + n)).length = n := by unfold piece; rw [List.length_drop, List.length_take]; omega
      have hpb : ∀ x ∈ piece l rn (rn + n), x < 256 := fun x hx => HV.out.1 x (List.mem_of_mem_take (List.mem_of_mem_drop hx))
      have HPB := Lib.hid hpb
      have HPL := Lib.hid hpl
      have HBel : Hid (Below w.heap.size w (w.alloc (.cells (madeCells #[Value.int IntKind.u8 0] n) 5))) := (Below.refl _ _).alloc (Nat.le_refl _) _
      have HG : Hid ((w.alloc (.cells (madeCells #[Value.int IntKind.u8 0] n) 5)).heap[w.heap.size]? = some (.cells (madeCells #[Value.int IntKind.u8 0] n).toList.toArray 5 (0, 0))) := by
        show _ = _
        rw [Array.toArray_toList]
        exact heap_alloc_new w _
      have HSRC : Hid (0 < n → ∃ b off, A = some ⟨b, off, none⟩ ∧ ∀ j v, ((piece l rn (rn + n)).map bcell)[j]? = some v → (w.alloc (.cells (madeCells #[Value.int IntKind.u8 0] n) 5)).cell? ((⟨b, off + rn, none⟩ : Addr).add j) = some v) := by
        intro hn
        obtain ⟨b, off, hA, hb', _, _⟩ := HA.out rn (by omega)
        refine ⟨b, off, hA, ?_⟩
        refine bcells_at ?_
        intro j x hj
        have hjl : j < n := by
          have := (List.getElem?_eq_some_iff.1 hj).1
          omega
        obtain ⟨b2, off2, hA2, hb2, hcell, _⟩ := HA.out (rn + j) (by omega)
        rw [hA] at hA2
        injection hA2 with hA2
        injection hA2 with e1 e2
        subst e1
        subst e2
        rw [HBel.out.cell (p := ⟨b, off + rn + j, none⟩) hb', Nat.add_assoc, hcell]
        unfold piece at hj
        rw [List.getElem?_drop, List.getElem?_take, if_pos (by omega)] at hj
        have := (List.getElem?_eq_some_iff.1 hj).2
        rw [this]
      clear hpl hpb
      by_cases hcap : c = rn
      · have hcap' := hcap.symm
        subst hcap'
        have hn0 : n ≤ 0 := by omega
        go_enter Try.func58, Try.ntmps58
        go_wp2_with fail
        refine (get_any _ l at_ w w.heap.size HV.out n rn 0 HH.out).mono ?_
        rintro e w1 ⟨rfl, rfl⟩
        go_wp2_with (with_reducible refine wpList_copy_splice rfl (.tmp 37) (.tmp 40) 22 22 rfl 5 Try.underlying22 (by kernel_rfl) _ _ _ _ _ _ rfl rfl w.heap.size 0 (madeCells #[Value.int IntKind.u8 0] n).toList 5 HG.out ((piece l rn (rn + n)).map bcell) (by rw [List.length_map, HPL.out]; exact (Nat.min_eq_right (by omega)).symm) (by intro h; rw [List.length_map, HPL.out] at h; omega) (by rw [size_made, List.length_map, HPL.out]; omega) (bcells_one _) w.heap.size w HBel.out (Nat.le_refl _) ?_; intro w2 hg2 hb2; have HB2 := Lib.hid hb2; clear hb2)
        all_goals
          go_ret3
          refine ⟨_, rfl, OB.ofRow hg2.out (splice_all _ _ (by rw [size_made, List.length_map, HPL.out])) HPL.out (Nat.le_refl _) HPB.out (by omega), HB2.out⟩
      · go_enter Try.func58, Try.ntmps58
        go_wp2_with fail
        refine (get_any _ l at_ w w.heap.size HV.out n rn 0 HH.out).mono ?_
        rintro e w1 ⟨rfl, rfl⟩
        go_wp2_with (with_reducible refine wpList_copy_splice rfl (.tmp 37) (.tmp 40) 22 22 rfl 5 Try.underlying22 (by kernel_rfl) _ _ _ _ _ _ rfl rfl w.heap.size 0 (madeCells #[Value.int IntKind.u8 0] n).toList 5 HG.out ((piece l rn (rn + n)).map bcell) (by rw [List.length_map, HPL.out]; exact (Nat.min_eq_right (by omega)).symm) (by intro h; rw [List.length_map, HPL.out] at h; obtain ⟨b, off, hA, hc2⟩ := HSRC.out h; refine ⟨rfl, ⟨b, off + rn, none⟩, ?_, hc2⟩; rw [hA, Option.map_some, add_plain2]) (by rw [size_made, List.length_map, HPL.out]; omega) (bcells_one _) w.heap.size w HBel.out (Nat.le_refl _) ?_; intro w2 hg2 hb2; have HB2 := Lib.hid hb2; clear hb2)
        all_goals
          go_ret3
          refine ⟨_, rfl, OB.ofRow hg2.out (splice_all _ _ (by rw [size_made, List.length_map, HPL.out])) HPL.out (Nat.le_refl _) HPB.out (by omega), HB2.out⟩
end Go.Proofs.Ytbmjiheclagfiaa
