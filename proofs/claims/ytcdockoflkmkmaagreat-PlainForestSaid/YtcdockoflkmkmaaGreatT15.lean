/-
  Steps of a drawn region that hang on what an earlier one has given ('&&', '||'); the walk of SameInts at equal lists.
-/
import Derived.Test.YtcdockoflkmkmaaGreatT14
namespace Go.Proofs.YtcdockoflkmkmaaGreat
open Go.RowKit Go.Sort
set_option linter.unusedVariables false

section
variable {P : Program} {ops : Array Oper} {Q : Exit → Act → World → Prop}
theorem bool_at {t : Array Value} {k : Nat} {b : Bool} (h : t.getD k undef = .bool b) : t[k]? = some (.bool b) := by
  rw [Array.getD_eq_getD_getElem?] at h
  cases h2 : t[k]? with
  | none => rw [h2] at h; cases h
  | some x => rw [h2] at h; exact congrArg some h
theorem yields {a : Act} {oj : Oper} {j t : Nat} {b : Bool} (hoj : ops[j]? = some oj) (ht : oj.dst = some t) (hv : a.tmps.getD t undef = .bool b) : yielded ops a.tmps j = some b := by
  unfold yielded
  rw [hoj]
  simp only [Option.bind_some, ht, bool_at hv]
theorem wanted_of {a : Act} {o oj : Oper} {j t : Nat} {b : Bool} (hg : o.guard = some (j, b)) (hoj : ops[j]? = some oj) (ht : oj.dst = some t) (hv : a.tmps.getD t undef = .bool b) : Region.wanted o (yielded ops a.tmps) = true := by
  unfold Region.wanted
  rw [hg]
  simp only [yields hoj ht hv, beq_self_eq_true]
theorem unwanted_of {a : Act} {o oj : Oper} {j t : Nat} {b c : Bool} (hg : o.guard = some (j, b)) (hoj : ops[j]? = some oj) (ht : oj.dst = some t) (hv : a.tmps.getD t undef = .bool c) (hne : c ≠ b) : Region.wanted o (yielded ops a.tmps) = false := by
  unfold Region.wanted
  rw [hg]
  simp only [yields hoj ht hv]
  simpa using hne
variable {S : Nat → Value → World → Prop} {I : Array Bool → World → Prop} {a0 a : Act} {L : Array Bool} {w w' : World}
theorem Slots.valG (h : Slots ops S I a0 L a w) {i : Nat} {o : Oper} (ho : ops[i]? = some o) (hw : Region.wanted o (yielded ops a.tmps) = true) {v : Value} (hrun : (execOp a.eval o).run P w = .ok (.value v) w) (hI : I (L.setIfInBounds i true) w) (hv : S i v w) :
    wpOp P ops Q i (Slots ops S I a0 (L.setIfInBounds i true)) a w := by
  unfold wpOp
  simp only [ho, hw, if_true, Oper.wp, hrun, Oper.upon]
  exact .inl (h.put ho (fun _ _ _ h => h) hI hv)
theorem Slots.callG (h : Slots ops S I a0 L a w) {i : Nat} {o : Oper} (ho : ops[i]? = some o) (hw : Region.wanted o (yielded ops a.tmps) = true) {f : FuncId} {args : Array Value} (hrun : (execOp a.eval o).run P w = .ok (.enter f args) w)
    (hc : Calls P f args w fun e w' => ∃ v, e = .returned v ∧ (∀ k u, L.getD k false = true → S k u w → S k u w') ∧ I (L.setIfInBounds i true) w' ∧ S i v w') : wpOp P ops Q i (Slots ops S I a0 (L.setIfInBounds i true)) a w := by
  unfold wpOp
  simp only [ho, hw, if_true, Oper.wp, hrun, Oper.upon]
  refine .inl (hc.mono ?_)
  rintro e w' ⟨v, rfl, hS, hI, hv⟩
  exact h.put ho hS hI hv
theorem Slots.passG (h : Slots ops S I a0 L a w) {i : Nat} {o : Oper} (ho : ops[i]? = some o) (hw : Region.wanted o (yielded ops a.tmps) = false) (hI : I (L.setIfInBounds i true) w) (hv : S i undef w) :
    wpOp P ops Q i (Slots ops S I a0 (L.setIfInBounds i true)) a w := by
  unfold wpOp
  simp only [ho, hw, Bool.false_eq_true, if_false]
  exact h.put ho (fun _ _ _ h => h) hI hv
end

set_option maxRecDepth 100000 in
set_option maxHeartbeats 2000000 in
theorem SameInts_yes (v v2 : Value) (V : List Int) (w : World) (B B2 : Nat) (hv : RI w B v V) (hv2 : RI w B2 v2 V) :
    Calls Tryz.prog 27 #[v, v2] w fun e w' => e = .returned (.bool true) ∧ ∃ q, w' = w.drewN q := by
  obtain ⟨A, c, rfl, hc1, hc2, hc3, HC⟩ := hv.open_
  obtain ⟨A2, c2, rfl, hd1, hd2, hd3, HD⟩ := hv2.open_
  clear hv hv2
  obtain ⟨n, hn⟩ : ∃ n, n = V.length := ⟨_, rfl⟩
  rw [← hn] at hc1 hc3 hd1 hd3 ⊢
  have HN := Lib.hid hn
  clear hn
  go_enter Tryz.func27, Tryz.ntmps27
  go_wp2
  go_loopw [5] (fun i wr => ∃ (k q : Nat), k ≤ n ∧ i = .int .i64 k ∧ wr = w.drewN q) (fun i wr => n - (intOf i).toNat)
  case atStart => exact ⟨0, 0, Nat.zero_le _, rfl, rfl⟩
  case round =>
    obtain ⟨k, q, hk, rfl, rfl⟩ := hrel
    by_cases hlt : k < n
    · obtain ⟨b, o, rfl, hb, hx⟩ := HC.out k (by have := HN.out; omega)
      obtain ⟨b2, o2, rfl, hb2, hx2⟩ := HD.out k (by have := HN.out; omega)
      obtain ⟨y, hy⟩ : ∃ y, y = V[k]'(by have := HN.out; omega) := ⟨_, rfl⟩
      rw [← hy] at hx hx2
      have hx := cellI hx
      have hx2 := cellI hx2
      have hx : (w.drewN q).cell? ⟨b, o + k, none⟩ = some (.int .i64 y) := hx
      have hx2 : (w.drewN q).cell? ⟨b2, o2 + k, none⟩ = some (.int .i64 y) := hx2
      clear hy
      obtain ⟨wr, hwr⟩ : ∃ wr, wr = w.drewN q := ⟨_, rfl⟩
      rw [← hwr] at hx hx2 ⊢
      have HWr := Lib.hid hwr
      clear hwr
      go_wp2_with fail
      go_quiet (fail)
      go_wp2_with fail
      go_roundw
      case rel => exact ⟨k + 1, _, by omega, by go_num, by rw [HWr.out, World.drewN_drewN]⟩
      case measure => simp [intOf]; omega
    · obtain rfl : k = n := by omega
      go_wp2
      go_ret
      exact ⟨rfl, q, rfl⟩
end Go.Proofs.YtcdockoflkmkmaaGreat
