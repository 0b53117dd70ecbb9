/-
  The walk of merge, which calls itself.
-/
import Derived.Test.YtlakcldgolpaiaaEP9
namespace Go.Proofs.Ytlakcldgolpaiaa
open Go.RowKit
set_option linter.unusedVariables false

theorem size_root {N : Nodes SV} {t : Tr} (h : Laid N t) (h0 : (N 0).size = 0) : (N t.root).size = t.list.length := by
  by_cases hn : t = .nil
  · subst hn; exact h0
  · exact h.size hn

theorem len_le {l : List Nat} {n : Nat} (hd : l.Nodup) (hl : ∀ i ∈ l, i < n) : l.length ≤ n := by
  have := hd.length_le_of_subset (fun i hi => List.mem_range.2 (hl i hi) : l ⊆ List.range n)
  simpa using this

theorem root_lt {t : Tr} {n : Nat} (hn : 0 < n) (h : ∀ i ∈ t.list, i < n) : t.root < n := by
  by_cases ht : t = .nil
  · subst ht; exact hn
  · exact h _ (Tr.root_mem ht)

def MergeK (g B : Nat) (sv : Value) (nb n cap : Nat) (k : Nat) : Prop := ∀ (w : World) (N : Nodes SV) (ta tb : Tr), ta.list.length + tb.list.length ≤ k → Mem w g B sv nb n cap N → Laid N ta → Laid N tb → (ta.list ++ tb.list).Nodup → (∀ i ∈ ta.list ++ tb.list, 0 < i ∧ i < n) → (N 0).size = 0 →
    Calls Try.prog 83 #[.pointer (some ⟨g, 0, none⟩), .int .i64 (ta.root : Int), .int .i64 (tb.root : Int)] w fun e w' => ∃ N' t, e = .returned (.int .i64 (t.root : Int)) ∧ Mem w' g B sv nb n cap N' ∧ Mod (fun k => k = nb) w w' ∧ MergeOut N ta tb N' t

set_option maxRecDepth 100000 in
set_option maxHeartbeats 4000000 in
theorem merge_nil_l {g B : Nat} {sv : Value} {nb n cap : Nat} (w : World) (N : Nodes SV) (tb : Tr) (hM : Mem w g B sv nb n cap N) (hb : Laid N tb) :
    Calls Try.prog 83 #[.pointer (some ⟨g, 0, none⟩), .int .i64 0, .int .i64 (tb.root : Int)] w fun e w' => ∃ N' t, e = .returned (.int .i64 (t.root : Int)) ∧ Mem w' g B sv nb n cap N' ∧ Mod (fun k => k = nb) w w' ∧ MergeOut N .nil tb N' t := by
  have H : Hid (Mem w g B sv nb n cap N ∧ MergeOut N .nil tb N tb) := Lib.hid ⟨hM, merge_nil_left hb⟩
  obtain ⟨b, hb0⟩ : ∃ b, b = tb.root := ⟨_, rfl⟩
  rw [← hb0]
  have HB := Lib.hid hb0
  have hmax : ∀ (ty : TypeId) (W : World), (Builtin.max_ #[3, 3] ty #[.int .i64 0, .int .i64 (b : Int)]).run Try.prog W = .ok (.int .i64 (b : Int)) W := by
    intro ty W
    by_cases h : b = 0
    · subst h; simp [Builtin.max_, Builtin.max2, List.foldlM]
    · have h2 : (0 : Int) < (b : Int) := by omega
      simp [Builtin.max_, Builtin.max2, List.foldlM]
      omega
  clear hM hb hb0
  go_enter Try.func83, Try.ntmps83
  go_wp2_with fail
  go_ret
  exact ⟨N, tb, by rw [HB.out]; rfl, H.out.1, Mod.refl _ _, H.out.2⟩

set_option maxRecDepth 100000 in
set_option maxHeartbeats 4000000 in
theorem merge_nil_r {g B : Nat} {sv : Value} {nb n cap : Nat} (w : World) (N : Nodes SV) (ta : Tr) (hM : Mem w g B sv nb n cap N) (ha : Laid N ta) (h0 : ta.root ≠ 0) :
    Calls Try.prog 83 #[.pointer (some ⟨g, 0, none⟩), .int .i64 (ta.root : Int), .int .i64 0] w fun e w' => ∃ N' t, e = .returned (.int .i64 (t.root : Int)) ∧ Mem w' g B sv nb n cap N' ∧ Mod (fun k => k = nb) w w' ∧ MergeOut N ta .nil N' t := by
  have H : Hid (Mem w g B sv nb n cap N ∧ MergeOut N ta .nil N ta) := Lib.hid ⟨hM, merge_nil_right ha⟩
  obtain ⟨a, ha0⟩ : ∃ a, a = ta.root := ⟨_, rfl⟩
  rw [← ha0] at h0 ⊢
  have HA := Lib.hid ha0
  have hd : ((a : Int) == 0) = false := by simpa using h0
  have hmax : ∀ (ty : TypeId) (W : World), (Builtin.max_ #[3, 3] ty #[.int .i64 (a : Int), .int .i64 0]).run Try.prog W = .ok (.int .i64 (a : Int)) W := by
    intro ty W
    simp [Builtin.max_, Builtin.max2, List.foldlM]
    omega
  clear hM ha ha0
  go_enter Try.func83, Try.ntmps83
  go_wp2_with fail
  go_ret
  exact ⟨N, ta, by rw [HA.out]; rfl, H.out.1, Mod.refl _ _, H.out.2⟩

set_option maxRecDepth 100000 in
set_option maxHeartbeats 4000000 in
theorem merge_any {g B : Nat} {sv : Value} {nb n cap : Nat} (hn : n ≤ 65537) (h1 : 0 < n) : ∀ k, MergeK g B sv nb n cap k := by
  intro k
  induction k with
  | zero =>
    intro w N ta tb hk hM ha hb hd hp h0
    cases ta with
    | nil => exact merge_nil_l w N tb hM hb
    | node l a r => simp [Tr.list] at hk
  | succ k ih =>
    intro w N ta tb hk hM hta htb hd hp h0
    cases ta with
    | nil => exact merge_nil_l w N tb hM htb
    | node l a r =>
    cases tb with
    | nil =>
      refine merge_nil_r w N _ hM hta ?_
      have := hp a (by simp [Tr.list])
      simp [Tr.root]; omega
    | node l' b r' =>
    change Calls Try.prog 83 #[.pointer (some ⟨g, 0, none⟩), .int .i64 (a : Int), .int .i64 (b : Int)] w _
    have ha := hp a (by simp [Tr.list])
    have hb := hp b (by simp [Tr.list])
    have hnd : ((Tr.node l a r).list ++ (Tr.node l' b r').list).Nodup := hd
    obtain ⟨-, -, -, -, -, -, -, ra, -, la, xa⟩ := hM.cells ha.2
    obtain ⟨-, -, -, -, -, -, -, rb, -, lb, xb⟩ := hM.cells hb.2
    have b1 : w.cell? ⟨g, 1, none⟩ = _ := hM.blk.cell 1
    rw [show (N a).left = l.root from hta.1] at la
    rw [show (N a).right = r.root from hta.2.1] at xa
    rw [show (N b).left = l'.root from htb.1] at lb
    rw [show (N b).right = r'.root from htb.2.1] at xb
    obtain ⟨lr, hlr⟩ : ∃ x, x = l.root := ⟨_, rfl⟩
    obtain ⟨rr, hrr⟩ : ∃ x, x = r.root := ⟨_, rfl⟩
    obtain ⟨lr', hlr'⟩ : ∃ x, x = l'.root := ⟨_, rfl⟩
    obtain ⟨rr', hrr'⟩ : ∃ x, x = r'.root := ⟨_, rfl⟩
    rw [← hlr] at la
    rw [← hrr] at xa
    rw [← hlr'] at lb
    rw [← hrr'] at xb
    obtain ⟨ka, hka⟩ : ∃ x, x = (N a).rank := ⟨_, rfl⟩
    obtain ⟨kb, hkb⟩ : ∃ x, x = (N b).rank := ⟨_, rfl⟩
    rw [← hka] at ra
    rw [← hkb] at rb
    have ha0 : ((a : Int) == 0) = false := by simp; omega
    have hb0 : ((b : Int) == 0) = false := by simp; omega
    have HM := Lib.hid hM
    have ha2 := ha.2
    have hb2 := hb.2
    by_cases hrk : kb < ka
    · have d1 : decide ((kb : Int) < (ka : Int)) = true := by simp; omega
      have hih : ∀ W, Mem W g B sv nb n cap N → Calls Try.prog 83 #[.pointer (some ⟨g, 0, none⟩), .int .i64 (rr : Int), .int .i64 (b : Int)] W fun e w' => ∃ N1 t1, e = .returned (.int .i64 (t1.root : Int)) ∧ Mem w' g B sv nb n cap N1 ∧ Mod (fun k => k = nb) W w' ∧ MergeOut N r (.node l' b r') N1 t1 := fun W hW => by
        rw [hrr]
        exact ih W N r (.node l' b r') (by simp [Tr.list] at hk ⊢; omega) hW hta.2.2.2.2.2.1 htb (by
          refine (List.sublist_append_right (l.list ++ [a]) _).nodup (l₂ := (l.list ++ [a]) ++ (r.list ++ (Tr.node l' b r').list)) ?_
          simpa [Tr.list] using hd) (fun i hi => hp i (by simp [Tr.list] at hi ⊢; rcases hi with h | h | h | h <;> simp [h])) h0
      have HIH := Lib.hid hih
      have hx : ∀ W w4 N1 t1, Mem W g B sv nb n cap N → Mod (fun k => k = nb) w W → Mem w4 g B sv nb n cap N1 → Mod (fun k => k = nb) W w4 → MergeOut N r (.node l' b r') N1 t1 → w4.cell? ⟨g, 1, none⟩ = some (.slice (some ⟨nb, 0, none⟩) n cap) ∧ w4.cell? ⟨nb, a * 11 + 9, none⟩ = some (.int .i64 (lr : Int)) ∧
          Hid (Calls Try.prog 99 #[.pointer (some ⟨g, 0, none⟩), .int .i64 (a : Int), .int .i64 (lr : Int), .int .i64 (t1.root : Int)] w4 fun e w5 => e = .returned (.tuple #[]) ∧ Hid (∃ N' t, Ending.returned (.int .i64 (a : Int)) = .returned (.int .i64 (t.root : Int)) ∧ Mem w5 g B sv nb n cap N' ∧ Mod (fun k => k = nb) w w5 ∧ MergeOut N (.node l a r) (.node l' b r') N' t)) := by
        intro W w4 N1 t1 hW hmW h4 m4 o4
        have hfin := merge_left hta o4 hd (fun i hi => (hp i hi).1) h0
        have hlist := hfin.list
        have hal : a ∉ r.list ++ (Tr.node l' b r').list := by
          intro hi
          have h2 := List.nodup_append.1 (show (l.list ++ (a :: (r.list ++ (Tr.node l' b r').list))).Nodup by simpa [Tr.list] using hd)
          exact (List.nodup_cons.1 h2.2.1).1 hi
        have hNa : N1 a = N a := o4.far a hal
        refine ⟨h4.blk.cell 1, by have := (h4.cells ha2).2.2.2.2.2.2.2.2.2.1; rw [hNa, hta.1, ← hlr] at this; exact this, Lib.hid ?_⟩
        have hlt : ∀ i ∈ (Tr.node l a t1).list, i < n := fun i hi => (hp i (by rw [hlist] at hi; exact hi)).2
        have hlaid := hfin.laid
        have hnd2 : (l.list ++ a :: t1.list).Nodup := by rw [show l.list ++ a :: t1.list = (Tr.node l a t1).list from rfl, hlist]; exact hd
        have h2 := List.nodup_append.1 hnd2
        have hl4 : Laid N1 l := hta.2.2.2.2.1.same (fun i hi => o4.far i fun hi2 => h2.2.2 i hi i (by rw [o4.list]; exact List.mem_cons_of_mem _ hi2) rfl) h2.1
        have hz4 : (N1 0).size = 0 := by
          rw [o4.far 0 (fun hi => by have := hp 0 (by simp [Tr.list] at hi ⊢; rcases hi with h | h | h | h <;> simp [h]); omega)]; exact h0
        have hlen := len_le hnd2 (fun i hi => hlt i hi)
        simp only [List.length_append, List.length_cons] at hlen
        refine (hang_any w4 g B sv nb n cap N1 h4 hn a lr t1.root ha2 (by rw [hlr]; exact root_lt h1 (fun i hi => hlt i (by simp [Tr.list, hi]))) (root_lt h1 (fun i hi => hlt i (by simp [Tr.list, hi]))) (by rw [hlr]; exact (root_ne ha.1 (fun hi => h2.2.2 a hi a (by simp) rfl)).symm) (root_ne ha.1 (List.nodup_cons.1 h2.2.1).1).symm (by rw [hlr, size_root hl4 hz4, size_root o4.laid hz4]; omega)).mono ?_
        rintro e w5 ⟨rfl, h5, m5⟩
        rw [hlr] at h5
        exact ⟨rfl, Lib.hid ⟨_, _, rfl, h5, (hmW.trans' m4).trans' m5, hfin⟩⟩
      have HX0 := Lib.hid hx
      clear hM hta htb hd hp hnd hk ih hih hx hlr hrr hlr' hrr' hka hkb ha hb
      have HMD : Hid (Mem w.drew.drew g B sv nb n cap N) := Lib.hid HM.out.drew.drew
      have HWD : Hid (Mod (fun k => k = nb) w w.drew.drew) := Lib.hid (Mod.refl _ _).drew.drew
      go_enter Try.func83, Try.ntmps83
      go_wp2_with fail
      go_region
      go_wp2_with fail
      go_region_law (first
        | (go_simp; go_at_call 83; refine (HIH.out _ HMD.out).mono ?_; rintro e w4 ⟨N1, t1, rfl, h4, m4, o4⟩; obtain ⟨x0, x1, HB4⟩ := HX0.out _ w4 N1 t1 HMD.out HWD.out h4 m4 o4; clear h4 m4 o4)
        | (go_simp; go_at_call 99; refine HB4.out.mono ?_; rintro e w5 ⟨rfl, HR5⟩))
      all_goals (
        go_wp2_with fail
        go_ret
        exact HR5.out)
    · have d1 : decide ((kb : Int) < (ka : Int)) = false := by simp; omega
      have hih : ∀ W, Mem W g B sv nb n cap N → Calls Try.prog 83 #[.pointer (some ⟨g, 0, none⟩), .int .i64 (a : Int), .int .i64 (lr' : Int)] W fun e w' => ∃ N1 t1, e = .returned (.int .i64 (t1.root : Int)) ∧ Mem w' g B sv nb n cap N1 ∧ Mod (fun k => k = nb) W w' ∧ MergeOut N (.node l a r) l' N1 t1 := fun W hW => by
        rw [hlr']
        exact ih W N (.node l a r) l' (by simp [Tr.list] at hk ⊢; omega) hW hta htb.2.2.2.2.1 (by
          refine (List.sublist_append_left ((Tr.node l a r).list ++ l'.list) (b :: r'.list)).nodup ?_
          simpa [Tr.list] using hd) (fun i hi => hp i (by simp [Tr.list] at hi ⊢; rcases hi with h | h | h | h <;> simp [h])) h0
      have HIH := Lib.hid hih
      have hx : ∀ W w4 N1 t1, Mem W g B sv nb n cap N → Mod (fun k => k = nb) w W → Mem w4 g B sv nb n cap N1 → Mod (fun k => k = nb) W w4 → MergeOut N (.node l a r) l' N1 t1 → w4.cell? ⟨g, 1, none⟩ = some (.slice (some ⟨nb, 0, none⟩) n cap) ∧ w4.cell? ⟨nb, b * 11 + 10, none⟩ = some (.int .i64 (rr' : Int)) ∧
          Hid (Calls Try.prog 99 #[.pointer (some ⟨g, 0, none⟩), .int .i64 (b : Int), .int .i64 (t1.root : Int), .int .i64 (rr' : Int)] w4 fun e w5 => e = .returned (.tuple #[]) ∧ Hid (∃ N' t, Ending.returned (.int .i64 (b : Int)) = .returned (.int .i64 (t.root : Int)) ∧ Mem w5 g B sv nb n cap N' ∧ Mod (fun k => k = nb) w w5 ∧ MergeOut N (.node l a r) (.node l' b r') N' t)) := by
        intro W w4 N1 t1 hW hmW h4 m4 o4
        have hfin := merge_right htb o4 hd (fun i hi => (hp i hi).1) h0
        have hlist := hfin.list
        have hnd2 : (t1.list ++ b :: r'.list).Nodup := by rw [show t1.list ++ b :: r'.list = (Tr.node t1 b r').list from rfl, hlist]; exact hd
        have h2 := List.nodup_append.1 hnd2
        have hNb : N1 b = N b := o4.far b fun hi => h2.2.2 b (by rw [o4.list]; exact hi) b (by simp) rfl
        refine ⟨h4.blk.cell 1, by have := (h4.cells hb2).2.2.2.2.2.2.2.2.2.2; rw [hNb, htb.2.1, ← hrr'] at this; exact this, Lib.hid ?_⟩
        have hlt : ∀ i ∈ (Tr.node t1 b r').list, i < n := fun i hi => (hp i (by rw [hlist] at hi; exact hi)).2
        have hr4 : Laid N1 r' := htb.2.2.2.2.2.1.same (fun i hi => o4.far i fun hi2 => h2.2.2 i (by rw [o4.list]; exact hi2) i (List.mem_cons_of_mem _ hi) rfl) (List.nodup_cons.1 h2.2.1).2
        have hz4 : (N1 0).size = 0 := by
          rw [o4.far 0 (fun hi => by have := hp 0 (by simp [Tr.list] at hi ⊢; rcases hi with h | h | h | h <;> simp [h]); omega)]; exact h0
        have hlen := len_le hnd2 (fun i hi => hlt i hi)
        simp only [List.length_append, List.length_cons] at hlen
        refine (hang_any w4 g B sv nb n cap N1 h4 hn b t1.root rr' hb2 (root_lt h1 (fun i hi => hlt i (by simp [Tr.list, hi]))) (by rw [hrr']; exact root_lt h1 (fun i hi => hlt i (by simp [Tr.list, hi]))) (root_ne hb.1 (fun hi => h2.2.2 b hi b (by simp) rfl)).symm (by rw [hrr']; exact (root_ne hb.1 (List.nodup_cons.1 h2.2.1).1).symm) (by rw [hrr', size_root hr4 hz4, size_root o4.laid hz4]; omega)).mono ?_
        rintro e w5 ⟨rfl, h5, m5⟩
        rw [hrr'] at h5
        exact ⟨rfl, Lib.hid ⟨_, _, rfl, h5, (hmW.trans' m4).trans' m5, hfin⟩⟩
      have HX0 := Lib.hid hx
      clear hM hta htb hd hp hnd hk ih hih hx hlr hrr hlr' hrr' hka hkb ha hb
      have HMD : Hid (Mem w.drew.drew g B sv nb n cap N) := Lib.hid HM.out.drew.drew
      have HWD : Hid (Mod (fun k => k = nb) w w.drew.drew) := Lib.hid (Mod.refl _ _).drew.drew
      go_enter Try.func83, Try.ntmps83
      go_wp2_with fail
      go_region
      go_wp2_with fail
      go_region_law (first
        | (go_simp; go_at_call 83; refine (HIH.out _ HMD.out).mono ?_; rintro e w4 ⟨N1, t1, rfl, h4, m4, o4⟩; obtain ⟨x0, x1, HB4⟩ := HX0.out _ w4 N1 t1 HMD.out HWD.out h4 m4 o4; clear h4 m4 o4)
        | (go_simp; go_at_call 99; refine HB4.out.mono ?_; rintro e w5 ⟨rfl, HR5⟩))
      all_goals (
        go_wp2_with fail
        go_ret
        exact HR5.out)

end Go.Proofs.Ytlakcldgolpaiaa
