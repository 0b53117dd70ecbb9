/-
  The walk of holds, whose deferred call recovers from nothing, and of Seek.
-/
import Derived.Test.YtlakcldgolpaiaaEP20
namespace Go.Proofs.Ytlakcldgolpaiaa
open Go.RowKit
set_option linter.unusedVariables false

theorem holds_d (w : World) : CallsD Try.prog 101 #[] .returning w fun e u' w' => e = .returned (.tuple #[]) ∧ u' = .returning ∧ w' = w := by
  refine callsD_of_wpS Try.func101 rfl fun c₀ cs hu => ?_
  apply wpS_region
  simp [wpOpsS, go_sem, recoverD, hu, Try.ntmps101]
  cases c₀
  simp_all [bodyPostS, results, Try.results101]

/-- A number of the element's that adds up. -/
structure Sel (p : SV → Int) : Prop where
  plus : ∀ x y, p (SV.plus x y) = IntKind.i64.wrap (p x + p y)

theorem sel_n : Sel SV.n := ⟨fun _ _ => rfl⟩

theorem sel_m : Sel SV.m := ⟨fun _ _ => rfl⟩

theorem sel_e : Sel SV.e := ⟨fun _ _ => rfl⟩

def marks (p : SV → Int) (x : SV) : Bool := decide (0 < p x)

set_option maxRecDepth 100000 in
theorem someV_any (x : SV) (w : World) :
    Calls Try.prog 57 #[x.v] w fun e w' => e = .returned (.bool (marks SV.m x)) ∧ Below w.heap.size w w' := by
  obtain ⟨b, hb⟩ : ∃ b, b = marks SV.m x := ⟨_, rfl⟩
  have hd : decide (0 < x.m) = b := by rw [hb]; rfl
  rw [← hb]
  clear hb
  unfold SV.v
  go_enter Try.func57, Try.ntmps57
  go_wp2_with fail
  go_ret
  exact ⟨rfl, (Below.refl _ _).alloc (Nat.le_refl _) _⟩

/-- The function value. -/
def someVV : Value := .func (.func 57) #[] #[]

set_option maxRecDepth 100000 in
theorem holdsV_any (x : SV) (w : World) :
    Calls Try.prog 85 #[someVV, x.v] w fun e w' => e = .returned (.bool (marks SV.m x)) ∧ Below w.heap.size w w' := by
  have hc := fun w => someV_any x w
  obtain ⟨b, hb⟩ : ∃ b, b = marks SV.m x := ⟨_, rfl⟩
  rw [← hb] at hc ⊢
  have HC := Lib.hid hc
  clear hc hb
  unfold SV.v someVV at *
  obtain ⟨W0, hW0⟩ : ∃ W0, W0 = w.alloc (.cells #[.int .i64 x.n, .int .i64 x.m, .int .i64 x.e] 68) := ⟨_, rfl⟩
  have hb0 : Below w.heap.size w W0 := by rw [hW0]; exact (Below.refl _ _).alloc (Nat.le_refl _) _
  go_enter_defers Try.func85, Try.ntmps85
  go_wp2_with fail
  rw [← hW0]
  refine (HC.out W0).mono ?_
  rintro e w1 ⟨rfl, hb1⟩
  have HB : Hid (Below w.heap.size w w1) := Lib.hid (hb0.trans (hb1.mono hb0.size))
  clear hW0 hb0 hb1
  go_wp2_with fail
  refine leaves_cons (f := 101) (args := #[]) (by simp) (by simp [go_sem]) ?_
  refine (holds_d _).mono ?_
  rintro e u' w'' ⟨rfl, rfl, rfl⟩
  simp [Leaves, settle, results, Try.results85, go_sem]
  exact HB.out

set_option maxRecDepth 100000 in
theorem someE_any (x : SV) (w : World) :
    Calls Try.prog 54 #[x.v] w fun e w' => e = .returned (.bool (marks SV.e x)) ∧ Below w.heap.size w w' := by
  obtain ⟨b, hb⟩ : ∃ b, b = marks SV.e x := ⟨_, rfl⟩
  have hd : decide (0 < x.e) = b := by rw [hb]; rfl
  rw [← hb]
  clear hb
  unfold SV.v
  go_enter Try.func54, Try.ntmps54
  go_wp2_with fail
  go_ret
  exact ⟨rfl, (Below.refl _ _).alloc (Nat.le_refl _) _⟩

/-- The function value. -/
def someEV : Value := .func (.func 54) #[] #[]

set_option maxRecDepth 100000 in
theorem holdsE_any (x : SV) (w : World) :
    Calls Try.prog 85 #[someEV, x.v] w fun e w' => e = .returned (.bool (marks SV.e x)) ∧ Below w.heap.size w w' := by
  have hc := fun w => someE_any x w
  obtain ⟨b, hb⟩ : ∃ b, b = marks SV.e x := ⟨_, rfl⟩
  rw [← hb] at hc ⊢
  have HC := Lib.hid hc
  clear hc hb
  unfold SV.v someEV at *
  obtain ⟨W0, hW0⟩ : ∃ W0, W0 = w.alloc (.cells #[.int .i64 x.n, .int .i64 x.m, .int .i64 x.e] 68) := ⟨_, rfl⟩
  have hb0 : Below w.heap.size w W0 := by rw [hW0]; exact (Below.refl _ _).alloc (Nat.le_refl _) _
  go_enter_defers Try.func85, Try.ntmps85
  go_wp2_with fail
  rw [← hW0]
  refine (HC.out W0).mono ?_
  rintro e w1 ⟨rfl, hb1⟩
  have HB : Hid (Below w.heap.size w w1) := Lib.hid (hb0.trans (hb1.mono hb0.size))
  clear hW0 hb0 hb1
  go_wp2_with fail
  refine leaves_cons (f := 101) (args := #[]) (by simp) (by simp [go_sem]) ?_
  refine (holds_d _).mono ?_
  rintro e u' w'' ⟨rfl, rfl, rfl⟩
  simp [Leaves, settle, results, Try.results85, go_sem]
  exact HB.out

/-! ### Seek -/

/-- What nodes bear is small enough: no sum of marks wraps. -/
def RM.Fit (M : RM SV) (p : SV → Int) : Prop := ∀ v ∈ M.own, 0 ≤ p v ∧ p v ≤ 255

theorem fit_val {p : SV → Int} {M : RM SV} (h : M.Fit p) {j : Nat} (hj : 1 ≤ j ∧ j ≤ M.own.length) : 0 ≤ p (M.val j) ∧ p (M.val j) ≤ 255 := by
  unfold RM.val
  rw [List.getElem?_eq_getElem (by omega)]
  exact h _ (List.getElem_mem _)

theorem fit_sum {p : SV → Int} (hp : Sel p) {M : RM SV} (h : M.Fit p) : ∀ (xs : List Nat), xs ≠ [] → xs.length ≤ 65536 → (∀ j ∈ xs, 1 ≤ j ∧ j ≤ M.own.length) → 0 ≤ p (bears M.val xs) ∧ p (bears M.val xs) ≤ 255 * xs.length ∧ marks p (bears M.val xs) = xs.any fun j => marks p (M.val j)
  | [], h0, _, _ => absurd rfl h0
  | [a], _, _, hk => by
    have := fit_val h (hk a (by simp))
    refine ⟨this.1, by simpa [bears] using this.2, by simp [bears]⟩
  | a :: b :: r, _, hl, hk => by
    have h1 := fit_val h (hk a (by simp))
    obtain ⟨i1, i2, i3⟩ := fit_sum hp h (b :: r) (by simp) (by simp at hl ⊢; omega) (fun j hj => hk j (List.mem_cons_of_mem _ hj))
    have hb : bears M.val (a :: b :: r) = SV.plus (M.val a) (bears M.val (b :: r)) := rfl
    have hlen : (b :: r).length ≤ 65536 := by simp at hl ⊢; omega
    have hm : p (bears M.val (a :: b :: r)) = p (M.val a) + p (bears M.val (b :: r)) := by
      rw [hb]
      rw [hp.plus, IntKind.wrap_i64]
      omega
    refine ⟨by rw [hm]; omega, by rw [hm]; simp only [List.length_cons] at i2 ⊢; omega, ?_⟩
    rw [List.any_cons, ← i3]
    unfold marks
    rw [hm]
    by_cases q1 : 0 < p (M.val a) <;> by_cases q2 : 0 < p (bears M.val (b :: r)) <;> simp [q1, q2] <;> omega

def RM.firstOf (M : RM SV) (p : SV → Int) (xs : List Nat) : Nat := (xs.find? fun j => marks p (M.val j)).getD 0

def RM.seekA (M : RM SV) (p : SV → Int) (a : Int) : Int := if M.known a = true then (M.firstOf p (M.rowOf a.toNat) : Int) else 0

theorem first_left {p : SV → Int} {M : RM SV} {l r : List Nat} {a : Nat} (h : l.any (fun j => marks p (M.val j)) = true) : M.firstOf p (l ++ a :: r) = M.firstOf p l := by
  unfold RM.firstOf
  rw [List.find?_append]
  cases hf : l.find? (fun j => marks p (M.val j)) with
  | some x => rfl
  | none =>
    rw [List.find?_eq_none] at hf
    obtain ⟨x, hx, hm⟩ := List.any_eq_true.1 h
    exact absurd hm (hf x hx)

theorem first_here {p : SV → Int} {M : RM SV} {l r : List Nat} {a : Nat} (h : l.any (fun j => marks p (M.val j)) = false) : M.firstOf p (l ++ a :: r) = if marks p (M.val a) = true then a else M.firstOf p r := by
  unfold RM.firstOf
  have hf : l.find? (fun j => marks p (M.val j)) = none := by
    rw [List.find?_eq_none]
    intro x hx hm
    have := List.any_eq_false.1 h x hx
    exact this hm
  rw [List.find?_append, hf, List.find?_cons]
  cases hm : marks p (M.val a) <;> simp

structure SkI (p : SV → Int) (N : Nodes SV) (M : RM SV) (R : Nat) (t : Tr) : Prop where
  laid : Laid N t
  known : ∀ j ∈ t.list, 1 ≤ j ∧ j ≤ M.own.length
  nd : t.list.Nodup
  res : M.firstOf p t.list = R

set_option maxRecDepth 100000 in
set_option maxHeartbeats 4000000 in
theorem rSeek (w : World) (g : Nat) (S : Nat → Prop) (M : RM SV) (h : Rp w g S M) (p : SV → Int) (hp : Sel p) (fv : Value) (hf : ∀ (x : SV) (w : World), Calls Try.prog 85 #[fv, x.v] w fun e w' => e = .returned (.bool (marks p x)) ∧ Below w.heap.size w w') (hfit : M.Fit p) (a : Int) :
    Calls Try.prog 73 #[.pointer (some ⟨g, 0, none⟩), .int .i64 a, fv] w fun e w' => e = .returned (.tuple #[.int .i64 (M.seekA p a), .int .i64 (M.errA a)]) ∧ Below w.heap.size w w' := by
  obtain ⟨B, sv, nb, cap, N, ss, hX, hSS⟩ := h
  have hka := knownX w g sv nb cap M hX.mem.blk a
  by_cases ha : M.known a = true
  · rw [ha] at hka
    obtain ⟨i, rfl, hi⟩ := known_nat ha
    have e1 : M.errA (i : Int) = 0 := by unfold RM.errA; rw [if_pos ha]
    have e2 : M.seekA p (i : Int) = (M.firstOf p (M.rowOf i) : Int) := by unfold RM.seekA; rw [if_pos ha, Int.toNat_natCast]
    rw [e1, e2]
    obtain ⟨t, t1, t2, t3, t4, t5, t6⟩ := topX hX hi
    obtain ⟨R, hR⟩ : ∃ R, R = M.firstOf p (M.rowOf i) := ⟨_, rfl⟩
    rw [← hR]
    have HT := Lib.hid (t6 w hX.mem)
    have HI : Hid (SkI p N M R t) := Lib.hid ⟨t2, fun j hj => by have := t5 j hj; omega, by rw [t1]; exact row_nodup hX.ok.ok (row_mem hX.ok.ok hi).1, by rw [t1, hR]⟩
    obtain ⟨x, hx⟩ : ∃ x, x = t.root := ⟨_, rfl⟩
    rw [← hx] at HT
    have HXX := Lib.hid hx
    have HKA := Lib.hid hka
    have HX := Lib.hid hX
    have HFIT := Lib.hid hfit
    have HF := Lib.hid hf
    clear hka e1 e2 ha hi hX hSS t1 t2 t3 t4 t5 t6 hx hR hfit hf
    go_enter Try.func73, Try.ntmps73
    go_wp2_with fail
    refine HKA.out.mono ?_
    rintro e w1 ⟨rfl, h1⟩
    subst w1
    go_wp2_with fail
    refine HT.out.mono ?_
    rintro e w1 ⟨rfl, h1⟩
    subst w1
    go_wp2_with fail
    go_loopg [1] t.list.length (fun k s1 wr => ∃ (c : Nat) (u : Tr), k = u.list.length ∧ s1 = .int .i64 (c : Int) ∧ Hid (c = u.root) ∧ Hid (SkI p N M R u) ∧ Hid (Below w.heap.size w wr))
    case atStart => exact ⟨x, t, rfl, rfl, HXX, HI, Lib.hid (Below.refl _ _)⟩
    case round =>
      obtain ⟨c, u, rfl, rfl, HC, HI, HB⟩ := hrel
      cases u with
      | nil =>
        have hc : c = 0 := HC.out
        have hres : R = 0 := HI.out.res.symm
        subst hc
        subst hres
        go_wp2_with fail
        go_ret2
        exact ⟨rfl, HB.out⟩
      | node l b r =>
        have hc : b = c := HC.out.symm
        subst hc
        obtain ⟨c, hc⟩ : ∃ c, c = b := ⟨_, rfl⟩
        rw [← hc]
        have hkn := HI.out.known b (by simp [Tr.list])
        have hcn : c < M.own.length + 1 := by omega
        have hcn2 : (c : Int) < (M.own.length : Int) + 1 := by omega
        have hc0 : ((c : Int) != 0) = true := by simp; omega
        have HMR := HX.out.mem.below HB.out
        have br : wr.cell? ⟨g, 1, none⟩ = _ := HMR.blk.cell 1
        obtain ⟨o0, o1, o1x, -, -, -, -, -, -, l7, -⟩ := HMR.cells hcn
        have hl1 : (N c).left = l.root := by rw [hc]; exact HI.out.laid.1
        have hr1 : (N c).right = r.root := by rw [hc]; exact HI.out.laid.2.1
        rw [hl1] at l7
        obtain ⟨o, ho⟩ : ∃ o, o = (N c).own := ⟨_, rfl⟩
        rw [← ho] at o0 o1 o1x
        obtain ⟨lr, hlr⟩ : ∃ x, x = l.root := ⟨_, rfl⟩
        rw [← hlr] at l7
        obtain ⟨rr, hrr⟩ : ∃ x, x = r.root := ⟨_, rfl⟩
        have HRR : Hid ((N c).right = rr) := Lib.hid (by rw [hrr]; exact hr1)
        have HRR2 := Lib.hid hrr
        have HLR := Lib.hid hlr
        have HO : Hid (o = M.val c) := Lib.hid (by rw [ho, HX.out.ok.val (by omega)])
        have hhold := fun W => HF.out o W
        unfold SV.v at hhold
        have HOLD := Lib.hid hhold
        have HRES : Hid (l.list.any (fun j => marks p (M.val j)) = false → R = if marks p (M.val c) = true then c else M.firstOf p r.list) := Lib.hid (fun h => by rw [← HI.out.res, hc]; exact first_here h)
        have hlk : ∀ j ∈ l.list, 1 ≤ j ∧ j ≤ M.own.length := fun j hj => HI.out.known j (by simp [Tr.list, hj])
        have HLK := Lib.hid hlk
        have HKN : Hid (1 ≤ c ∧ c ≤ M.own.length) := Lib.hid (by omega)
        clear hc hkn HMR hl1 hr1 ho hlr hrr hhold hlk
        by_cases hn : l = .nil
        · have hl0 : lr = 0 := by rw [HLR.out, hn]; rfl
          have HANY : Hid (l.list.any (fun j => marks p (M.val j)) = false) := Lib.hid (by rw [hn]; rfl)
          subst hl0
          clear hn
          by_cases hm : marks p o = true
          · have HMK : Hid (R = c) := Lib.hid (by rw [HRES.out HANY.out, if_pos (by rw [← HO.out]; exact hm)])
            go_wp2_with fail
            refine (HOLD.out _).mono ?_
            rintro e w5 ⟨rfl, hb5⟩
            rw [hm]
            have HB5 : Hid (Below w.heap.size w w5) := Lib.hid (HB.out.trans (hb5.mono HB.out.size))
            clear hb5
            go_wp2_with fail
            go_ret2
            exact ⟨by rw [HMK.out]; rfl, HB5.out⟩
          · have hm' : marks p o = false := by simpa using hm
            have HMK : Hid (SkI p N M R r) := Lib.hid ⟨HI.out.laid.2.2.2.2.2.1, fun j hj => HI.out.known j (by simp [Tr.list, hj]), (List.nodup_cons.1 (List.nodup_append.1 HI.out.nd).2.1).2, by rw [HRES.out HANY.out, if_neg (by rw [← HO.out]; exact hm)]⟩
            go_wp2_with fail
            refine (HOLD.out _).mono ?_
            rintro e w5 ⟨rfl, hb5⟩
            rw [hm']
            have HB5 : Hid (Below w.heap.size w w5) := Lib.hid (HB.out.trans (hb5.mono HB.out.size))
            have HM5 := HX.out.mem.below HB5.out
            have b5 : w5.cell? ⟨g, 1, none⟩ = _ := HM5.blk.cell 1
            have r5 : w5.cell? ⟨nb, c * 11 + 10, none⟩ = some (.int .i64 (rr : Int)) := by have := (HM5.cells hcn).2.2.2.2.2.2.2.2.2.2; rw [HRR.out] at this; exact this
            clear hb5 HM5
            go_wp2_with fail
            go_roundg r.list.length
            case measure => simp [Tr.list] <;> omega
            case rel => exact ⟨rr, r, rfl, rfl, HRR2, HMK, HB5⟩
        · have hlpos : 0 < lr := by
            rw [HLR.out]
            have := HLK.out _ (Tr.root_mem hn)
            omega
          have hln : lr < M.own.length + 1 := by
            rw [HLR.out]
            have := HLK.out _ (Tr.root_mem hn)
            omega
          have hln2 : (lr : Int) < (M.own.length : Int) + 1 := by omega
          have hl0 : ((lr : Int) != 0) = true := by simp; omega
          have HMR := HX.out.mem.below HB.out
          obtain ⟨-, -, -, s2, s3, s3x, -⟩ := HMR.cells hln
          obtain ⟨sl, hsl⟩ : ∃ sl, sl = (N lr).sum := ⟨_, rfl⟩
          rw [← hsl] at s2 s3 s3x
          have hfs := fit_sum hp HFIT.out l.list (fun e => hn (Tr.list_nil.1 e)) (by
            have := len_le (List.nodup_append.1 HI.out.nd).1 (fun j hj => Nat.lt_succ_of_le (HLK.out j hj).2)
            have hf := HX.out.few
            have hz : 0 ∉ l.list := fun hz => by have := HLK.out 0 hz; omega
            have h2 := (List.nodup_append.1 HI.out.nd).1.length_le_of_subset (fun j hj => (by have := HLK.out j hj; rw [List.mem_range'_1]; omega) : l.list ⊆ List.range' 1 M.own.length)
            simp at h2
            omega) HLK.out
          have hany : marks p sl = l.list.any fun j => marks p (M.val j) := by
            rw [hsl, HLR.out, HI.out.laid.2.2.2.2.1.sum hn, HX.out.ok.bears HLK.out]
            exact hfs.2.2
          have hhold2 := fun W => HF.out sl W
          unfold SV.v at hhold2
          have HOLD2 := Lib.hid hhold2
          have HANY0 := Lib.hid hany
          clear hsl hfs hany hhold2 HMR
          by_cases hml : marks p sl = true
          · have HL : Hid (SkI p N M R l) := Lib.hid ⟨HI.out.laid.2.2.2.2.1, HLK.out, (List.nodup_append.1 HI.out.nd).1, by rw [← HI.out.res]; exact (first_left (by rw [← HANY0.out]; exact hml)).symm⟩
            clear hn
            go_wp2_with fail
            refine (HOLD2.out _).mono ?_
            rintro e w4 ⟨rfl, hb4⟩
            rw [hml]
            have HB4 : Hid (Below w.heap.size w w4) := Lib.hid (HB.out.trans (hb4.mono HB.out.size))
            clear hb4
            go_wp2_with fail
            go_roundg l.list.length
            case measure => simp [Tr.list] <;> omega
            case rel => exact ⟨lr, l, rfl, rfl, HLR, HL, HB4⟩
          · have hml' : marks p sl = false := by simpa using hml
            have HANY : Hid (l.list.any (fun j => marks p (M.val j)) = false) := Lib.hid (by rw [← HANY0.out]; exact hml')
            clear hn hml
            go_wp2_with fail
            refine (HOLD2.out _).mono ?_
            rintro e w4 ⟨rfl, hb4⟩
            rw [hml']
            have HB4 : Hid (Below w.heap.size w w4) := Lib.hid (HB.out.trans (hb4.mono HB.out.size))
            have HM4 := HX.out.mem.below HB4.out
            clear hb4 br o0 o1 o1x l7
            have b4 : w4.cell? ⟨g, 1, none⟩ = _ := HM4.blk.cell 1
            have o0 : w4.cell? ⟨nb, c * 11, none⟩ = some (.int .i64 o.n) := by have := (HM4.cells hcn).1; rw [HX.out.ok.val HKN.out, ← HO.out] at this; exact this
            have o1 : w4.cell? ⟨nb, c * 11 + 1, none⟩ = some (.int .i64 o.m) := by have := (HM4.cells hcn).2.1; rw [HX.out.ok.val HKN.out, ← HO.out] at this; exact this
            have o1x : w4.cell? ⟨nb, c * 11 + 2, none⟩ = some (.int .i64 o.e) := by have := (HM4.cells hcn).2.2.1; rw [HX.out.ok.val HKN.out, ← HO.out] at this; exact this
            clear HM4
            by_cases hm : marks p o = true
            · have HMK : Hid (R = c) := Lib.hid (by rw [HRES.out HANY.out, if_pos (by rw [← HO.out]; exact hm)])
              go_wp2_with fail
              refine (HOLD.out _).mono ?_
              rintro e w5 ⟨rfl, hb5⟩
              rw [hm]
              have HB5 : Hid (Below w.heap.size w w5) := Lib.hid (HB4.out.trans (hb5.mono HB4.out.size))
              clear hb5
              go_wp2_with fail
              go_ret2
              exact ⟨by rw [HMK.out]; rfl, HB5.out⟩
            · have hm' : marks p o = false := by simpa using hm
              have HMK : Hid (SkI p N M R r) := Lib.hid ⟨HI.out.laid.2.2.2.2.2.1, fun j hj => HI.out.known j (by simp [Tr.list, hj]), (List.nodup_cons.1 (List.nodup_append.1 HI.out.nd).2.1).2, by rw [HRES.out HANY.out, if_neg (by rw [← HO.out]; exact hm)]⟩
              go_wp2_with fail
              refine (HOLD.out _).mono ?_
              rintro e w5 ⟨rfl, hb5⟩
              rw [hm']
              have HB5 : Hid (Below w.heap.size w w5) := Lib.hid (HB4.out.trans (hb5.mono HB4.out.size))
              have HM5 := HX.out.mem.below HB5.out
              have b5 : w5.cell? ⟨g, 1, none⟩ = _ := HM5.blk.cell 1
              have r5 : w5.cell? ⟨nb, c * 11 + 10, none⟩ = some (.int .i64 (rr : Int)) := by have := (HM5.cells hcn).2.2.2.2.2.2.2.2.2.2; rw [HRR.out] at this; exact this
              clear hb5 HM5
              go_wp2_with fail
              go_roundg r.list.length
              case measure => simp [Tr.list] <;> omega
              case rel => exact ⟨rr, r, rfl, rfl, HRR2, HMK, HB5⟩
  · have e1 : M.errA a = 150 := by unfold RM.errA; rw [if_neg ha]
    have e2 : M.seekA p a = 0 := by unfold RM.seekA; rw [if_neg ha]
    have ha' : M.known a = false := by simpa using ha
    rw [ha'] at hka
    rw [e1, e2]
    have HKA := Lib.hid hka
    clear hka e1 e2 hX ha ha' hf
    go_enter Try.func73, Try.ntmps73
    go_wp2_with fail
    refine HKA.out.mono ?_
    rintro e w1 ⟨rfl, h1⟩
    subst w1
    go_wp2_with fail
    go_ret2
    exact ⟨rfl, Below.refl _ _⟩

end Go.Proofs.Ytlakcldgolpaiaa
