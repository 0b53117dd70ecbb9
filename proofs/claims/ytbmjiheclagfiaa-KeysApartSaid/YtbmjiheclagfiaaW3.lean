/-
  The walk of skeinlaw04.KeysOrder: some of its cases.
-/
import Derived.Test.YtbmjiheclagfiaaO2
import Derived.Test.YtbmjiheclagfiaaW2
namespace Go.Proofs.Ytbmjiheclagfiaa
open Go.RowKit
set_option linter.unusedVariables false

theorem keepBox {w w' : World} {g h : Nat} {a b c d : Value} (h1 : Box w g #[a, b].toList) (h2 : Box w h #[c, d].toList) (hb : Below w.heap.size w w') :
    w'.cell? ⟨g, 0, none⟩ = some a ∧ w'.cell? ⟨g, 1, none⟩ = some b ∧ w'.cell? ⟨h, 0, none⟩ = some c ∧ w'.cell? ⟨h, 1, none⟩ = some d :=
  ⟨(h1.next hb).at 0 a rfl, (h1.next hb).at 1 b rfl, (h2.next hb).at 0 c rfl, (h2.next hb).at 1 d rfl⟩

set_option maxRecDepth 100000 in
set_option maxHeartbeats 4000000 in
theorem keysOrder_no (e0 : Bool) (n0 : Int) (e1 : Bool) (n1 : Int) (v : Value) (k : List Nat) (u : Value) (l : List Nat) (s t : Int) (w : World) (hv : RB w w.heap.size v k) (hk : k.length ≤ 1048576) (hu : RB w w.heap.size u l) (hl : l.length ≤ 1048576) (hs : (Lit.int .i64 s).wf = true) (ht : (Lit.int .i64 t).wf = true) (hA : idB n0 = false) :
    Calls Try.prog 7 #[refV e0 n0, refV e1 n1, v, u, .int .i64 s, .int .i64 t] w fun e w' => e = .returned (.bool true) ∧ Below w.heap.size w w' := by
  clear hs ht
  have HL : Hid (k.length ≤ 1048576 ∧ l.length ≤ 1048576) := ⟨hk, hl⟩
  clear hk hl
  have HS := Lib.hid hv
  have HU := Lib.hid hu
  obtain ⟨A, c, rfl, ha1, ha2, ha3, _⟩ := hv.open_
  obtain ⟨A2, c2, rfl, hu1, hu2, hu3, _⟩ := hu.open_
  clear hv hu
  unfold refV
  go_enter Try.func7, Try.ntmps7
  go_wp2_with fail
  have X0 : Hid (Box ((w.alloc (.cells #[Value.bool e0, Value.int IntKind.i64 n0] 29)).alloc (.cells #[Value.bool e1, Value.int IntKind.i64 n1] 29)) w.heap.size #[Value.bool e0, Value.int IntKind.i64 n0].toList) := (Box.new w _ _).next ((Below.refl _ _).alloc (Nat.le_refl _) _)
  have Y0 : Hid (Box ((w.alloc (.cells #[Value.bool e0, Value.int IntKind.i64 n0] 29)).alloc (.cells #[Value.bool e1, Value.int IntKind.i64 n1] 29)) (w.heap.size + 1) #[Value.bool e1, Value.int IntKind.i64 n1].toList) := by
    have := Box.new (w.alloc (.cells #[Value.bool e0, Value.int IntKind.i64 n0] 29)) #[Value.bool e1, Value.int IntKind.i64 n1] 29
    rwa [show (w.alloc (.cells #[Value.bool e0, Value.int IntKind.i64 n0] 29)).heap.size = w.heap.size + 1 by simp] at this
  have HB0 : Hid (Below w.heap.size w ((w.alloc (.cells #[Value.bool e0, Value.int IntKind.i64 n0] 29)).alloc (.cells #[Value.bool e1, Value.int IntKind.i64 n1] 29))) := ((Below.refl w.heap.size w).alloc (Nat.le_refl _) _).alloc (by simp) _
  refine (alive4 _).mono ?_
  rintro e w1 ⟨rfl, hb⟩
  have X1 := Lib.hid (X0.out.next hb)
  have Y1 := Lib.hid (Y0.out.next hb)
  have HB1 : Hid (Below w.heap.size w w1) := HB0.out.trans (hb.mono HB0.out.size)
  clear X0 Y0 HB0 hb
  have x0 := X1.out.at 0 (.bool e0) rfl
  have x1 := X1.out.at 1 (.int .i64 n0) rfl
  have y0 := Y1.out.at 0 (.bool e1) rfl
  have y1 := Y1.out.at 1 (.int .i64 n1) rfl
  go_wp2_with fail
  refine (elem_any e0 n0 _).mono ?_
  unfold Bytes2
  rintro e w2 ⟨v2, rfl, ho, hb⟩
  have HO2 := Lib.hid ho.rw
  have HB2 : Hid (Below w.heap.size w w2) := HB1.out.trans (hb.mono HB1.out.size)
  have X2 := Lib.hid (X1.out.next hb)
  have Y2 := Lib.hid (Y1.out.next hb)
  clear ho hb x0 x1 y0 y1 X1 Y1 HB1
  have x0 := X2.out.at 0 (.bool e0) rfl
  have x1 := X2.out.at 1 (.int .i64 n0) rfl
  have y0 := Y2.out.at 0 (.bool e1) rfl
  have y1 := Y2.out.at 1 (.int .i64 n1) rfl
  go_wp2_with fail
  refine (elem_any e1 n1 _).mono ?_
  unfold Bytes2
  rintro e w3 ⟨v3, rfl, ho, hb⟩
  have HO3 : Hid (RB w3 w3.heap.size v3 _) := ho.rw
  have HO2' := Lib.hid (RBn HO2.out hb)
  have HB3 : Hid (Below w.heap.size w w3) := HB2.out.trans (hb.mono HB2.out.size)
  have X3 := Lib.hid (X2.out.next hb)
  have Y3 := Lib.hid (Y2.out.next hb)
  clear ho hb x0 x1 y0 y1 X2 Y2 HB2 HO2
  rw [elemR_no hA]
  clear hA
  have HB5 : Hid (Below w.heap.size w w3) := HB3.out
  clear HB3 X3 Y3 HO2' HO3
  have HSk := Lib.hid (RBn HS.out HB5.out)
  have HUk := Lib.hid (RBn HU.out HB5.out)
  go_wp2_with fail
  refine (version_any _ k s _ HSk.out (by have := HL.out; omega)).mono ?_
  unfold Bytes2
  rintro e w6 ⟨v6, rfl, ho, hb⟩
  have HO6 := Lib.hid ho.rw
  have HB6 : Hid (Below w.heap.size w w6) := HB5.out.trans (hb.mono HB5.out.size)
  clear ho hb HSk HUk HB5
  have HUk := Lib.hid (RBn HU.out HB6.out)
  go_wp2_with fail
  refine (version_any _ l t _ HUk.out (by have := HL.out; omega)).mono ?_
  unfold Bytes2
  rintro e w7 ⟨v7, rfl, ho, hb⟩
  have HO7 := Lib.hid ho.rw
  have HO6' := Lib.hid (HO6.out.next hb)
  have HB7 : Hid (Below w.heap.size w w7) := HB6.out.trans (hb.mono HB6.out.size)
  clear ho hb HUk HB6 HO6
  cases hT : timeB s with
  | false =>
    rw [versR_no hT]
    have hT' : ¬ (0 ≤ s ∧ s ≤ 1099511627776) := fun h => by rw [show timeB s = true from inB_iff.2 h] at hT; exact absurd hT (by simp)
    by_cases hs0 : s < 0
    · go_wp2
      go_ret
      exact ⟨rfl, HB7.out⟩
    · have hs1 : 1099511627776 < s := by omega
      go_wp2
      go_ret
      exact ⟨rfl, HB7.out⟩
  | true =>
    rw [versR_yes hT] at HO6' ⊢
    cases hT2 : timeB t with
    | false =>
      rw [versR_no hT2]
      have hT' := inB_iff.1 hT
      have hT2' : ¬ (0 ≤ t ∧ t ≤ 1099511627776) := fun h => by rw [show timeB t = true from inB_iff.2 h] at hT2; exact absurd hT2 (by simp)
      by_cases hs0 : t < 0
      · go_wp2
        go_ret
        exact ⟨rfl, HB7.out⟩
      · have hs1 : 1099511627776 < t := by omega
        go_wp2
        go_ret
        exact ⟨rfl, HB7.out⟩
    | true =>
      rw [versR_yes hT2] at HO7 ⊢
      simp only [] at HO7 HO6' ⊢
      have HV := Lib.hid (lexI_vers s t (inB_iff.1 hT) (inB_iff.1 hT2) k l)
      clear hT hT2
      obtain ⟨c0, hc0⟩ : ∃ c, c = lexI k l := ⟨_, rfl⟩
      have HC0 := Lib.hid hc0
      go_wp2_with fail
      refine (order_lex _ _ _ _ _ _ (RBn HS.out HB7.out) (RBn HU.out HB7.out) c0 HC0.out).mono ?_
      rintro e w8 ⟨rfl, n8, rfl⟩
      have HB8 := Lib.hid (below_drewN HB7.out n8)
      obtain ⟨rv, hrv⟩ : ∃ rv, rv = versO c0 s t := ⟨_, rfl⟩
      have HRV : Hid (rv = lexI (versL k s) (versL l t)) := by rw [HV.out, ← hc0]; exact hrv
      have hdr : Below w7.heap.size w7 (w7.drewN n8) := below_drewN (Below.refl _ _) n8
      have HO7' := Lib.hid (RBn HO7.out hdr)
      have HO6'' := Lib.hid (RBn HO6'.out hdr)
      clear hdr HB7 hc0 HV HC0 HO6' HO7
      unfold versO at hrv
      by_cases hz : c0 = 0
      · subst hz
        rw [if_pos rfl] at hrv
        by_cases h1 : t < s
        · rw [if_pos h1] at hrv
          subst hrv
          go_wp2_with fail
          refine (order_lex _ _ _ _ _ _ HO6''.out HO7'.out _ HRV.out).mono ?_
          rintro e w9 ⟨rfl, n9, rfl⟩
          go_wp2
          go_ret
          exact ⟨rfl, by rw [← World.drewN_drewN]; exact below_drewN HB8.out n9⟩
        · by_cases h2 : s < t
          · rw [if_neg h1, if_pos h2] at hrv
            subst hrv
            go_wp2_with fail
            refine (order_lex _ _ _ _ _ _ HO6''.out HO7'.out _ HRV.out).mono ?_
            rintro e w9 ⟨rfl, n9, rfl⟩
            go_wp2
            go_ret
            exact ⟨rfl, by rw [← World.drewN_drewN]; exact below_drewN HB8.out n9⟩
          · rw [if_neg h1, if_neg h2] at hrv
            subst hrv
            go_wp2_with fail
            refine (order_lex _ _ _ _ _ _ HO6''.out HO7'.out _ HRV.out).mono ?_
            rintro e w9 ⟨rfl, n9, rfl⟩
            go_wp2
            go_ret
            exact ⟨rfl, by rw [← World.drewN_drewN]; exact below_drewN HB8.out n9⟩
      · rw [if_neg hz] at hrv
        subst hrv
        go_wp2_with fail
        refine (order_lex _ _ _ _ _ _ HO6''.out HO7'.out _ HRV.out).mono ?_
        rintro e w9 ⟨rfl, n9, rfl⟩
        go_wp2
        go_ret
        exact ⟨rfl, by rw [← World.drewN_drewN]; exact below_drewN HB8.out n9⟩

set_option maxRecDepth 100000 in
set_option maxHeartbeats 4000000 in
theorem keysOrder_yesno (e0 : Bool) (n0 : Int) (e1 : Bool) (n1 : Int) (v : Value) (k : List Nat) (u : Value) (l : List Nat) (s t : Int) (w : World) (hv : RB w w.heap.size v k) (hk : k.length ≤ 1048576) (hu : RB w w.heap.size u l) (hl : l.length ≤ 1048576) (hs : (Lit.int .i64 s).wf = true) (ht : (Lit.int .i64 t).wf = true) (hA : idB n0 = true) (hB : idB n1 = false) :
    Calls Try.prog 7 #[refV e0 n0, refV e1 n1, v, u, .int .i64 s, .int .i64 t] w fun e w' => e = .returned (.bool true) ∧ Below w.heap.size w w' := by
  clear hs ht
  have HL : Hid (k.length ≤ 1048576 ∧ l.length ≤ 1048576) := ⟨hk, hl⟩
  clear hk hl
  have HS := Lib.hid hv
  have HU := Lib.hid hu
  obtain ⟨A, c, rfl, ha1, ha2, ha3, _⟩ := hv.open_
  obtain ⟨A2, c2, rfl, hu1, hu2, hu3, _⟩ := hu.open_
  clear hv hu
  unfold refV
  go_enter Try.func7, Try.ntmps7
  go_wp2_with fail
  have X0 : Hid (Box ((w.alloc (.cells #[Value.bool e0, Value.int IntKind.i64 n0] 29)).alloc (.cells #[Value.bool e1, Value.int IntKind.i64 n1] 29)) w.heap.size #[Value.bool e0, Value.int IntKind.i64 n0].toList) := (Box.new w _ _).next ((Below.refl _ _).alloc (Nat.le_refl _) _)
  have Y0 : Hid (Box ((w.alloc (.cells #[Value.bool e0, Value.int IntKind.i64 n0] 29)).alloc (.cells #[Value.bool e1, Value.int IntKind.i64 n1] 29)) (w.heap.size + 1) #[Value.bool e1, Value.int IntKind.i64 n1].toList) := by
    have := Box.new (w.alloc (.cells #[Value.bool e0, Value.int IntKind.i64 n0] 29)) #[Value.bool e1, Value.int IntKind.i64 n1] 29
    rwa [show (w.alloc (.cells #[Value.bool e0, Value.int IntKind.i64 n0] 29)).heap.size = w.heap.size + 1 by simp] at this
  have HB0 : Hid (Below w.heap.size w ((w.alloc (.cells #[Value.bool e0, Value.int IntKind.i64 n0] 29)).alloc (.cells #[Value.bool e1, Value.int IntKind.i64 n1] 29))) := ((Below.refl w.heap.size w).alloc (Nat.le_refl _) _).alloc (by simp) _
  refine (alive4 _).mono ?_
  rintro e w1 ⟨rfl, hb⟩
  have X1 := Lib.hid (X0.out.next hb)
  have Y1 := Lib.hid (Y0.out.next hb)
  have HB1 : Hid (Below w.heap.size w w1) := HB0.out.trans (hb.mono HB0.out.size)
  clear X0 Y0 HB0 hb
  have x0 := X1.out.at 0 (.bool e0) rfl
  have x1 := X1.out.at 1 (.int .i64 n0) rfl
  have y0 := Y1.out.at 0 (.bool e1) rfl
  have y1 := Y1.out.at 1 (.int .i64 n1) rfl
  go_wp2_with fail
  refine (elem_any e0 n0 _).mono ?_
  unfold Bytes2
  rintro e w2 ⟨v2, rfl, ho, hb⟩
  have HO2 := Lib.hid ho.rw
  have HB2 : Hid (Below w.heap.size w w2) := HB1.out.trans (hb.mono HB1.out.size)
  have X2 := Lib.hid (X1.out.next hb)
  have Y2 := Lib.hid (Y1.out.next hb)
  clear ho hb x0 x1 y0 y1 X1 Y1 HB1
  have x0 := X2.out.at 0 (.bool e0) rfl
  have x1 := X2.out.at 1 (.int .i64 n0) rfl
  have y0 := Y2.out.at 0 (.bool e1) rfl
  have y1 := Y2.out.at 1 (.int .i64 n1) rfl
  go_wp2_with fail
  refine (elem_any e1 n1 _).mono ?_
  unfold Bytes2
  rintro e w3 ⟨v3, rfl, ho, hb⟩
  have HO3 : Hid (RB w3 w3.heap.size v3 _) := ho.rw
  have HO2' := Lib.hid (RBn HO2.out hb)
  have HB3 : Hid (Below w.heap.size w w3) := HB2.out.trans (hb.mono HB2.out.size)
  have X3 := Lib.hid (X2.out.next hb)
  have Y3 := Lib.hid (Y2.out.next hb)
  clear ho hb x0 x1 y0 y1 X2 Y2 HB2 HO2
  have hA' := inB_iff.1 hA
  obtain ⟨m0, rfl⟩ : ∃ m : Nat, n0 = m := ⟨n0.toNat, by omega⟩
  rw [elemR_yes hA]
  rw [elemR_no hB]
  clear hA hB hA'
  have HB5 : Hid (Below w.heap.size w w3) := HB3.out
  clear HB3 X3 Y3 HO2' HO3
  have HSk := Lib.hid (RBn HS.out HB5.out)
  have HUk := Lib.hid (RBn HU.out HB5.out)
  go_wp2_with fail
  refine (version_any _ k s _ HSk.out (by have := HL.out; omega)).mono ?_
  unfold Bytes2
  rintro e w6 ⟨v6, rfl, ho, hb⟩
  have HO6 := Lib.hid ho.rw
  have HB6 : Hid (Below w.heap.size w w6) := HB5.out.trans (hb.mono HB5.out.size)
  clear ho hb HSk HUk HB5
  have HUk := Lib.hid (RBn HU.out HB6.out)
  go_wp2_with fail
  refine (version_any _ l t _ HUk.out (by have := HL.out; omega)).mono ?_
  unfold Bytes2
  rintro e w7 ⟨v7, rfl, ho, hb⟩
  have HO7 := Lib.hid ho.rw
  have HO6' := Lib.hid (HO6.out.next hb)
  have HB7 : Hid (Below w.heap.size w w7) := HB6.out.trans (hb.mono HB6.out.size)
  clear ho hb HUk HB6 HO6
  cases hT : timeB s with
  | false =>
    rw [versR_no hT]
    have hT' : ¬ (0 ≤ s ∧ s ≤ 1099511627776) := fun h => by rw [show timeB s = true from inB_iff.2 h] at hT; exact absurd hT (by simp)
    by_cases hs0 : s < 0
    · go_wp2
      go_ret
      exact ⟨rfl, HB7.out⟩
    · have hs1 : 1099511627776 < s := by omega
      go_wp2
      go_ret
      exact ⟨rfl, HB7.out⟩
  | true =>
    rw [versR_yes hT] at HO6' ⊢
    cases hT2 : timeB t with
    | false =>
      rw [versR_no hT2]
      have hT' := inB_iff.1 hT
      have hT2' : ¬ (0 ≤ t ∧ t ≤ 1099511627776) := fun h => by rw [show timeB t = true from inB_iff.2 h] at hT2; exact absurd hT2 (by simp)
      by_cases hs0 : t < 0
      · go_wp2
        go_ret
        exact ⟨rfl, HB7.out⟩
      · have hs1 : 1099511627776 < t := by omega
        go_wp2
        go_ret
        exact ⟨rfl, HB7.out⟩
    | true =>
      rw [versR_yes hT2] at HO7 ⊢
      simp only [] at HO7 HO6' ⊢
      have HV := Lib.hid (lexI_vers s t (inB_iff.1 hT) (inB_iff.1 hT2) k l)
      clear hT hT2
      obtain ⟨c0, hc0⟩ : ∃ c, c = lexI k l := ⟨_, rfl⟩
      have HC0 := Lib.hid hc0
      go_wp2_with fail
      refine (order_lex _ _ _ _ _ _ (RBn HS.out HB7.out) (RBn HU.out HB7.out) c0 HC0.out).mono ?_
      rintro e w8 ⟨rfl, n8, rfl⟩
      have HB8 := Lib.hid (below_drewN HB7.out n8)
      obtain ⟨rv, hrv⟩ : ∃ rv, rv = versO c0 s t := ⟨_, rfl⟩
      have HRV : Hid (rv = lexI (versL k s) (versL l t)) := by rw [HV.out, ← hc0]; exact hrv
      have hdr : Below w7.heap.size w7 (w7.drewN n8) := below_drewN (Below.refl _ _) n8
      have HO7' := Lib.hid (RBn HO7.out hdr)
      have HO6'' := Lib.hid (RBn HO6'.out hdr)
      clear hdr HB7 hc0 HV HC0 HO6' HO7
      unfold versO at hrv
      by_cases hz : c0 = 0
      · subst hz
        rw [if_pos rfl] at hrv
        by_cases h1 : t < s
        · rw [if_pos h1] at hrv
          subst hrv
          go_wp2_with fail
          refine (order_lex _ _ _ _ _ _ HO6''.out HO7'.out _ HRV.out).mono ?_
          rintro e w9 ⟨rfl, n9, rfl⟩
          go_wp2
          go_ret
          exact ⟨rfl, by rw [← World.drewN_drewN]; exact below_drewN HB8.out n9⟩
        · by_cases h2 : s < t
          · rw [if_neg h1, if_pos h2] at hrv
            subst hrv
            go_wp2_with fail
            refine (order_lex _ _ _ _ _ _ HO6''.out HO7'.out _ HRV.out).mono ?_
            rintro e w9 ⟨rfl, n9, rfl⟩
            go_wp2
            go_ret
            exact ⟨rfl, by rw [← World.drewN_drewN]; exact below_drewN HB8.out n9⟩
          · rw [if_neg h1, if_neg h2] at hrv
            subst hrv
            go_wp2_with fail
            refine (order_lex _ _ _ _ _ _ HO6''.out HO7'.out _ HRV.out).mono ?_
            rintro e w9 ⟨rfl, n9, rfl⟩
            go_wp2
            go_ret
            exact ⟨rfl, by rw [← World.drewN_drewN]; exact below_drewN HB8.out n9⟩
      · rw [if_neg hz] at hrv
        subst hrv
        go_wp2_with fail
        refine (order_lex _ _ _ _ _ _ HO6''.out HO7'.out _ HRV.out).mono ?_
        rintro e w9 ⟨rfl, n9, rfl⟩
        go_wp2
        go_ret
        exact ⟨rfl, by rw [← World.drewN_drewN]; exact below_drewN HB8.out n9⟩

end Go.Proofs.Ytbmjiheclagfiaa
