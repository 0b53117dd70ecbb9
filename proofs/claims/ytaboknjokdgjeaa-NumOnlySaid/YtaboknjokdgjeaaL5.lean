/-
  The walk of skeinlaw01.NumOnly.
-/
import Derived.Test.YtaboknjokdgjeaaQ1
namespace Go.Proofs.Ytaboknjokdgjeaa
open Go.RowKit
set_option linter.unusedVariables false

theorem putText_le (v : Value) (l : List Nat) (w : World) (hv : RB w w.heap.size v l) (hl : Hid (l.length ≤ 140737488355200)) :
    Calls Try.prog 15 #[v] w fun e w' => ∃ v', e = .returned v' ∧ OB w' w.heap.size v' (putL l.length ++ l) ∧ Below w.heap.size w w' := putText_any v l w hv hl

set_option maxRecDepth 100000 in
set_option maxHeartbeats 4000000 in
theorem numOnly_bad (s : Value) (l : List Nat) (at_ : Int) (w : World) (hs : RB w w.heap.size s l) (hl : l.length ≤ 140737488351232) (ru rn re : Nat) (hg : getA l at_ = (ru, rn, re)) (hre : re ≠ 0) :
    Calls Try.prog 6 #[s, .int .i64 at_] w fun e w' => e = .returned (.bool true) ∧ Below w.heap.size w w' := by
  obtain ⟨rfl, rfl⟩ := getA_err l at_ ru rn re hg hre
  have HG := Lib.hid hg
  have HGS := Lib.hid (getSA_err l at_ 0 0 re hg hre)
  have HGT := Lib.hid (textA_err l at_ (l.length : Int) 0 0 re hg hre)
  have he1 : ((re : Int) == 0) = false := by simp; omega
  have he2 : ((re : Int) != 0) = true := by simp; omega
  have HS := Lib.hid hs
  obtain ⟨A, c, rfl, ha1, ha2, ha3, _⟩ := hs.open_
  clear hs hg hre
  go_enter Try.func6, Try.ntmps6
  go_wp2_with fail
  refine (alive1 w).mono ?_
  rintro e w1 ⟨rfl, hb1⟩
  have HS1 := Lib.hid (RBn' HS.out hb1)
  have HB1 := Lib.hid hb1
  clear hb1
  go_wp2_with fail
  refine (copy_any _ l w1 HS1.out).mono ?_
  rintro e w2 ⟨v2, rfl, ho2, hb2⟩
  have HO2 := Lib.hid (ho2.rb (B' := w2.heap.size) (Nat.le_refl _))
  have HS2 := Lib.hid (RBn' HS1.out hb2)
  have HB2 := Lib.hid (HB1.out.trans (hb2.mono HB1.out.size))
  clear ho2 hb2 HS1 HB1
  go_wp2_with fail
  refine (get_any _ l at_ w2 _ HO2.out 0 0 re HG.out).mono ?_
  rintro e w3 ⟨rfl, rfl⟩
  go_wp2_with fail
  refine (copy_any _ l w2 HS2.out).mono ?_
  rintro e w3 ⟨v3, rfl, ho3, hb3⟩
  have HO3 := Lib.hid (ho3.rb (B' := w3.heap.size) (Nat.le_refl _))
  have HS3 := Lib.hid (RBn' HS2.out hb3)
  have HB3 := Lib.hid (HB2.out.trans (hb3.mono HB2.out.size))
  clear ho3 hb3 HS2 HB2
  go_wp2_with fail
  refine (gets_any _ l at_ w3 _ HO3.out 0 0 re HGS.out).mono ?_
  rintro e w4 ⟨rfl, rfl⟩
  go_wp2_with fail
  refine (copy_any _ l w3 HS3.out).mono ?_
  rintro e w4 ⟨v4, rfl, ho4, hb4⟩
  have HO4 := Lib.hid (ho4.rb (B' := w4.heap.size) (Nat.le_refl _))
  have HB4 := Lib.hid (HB3.out.trans (hb4.mono HB3.out.size))
  clear ho4 hb4 HS3 HB3
  go_wp2_with fail
  refine (getText_any _ l at_ l.length w4 HO4.out (by omega) (by omega) [] 0 re HGT.out).mono ?_
  rintro e w5 ⟨v5, rfl, ho5, hb5⟩
  have HB5 := Lib.hid (HB4.out.trans (hb5.mono HB4.out.size))
  obtain ⟨A5, c5, rfl, _, _, _, _⟩ := (ho5.rb (B' := w5.heap.size) (Nat.le_refl _)).open_
  simp only [List.length_nil]
  clear ho5 hb5
  go_wp2
  go_ret
  exact ⟨rfl, HB5.out⟩

set_option maxRecDepth 100000 in
set_option maxHeartbeats 4000000 in
theorem numOnly_ok (s : Value) (l : List Nat) (at_ : Int) (w : World) (hs : RB w w.heap.size s l) (hl : l.length ≤ 140737488351232) (ru rn : Nat) (hg : getA l at_ = (ru, rn, 0)) :
    Calls Try.prog 6 #[s, .int .i64 at_] w fun e w' => e = .returned (.bool true) ∧ Below w.heap.size w w' := by
  obtain ⟨ha, hb, hc⟩ := getA_next l at_ ru rn hg
  obtain ⟨p, rfl⟩ : ∃ p : Nat, at_ = (p : Int) := ⟨at_.toNat, by omega⟩
  have hput := getA_put l (p : Int) ru rn hs.1 hg
  rw [Int.toNat_natCast] at hput
  have HPUT := Lib.hid hput
  have HLT : Hid (ru < 18446744073709551616) := getA_lt l _ ru rn 0 hg
  have HP10 : Hid ((putL ru).length ≤ 10) := putL_ten ru HLT.out
  have HF : Hid (foldN (unf ru) = ru) := fold_unf ru
  have HU1 : Hid (-9223372036854775808 ≤ unf ru ∧ unf ru ≤ 9223372036854775807) := by
    have := HLT.out
    constructor <;> (unfold unf; split <;> omega)
  have HPF : Hid ((putL (foldN (unf ru))).length ≤ 10) := by show _ ≤ _; rw [HF.out]; exact HP10.out
  have HG := Lib.hid hg
  have HGS := Lib.hid (getSA_ok l (p : Int) ru rn hg)
  obtain ⟨⟨tl, tn, te⟩, hgt⟩ : ∃ r, textA l (p : Int) (l.length : Int) = r := ⟨_, rfl⟩
  have HTL : Hid (tl.length ≤ 140737488355200) := by have := textA_le l (p : Int) (l.length : Int); rw [hgt] at this; show _ ≤ _; simp at this; omega
  have HGT := Lib.hid hgt
  have HPB := Lib.hid hs.1
  have hpn : p < rn := by omega
  have HS := Lib.hid hs
  obtain ⟨A, c, rfl, ha1, ha2, ha3, _⟩ := hs.open_
  clear hs hg hput hgt ha hb
  go_enter Try.func6, Try.ntmps6
  go_wp2_with fail
  refine (alive1 w).mono ?_
  rintro e w1 ⟨rfl, hb1⟩
  have HS1 := Lib.hid (RBn' HS.out hb1)
  have HB1 := Lib.hid hb1
  clear hb1
  go_wp2_with fail
  refine (copy_any _ l w1 HS1.out).mono ?_
  rintro e w2 ⟨v2, rfl, ho2, hb2⟩
  have HO2 := Lib.hid (ho2.rb (B' := w2.heap.size) (Nat.le_refl _))
  have HS2 := Lib.hid (RBn' HS1.out hb2)
  have HB2 := Lib.hid (HB1.out.trans (hb2.mono HB1.out.size))
  clear ho2 hb2 HS1 HB1
  go_wp2_with fail
  refine (get_any _ l (p : Int) w2 _ HO2.out ru rn 0 HG.out).mono ?_
  rintro e w3 ⟨rfl, rfl⟩
  go_wp2_with fail
  refine (put_any ru w2 HP10).mono ?_
  rintro e w3 ⟨v3, rfl, ho3, hb3⟩
  have HO3 := Lib.hid ho3
  have HS3 := Lib.hid (RBn' HS2.out hb3)
  have HB3 := Lib.hid (HB2.out.trans (hb3.mono HB2.out.size))
  clear ho3 hb3 HS2 HB2 HO2
  go_wp2_with fail
  refine (piece_any _ l p rn w3 HS3.out (by omega) (by omega)).mono ?_
  rw [← HPUT.out]
  rintro e w4 ⟨v4, rfl, ho4, hb4⟩
  have HO4 := Lib.hid ho4
  have HO34 := Lib.hid (HO3.out.below hb4)
  have HS4 := Lib.hid (RBn' HS3.out hb4)
  have HB4 := Lib.hid (HB3.out.trans (hb4.mono HB3.out.size))
  clear ho4 hb4 HS3 HB3 HO3
  go_wp2_with fail
  refine (same_yes v3 v4 _ w4 w4.heap.size (HO34.out.rb (Nat.le_refl _)) (HO4.out.rb (Nat.le_refl _))).mono ?_
  rintro e w5 ⟨rfl, n5, rfl⟩
  have HS5 : Hid (RB (w4.drewN n5) (w4.drewN n5).heap.size _ l) := HS4.out.drewN n5
  have HB5 := Lib.hid (below_drewN' HB4.out n5)
  clear HS4 HB4 HO4 HO34
  generalize w4.drewN n5 = W5 at HS5 HB5 ⊢
  go_wp2_with fail
  refine (copy_any _ l W5 HS5.out).mono ?_
  rintro e w6 ⟨v6, rfl, ho6, hb6⟩
  have HO6 := Lib.hid (ho6.rb (B' := w6.heap.size) (Nat.le_refl _))
  have HS6 := Lib.hid (RBn' HS5.out hb6)
  have HB6 := Lib.hid (HB5.out.trans (hb6.mono HB5.out.size))
  clear ho6 hb6 HS5 HB5
  go_wp2_with fail
  refine (gets_any _ l (p : Int) w6 _ HO6.out (unf ru) rn 0 HGS.out).mono ?_
  rintro e w7 ⟨rfl, rfl⟩
  go_wp2_with fail
  refine (puts_any (unf ru) w6 HU1.out.1 HU1.out.2 HPF).mono ?_
  rw [HF.out]
  rintro e w7 ⟨v7, rfl, ho7, hb7⟩
  have HO7 := Lib.hid ho7
  have HS7 := Lib.hid (RBn' HS6.out hb7)
  have HB7 := Lib.hid (HB6.out.trans (hb7.mono HB6.out.size))
  clear ho7 hb7 HS6 HB6 HO6
  go_wp2_with fail
  refine (piece_any _ l p rn w7 HS7.out (by omega) (by omega)).mono ?_
  rw [← HPUT.out]
  rintro e w8 ⟨v8, rfl, ho8, hb8⟩
  have HO8 := Lib.hid ho8
  have HO78 := Lib.hid (HO7.out.below hb8)
  have HS8 := Lib.hid (RBn' HS7.out hb8)
  have HB8 := Lib.hid (HB7.out.trans (hb8.mono HB7.out.size))
  clear ho8 hb8 HS7 HB7 HO7
  go_wp2_with fail
  refine (same_yes v7 v8 _ w8 w8.heap.size (HO78.out.rb (Nat.le_refl _)) (HO8.out.rb (Nat.le_refl _))).mono ?_
  rintro e w9 ⟨rfl, n9, rfl⟩
  have HS9 : Hid (RB (w8.drewN n9) (w8.drewN n9).heap.size _ l) := HS8.out.drewN n9
  have HB9 := Lib.hid (below_drewN' HB8.out n9)
  clear HS8 HB8 HO8 HO78
  generalize w8.drewN n9 = W9 at HS9 HB9 ⊢
  go_wp2_with fail
  refine (copy_any _ l W9 HS9.out).mono ?_
  rintro e w10 ⟨v10, rfl, ho10, hb10⟩
  have HO10 := Lib.hid (ho10.rb (B' := w10.heap.size) (Nat.le_refl _))
  have HS10 := Lib.hid (RBn' HS9.out hb10)
  have HB10 := Lib.hid (HB9.out.trans (hb10.mono HB9.out.size))
  clear ho10 hb10 HS9 HB9
  go_wp2_with fail
  refine (getText_any _ l (p : Int) l.length w10 HO10.out (by omega) (by omega) tl tn te HGT.out).mono ?_
  rintro e w11 ⟨v11, rfl, ho11, hb11⟩
  have HO11 := Lib.hid (ho11.rb (B' := w11.heap.size) (Nat.le_refl _))
  have HS11 := Lib.hid (RBn' HS10.out hb11)
  have HB11 := Lib.hid (HB10.out.trans (hb11.mono HB10.out.size))
  obtain ⟨A11, c11, rfl, hx1, hx2, hx3, _⟩ := HO11.out.open_
  clear ho11 hb11 HS10 HB10 HO10
  by_cases h0 : te = 0
  · have ht0 : ((te : Int) != 0) = false := by simp; omega
    have hgt := HGT.out
    rw [h0] at hgt
    obtain ⟨htn, _, htp⟩ := textA_put l (p : Int) _ tl tn HPB.out hgt
    rw [Int.toNat_natCast] at htp
    have HTP := Lib.hid htp
    clear hgt htp h0
    go_wp2_with fail
    refine (putText_le _ tl w11 HO11.out HTL).mono ?_
    rintro e w12 ⟨v12, rfl, ho12, hb12⟩
    have HO12 := Lib.hid ho12
    have HS12 := Lib.hid (RBn' HS11.out hb12)
    have HB12 := Lib.hid (HB11.out.trans (hb12.mono HB11.out.size))
    clear ho12 hb12 HS11 HB11 HO11
    go_wp2_with fail
    refine (piece_any _ l p tn w12 HS12.out (by omega) (by omega)).mono ?_
    rw [← HTP.out]
    rintro e w13 ⟨v13, rfl, ho13, hb13⟩
    have HO13 := Lib.hid ho13
    have HO1213 := Lib.hid (HO12.out.below hb13)
    have HB13 := Lib.hid (HB12.out.trans (hb13.mono HB12.out.size))
    clear ho13 hb13 HS12 HB12 HO12
    go_wp2_with fail
    refine (same_yes v12 v13 _ w13 w13.heap.size (HO1213.out.rb (Nat.le_refl _)) (HO13.out.rb (Nat.le_refl _))).mono ?_
    rintro e w14 ⟨rfl, n14, rfl⟩
    go_wp2
    go_ret
    exact ⟨rfl, below_drewN' HB13.out n14⟩
  · have ht0 : ((te : Int) != 0) = true := by simp; omega
    obtain ⟨rfl, rfl⟩ := textA_bad _ _ _ _ _ _ HGT.out h0
    simp only [List.length_nil]
    clear h0
    go_wp2
    go_ret
    exact ⟨rfl, HB11.out⟩

theorem numOnly_walk (s : Value) (l : List Nat) (at_ : Int) (w : World) (hs : RB w w.heap.size s l) (hl : l.length ≤ 140737488351232) (hat : (Lit.int .i64 at_).wf = true) :
    Calls Try.prog 6 #[s, .int .i64 at_] w fun e w' => e = .returned (.bool true) ∧ Below w.heap.size w w' := by
  obtain ⟨⟨ru, rn, re⟩, hg⟩ : ∃ r, getA l at_ = r := ⟨_, rfl⟩
  by_cases h0 : re = 0
  · subst h0
    exact numOnly_ok s l at_ w hs hl ru rn hg
  · exact numOnly_bad s l at_ w hs hl ru rn re hg h0
end Go.Proofs.Ytaboknjokdgjeaa
