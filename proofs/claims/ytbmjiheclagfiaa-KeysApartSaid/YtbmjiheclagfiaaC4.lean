/-
  The walk of skeinlaw02.alive.
-/
import Derived.Test.YtbmjiheclagfiaaC3
import Derived.Lib.SlBytesConst
namespace Go.Proofs.Ytbmjiheclagfiaa
open Go.RowKit
set_option linter.unusedVariables false

theorem openOk_a : openOk [0, 0, 0, 0] = true := by decide +kernel
theorem openOk_b : openOk [1, 0, 0, 0] = false := by decide +kernel
theorem openOk_c : openOk (sumBytes (crcSum [113]) ++ [113]) = true := by decide +kernel
theorem sum_d : crcSum [[49, 50, 51, 52], [53, 54, 55, 56, 57]].flatten = 3421780262 := by decide +kernel

theorem open_yes (v : Value) (l : List Nat) (w : World) (hv : RB w w.heap.size v l) (hl : openOk l = true) :
    Calls Try.prog 30 #[v] w fun e w' => ∃ v', e = .returned (.tuple #[v', .bool true]) ∧ OB w' w.heap.size v' (l.drop 4) ∧ Below w.heap.size w w' := by
  have h4 : 4 ≤ l.length := by unfold openOk at hl; exact (of_decide_eq_true hl).1
  have := open_long v l w hv h4
  simp only [openL, hl, if_true] at this
  exact this
theorem open_no (v : Value) (l : List Nat) (w : World) (hv : RB w w.heap.size v l) (hl : openOk l = false) :
    Calls Try.prog 30 #[v] w fun e w' => ∃ v', e = .returned (.tuple #[v', .bool false]) ∧ OB w' w.heap.size v' [] ∧ Below w.heap.size w w' := by
  by_cases h4 : 4 ≤ l.length
  · have := open_long v l w hv h4
    simp only [openL, hl] at this
    exact this
  · exact (open_short v l w hv (by omega)).mono fun e w' ⟨he, hw⟩ => ⟨.slice none 0 0, he, OB.nil _ _, hw ▸ Below.refl _ _⟩

/-- A literal slice of bytes, new. -/
theorem RB.lit (w : World) (g : Nat) (cs : Array Value) (t : TypeId) (l : List Nat) (n : Nat) (fr : Nat × Nat) (hg : g = w.heap.size) (h : cs.toList = l.map bcell) (hl : ∀ x ∈ l, x < 256) (hn : n = l.length) (hlen : l.length ≤ 1000) :
    RB (w.alloc (.cells cs t fr)) (w.alloc (.cells cs t fr)).heap.size (.slice (some ⟨g, 0, none⟩) n n) l := by
  subst hn
  exact RB.newRow w _ g cs t l l.length hg h hl (by omega) (Nat.le_refl _) (by omega) (by simp; omega) fr

theorem RP.two {W : World} {u u' : Value} {t t' : List Nat} {g B : Nat} (hg : g = W.heap.size) (hu : RB W B u t) (hu' : RB W B u' t') (hB : B ≤ W.heap.size) : RP (W.alloc (.cells #[u, u'] 22)) B g 0 [t, t'] := by
  intro i hi
  subst hg
  match i, hi with
  | 0, _ => exact ⟨u, by simp, hu.alloc hB _⟩
  | 1, _ => exact ⟨u', by simp, hu'.alloc hB _⟩

set_option maxHeartbeats 1000000 in
theorem alive2 (w : World) : Calls Try.prog 9 #[] w fun e w' => e = .returned (.bool true) ∧ Below w.heap.size w w' := by
  have kc := fun (w : World) (C : Array Value) (n c : Nat) => Lib.run_convert_bytes_const (P := Try.prog) w 22 5 C n c Try.underlying22 Try.underlying5
  go_enter Try.func9, Try.ntmps9
  go_wp2_with fail
  refine (open_yes _ [0, 0, 0, 0] _ (by exact RB.lit _ _ _ _ [0, 0, 0, 0] 4 _ (by simp) (by simp [bcell]) (by simp) (by simp) (by simp)) openOk_a).mono ?_
  rintro e w1 ⟨v1, rfl, ho1, hb1⟩
  have HB1 : Hid (Below w.heap.size w w1) := Below.trans (by go_grown) (hb1.mono (by simp))
  clear ho1 hb1
  go_wp2_with fail
  refine (open_no _ [1, 0, 0, 0] _ (by exact RB.lit _ _ _ _ [1, 0, 0, 0] 4 _ (by simp) (by simp [bcell]) (by simp) (by simp) (by simp)) openOk_b).mono ?_
  rintro e w2 ⟨v2, rfl, ho2, hb2⟩
  have HB2 : Hid (Below w.heap.size w w2) := Below.trans (HB1.out.alloc HB1.out.size _) (hb2.mono (by have := HB1.out.size; simp; omega))
  clear ho2 hb2 HB1
  go_wp2_with fail
  refine (seal_any _ [113] _ (by exact RB.lit _ _ _ _ [113] 1 _ (by simp) (by simp [bcell]) (by simp) (by simp) (by simp)) (by simp)).mono ?_
  rintro e w3 ⟨v3, rfl, ho3, hb3⟩
  have HB3 : Hid (Below w.heap.size w w3) := Below.trans (HB2.out.alloc HB2.out.size _) (hb3.mono (by have := HB2.out.size; simp; omega))
  have HO3 : Hid (RB w3 w3.heap.size v3 (sumBytes (crcSum [113]) ++ [113])) := ho3.rb (Nat.le_refl _)
  clear ho3 hb3 HB2
  go_wp2_with fail
  refine (open_yes _ _ _ HO3.out openOk_c).mono ?_
  rintro e w4 ⟨v4, rfl, ho4, hb4⟩
  have HB4 : Hid (Below w.heap.size w w4) := Below.trans HB3.out (hb4.mono HB3.out.size)
  have HO4 : Hid (RB w4 w4.heap.size v4 [113]) := by
    have := ho4.rb (B' := w4.heap.size) (Nat.le_refl _)
    unfold Hid
    simpa [sumBytes] using this
  clear ho4 hb4 HB3 HO3
  have kc2 : ∀ (w0 : World) (o : Obj) (C : Array Value) (n c : Nat), (convert 22 22 (.slice (some ⟨w0.heap.size + 1, 0, none⟩) n c)).run Try.prog ((w0.alloc o).alloc (.cells C 5)) = .ok (.slice (some ⟨w0.heap.size + 1, 0, none⟩) n c) ((w0.alloc o).alloc (.cells C 5 (C.size, C.size + 1))) := by
    intro w0 o C n c
    have := kc (w0.alloc o) C n c
    simpa using this
  have hr1 : RB (w4.alloc (.cells #[.int .u8 49, .int .u8 50, .int .u8 51, .int .u8 52] 5 (4, 5))) (w4.heap.size + 1) (.slice (some ⟨w4.heap.size, 0, none⟩) 4 4) [49, 50, 51, 52] :=
    RB.newRow w4 _ _ _ _ [49, 50, 51, 52] 4 rfl (by simp [bcell]) (by simp) (by simp) (by simp) (by simp) (by omega) _
  have hr2 : RB ((w4.alloc (.cells #[.int .u8 49, .int .u8 50, .int .u8 51, .int .u8 52] 5 (4, 5))).alloc (.cells #[.int .u8 53, .int .u8 54, .int .u8 55, .int .u8 56, .int .u8 57] 5 (5, 6))) (w4.heap.size + 2) (.slice (some ⟨w4.heap.size + 1, 0, none⟩) 5 5) [53, 54, 55, 56, 57] :=
    RB.newRow _ _ _ _ _ [53, 54, 55, 56, 57] 5 (by simp) (by simp [bcell]) (by simp) (by simp) (by simp) (by simp) (by omega) _
  have HP5 : Hid (RP _ _ _ _ _) := RP.two (g := w4.heap.size + 1 + 1) (by simp) ((hr1.alloc (by simp) (.cells #[.int .u8 53, .int .u8 54, .int .u8 55, .int .u8 56, .int .u8 57] 5 (5, 6))).more (Nat.le_succ _)) hr2 (by simp)
  clear hr1 hr2
  go_wp2_with fail
  refine (crcSum_any _ 0 2 (w4.heap.size + 2) [[49, 50, 51, 52], [53, 54, 55, 56, 57]] _ HP5.out (by simp)).mono ?_
  rw [sum_d]
  rintro e w5 ⟨rfl, rfl⟩
  clear HP5
  have hcv : ∀ o1 o2 o3, (convert 22 9 v4).run Try.prog (((w4.alloc o1).alloc o2).alloc o3) = .ok (.string ⟨#[113]⟩) (((w4.alloc o1).alloc o2).alloc o3) :=
    fun o1 o2 o3 => run_b2s _ _ v4 [113] (((HO4.out.alloc (Nat.le_refl _) _).alloc (by simp) _).alloc (by simp; omega) _)
  go_wp2_with fail
  go_ret
  have hz := HB4.out.size
  exact ⟨rfl, ((HB4.out.alloc hz _).alloc (by simp; omega) _).alloc (by simp; omega) _⟩
end Go.Proofs.Ytbmjiheclagfiaa
