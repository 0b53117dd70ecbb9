/-
  The walks of plain's sets: newSets, first, join.
-/
import Derived.Test.YtghacfhpafbdmaaGreatG5
import Derived.Outline
namespace Go.Proofs.YtghacfhpafbdmaaGreat
open Go.RowKit
set_option linter.unusedVariables false

def natV (i : Nat) : Value := .int .i64 (i : Int)
/-- Block g holds an array that leads to the labels L. -/
def SB (w : World) (g : Nat) (L : List Nat) : Prop := ∃ cs s, Blk w g 3 cs ∧ cs.size = L.length ∧ UF s L ∧ ∀ i, i < L.length → cs[i]? = some (natV (lab s i))
theorem SB.lt {w : World} {g : Nat} {L : List Nat} (h : SB w g L) : g < w.heap.size := by obtain ⟨cs, s, h1, _⟩ := h; exact h1.lt
theorem SB.grown {w w' : World} {g : Nat} {L : List Nat} {row : Option Nat} (h : SB w g L) (hg : w.grownBy w' row) (hr : some g ≠ row) : SB w' g L := by
  obtain ⟨cs, s, h1, h2⟩ := h; exact ⟨cs, s, h1.grown hg hr, h2⟩
theorem SB.below {w w' : World} {g B : Nat} {L : List Nat} (h : SB w g L) (hb : Below B w w') (hg : g < B) : SB w' g L := by
  obtain ⟨cs, s, h1, h2⟩ := h; exact ⟨cs, s, h1.below hb hg, h2⟩

theorem info3 : (Tryz.prog.info? 3).map (fun i => (i.zero, i.size, i.bytes)) = some (some (.int .i64 0), 1, 8) := by kernel_rfl

theorem run_make91 (n : Nat) (hn : n ≤ 1000000) (w : World) : (Instr.makeSlice 91 (.int .i64 (n : Int)) (.int .i64 (n : Int))).run Tryz.prog w = .ok (.slice (some ⟨w.heap.size, 0, none⟩) n n) (w.alloc (.cells (madeCells #[.int .i64 0] n) 3)) := by
  obtain ⟨i, hi, hz0, hz1, hz2⟩ := info_parts info3
  have := run_makeSlice (P := Tryz.prog) w 91 3 i _ Tryz.underlying91 hi hz0 .i64 .i64 n n (by omega) (Int.le_refl _) (by rw [hz1]; simp; omega) (by rw [hz2]; omega) (by omega)
  rw [this, hz1]
  simp [Value.cells]

theorem madeCells_get (z : Value) (n i : Nat) (h : i < n) : (madeCells #[z] n)[i]? = some z := by
  have := toList_madeCells_one z n
  rw [← Array.getElem?_toList, this]
  simp [h]

set_option maxHeartbeats 1000000 in
theorem newSets_any (n : Nat) (hn : n ≤ 1000000) (w : World) :
    Calls Tryz.prog 80 #[.int .i64 n] w fun e w' => e = .returned (.slice (some ⟨w.heap.size, 0, none⟩) n n) ∧ Below w.heap.size w w' ∧ SB w' w.heap.size (List.range n) := by
  have hmk := fun w => run_make91 n hn w
  go_enter Tryz.func80, Tryz.ntmps80
  go_wp2
  go_loopw [9] (fun i wr => ∃ (k : Nat) (cs : Array Value), k ≤ n ∧ i = .int .i64 k ∧ Below w.heap.size w wr ∧ Blk wr w.heap.size 3 cs ∧ cs.size = n ∧ ∀ j, j < n → cs[j]? = some (natV (if j < k then j else 0))) (fun i wr => n - (intOf i).toNat)
  case atStart => exact ⟨0, madeCells #[.int .i64 0] n, Nat.zero_le _, rfl, (Below.refl _ _).alloc (Nat.le_refl _) _, Blk.new _ _ _, by simp [madeCells], fun j hj => madeCells_get _ _ _ hj⟩
  case round =>
    obtain ⟨k, cs, hk, rfl, hbel, hblk, hsz, hcs⟩ := hrel
    have HB := Lib.hid hbel
    have HK := Lib.hid hblk
    have HC := Lib.hid hcs
    clear hcs hbel hmk
    by_cases hlt : k < n
    · have hc : wr.cell? ⟨w.heap.size, k, none⟩ = some (natV (if k < k then k else 0)) := (hblk.cell k).trans (HC.out k hlt)
      have hf := hblk.frozen k
      clear hblk
      go_wp2
      go_roundw
      case rel =>
        refine ⟨k + 1, cs.setIfInBounds k (natV k), by omega, by go_num, HB.out.setCell (Nat.le_refl _) _, HK.out.set_ _ _, by simpa using hsz, fun j hj => ?_⟩
        rw [Array.getElem?_setIfInBounds]
        by_cases hjk : k = j
        · subst hjk; simp [hsz, hlt]
        · rw [if_neg hjk, HC.out j hj]
          congr 2
          by_cases h1 : j < k
          · rw [if_pos h1, if_pos (by omega)]
          · rw [if_neg h1, if_neg (by omega)]
      case measure => simp [intOf]; omega
    · obtain rfl : k = n := by omega
      clear hblk
      go_wp2
      go_ret
      refine ⟨rfl, HB.out, cs, List.range k, HK.out, by simpa using hsz, UF.start k, fun i hi => ?_⟩
      rw [List.length_range] at hi
      rw [HC.out i hi, if_pos hi, lab_range k i hi]

set_option maxHeartbeats 1000000 in
theorem first_any (g : Nat) (L : List Nat) (n i : Nat) (w : World) (hL : LabOk L) (hs : SB w g L) (hn : n = L.length) (hi : i < n) (hbig : n ≤ 1000000) :
    Calls Tryz.prog 42 #[.slice (some ⟨g, 0, none⟩) n n, .int .i64 i] w fun e w' => e = .returned (.int .i64 (lab L i)) ∧ w.grownBy w' (some g) ∧ SB w' g L ∧ w'.heap.size = w.heap.size := by
  have HL := Lib.hid hL
  have HS := Lib.hid hs
  have HN := Lib.hid hn
  clear hL hs hn
  have hi64 : (n : Int) ≤ 9223372036854775807 := by omega
  go_enter Tryz.func42, Tryz.ntmps42
  go_wp2
  go_loopw [1] (fun v wr => ∃ (k : Nat), k < n ∧ v = .int .i64 k ∧ w.grownBy wr (some g) ∧ Hid (SB wr g L) ∧ Hid (lab L k = lab L i) ∧ wr.heap.size = w.heap.size) (fun v wr => (intOf v).toNat)
  case atStart => exact ⟨i, hi, rfl, World.grownBy.refl w _, HS, rfl, rfl⟩
  case round =>
    obtain ⟨k, hk, rfl, hg, HB, HT, hz⟩ := hrel
    obtain ⟨cs, s, hblk, hsz, hu, hcs⟩ := HB.out
    have HG := Lib.hid hg
    have HU := Lib.hid hu
    have HK := Lib.hid hblk
    have HC := Lib.hid hcs
    have HZ := Lib.hid hz
    have HSZ := Lib.hid hsz
    have hx1 := hu.le k (by have := HN.out; omega)
    have hx2 := hu.le (lab s k) (by have := HN.out; omega)
    have c1 : wr.cell? ⟨g, k, none⟩ = some (natV (lab s k)) := (hblk.cell k).trans (hcs k (by have := HN.out; omega))
    have c2 : wr.cell? ⟨g, lab s k, none⟩ = some (natV (lab s (lab s k))) := (hblk.cell _).trans (hcs _ (by have := HN.out; omega))
    have hf := hblk.frozen k
    have hfix := hu.fix k (by have := HN.out; omega)
    have hsame := hu.same k (by have := HN.out; omega)
    have hsame2 := hu.same (lab s k) (by have := HN.out; omega)
    have HFX := Lib.hid hfix
    have HS1 := Lib.hid hsame
    have HS2 := Lib.hid hsame2
    clear hg hu hblk hcs hfix hsame hsame2 hsz hz
    obtain ⟨x, hx⟩ : ∃ x, x = lab s k := ⟨_, rfl⟩
    obtain ⟨y, hy⟩ : ∃ y, y = lab s (lab s k) := ⟨_, rfl⟩
    rw [← hy] at c2 hx2
    rw [← hx] at c1 c2 hx1 hx2
    have HX := Lib.hid hx
    have HY := Lib.hid hy
    clear hx hy
    unfold natV at c1 c2
    by_cases hxk : x = k
    · subst hxk
      clear c2
      go_wp2
      go_ret
      have h1 : lab L x = x := HFX.out.1 HX.out.symm
      exact ⟨by rw [← HT.out, h1]; rfl, HG.out, HB.out, HZ.out⟩
    · have hxk' : (x : Int) ≠ k := by omega
      have c3 : (wr.setCell ⟨g, k, none⟩ (.int .i64 (y : Int))).cell? ⟨g, k, none⟩ = some (.int .i64 (y : Int)) := by
        have hbs : Blk (wr.setCell ⟨g, k, none⟩ (.int .i64 (y : Int))) g 3 (cs.setIfInBounds k (.int .i64 (y : Int))) := HK.out.set_ k _
        rw [hbs.cell k]
        have : k < cs.size := by have := HSZ.out; have := HN.out; omega
        simp [this]
      have hlt : x < n := by omega
      go_wp2
      go_roundw
      case rel =>
        refine ⟨y, by omega, rfl, ?_, ?_, ?_, ?_⟩
        · exact grownBy_trans HG.out ⟨rfl, rfl, rfl, by simp, fun q _ hq => heap_setCell_other _ ⟨g, k, none⟩ q _ (fun e => hq (by simp [e]))⟩
        · have hne : lab s k ≠ k := by have := HX.out; omega
          refine ⟨cs.setIfInBounds k (natV y), s.set k (lab s (lab s k)), HK.out.set_ k _, by simpa using HSZ.out, HU.out.halve (by have := HN.out; omega) hne, fun j hj => ?_⟩
          rw [Array.getElem?_setIfInBounds, lab_set (by have := HU.out.len; have := HN.out; omega)]
          by_cases hjk : k = j
          · subst hjk
            rw [if_pos rfl, if_pos rfl, if_pos (by have := HSZ.out; omega), HY.out]
          · rw [if_neg hjk, if_neg (Ne.symm hjk), HC.out j hj]
        · show _ = _
          rw [HY.out, HS2.out, HS1.out, HT.out]
        · simpa using HZ.out
      case measure => simp [intOf]; omega

theorem first_q (g : Nat) (L : List Nat) (n i a : Nat) (ha : lab L i = a) (w : World) (hL : LabOk L) (hs : SB w g L) (hn : n = L.length) (hi : i < n) (hbig : n ≤ 1000000) :
    Calls Tryz.prog 42 #[.slice (some ⟨g, 0, none⟩) n n, .int .i64 i] w fun e w' => e = .returned (.int .i64 a) ∧ w.grownBy w' (some g) ∧ SB w' g L ∧ w'.heap.size = w.heap.size := by
  subst ha; exact first_any g L n i w hL hs hn hi hbig

set_option maxHeartbeats 1000000 in
theorem join_any (g : Nat) (L : List Nat) (n i j : Nat) (w : World) (hL : LabOk L) (hs : SB w g L) (hn : n = L.length) (hi : i < n) (hj : j < n) (hbig : n ≤ 1000000) :
    Calls Tryz.prog 81 #[.slice (some ⟨g, 0, none⟩) n n, .int .i64 i, .int .i64 j] w fun e w' => e = .returned (.bool (!decide (lab L i = lab L j))) ∧ w.grownBy w' (some g) ∧ SB w' g (joinL L i j) ∧ w'.heap.size = w.heap.size := by
  obtain ⟨a, ha⟩ : ∃ a, a = lab L i := ⟨_, rfl⟩
  obtain ⟨b, hb⟩ : ∃ b, b = lab L j := ⟨_, rfl⟩
  have hla := hL.lt (i := i) (by omega)
  have hlb := hL.lt (i := j) (by omega)
  have han : a < n := by omega
  have hbn : b < n := by omega
  clear hla hlb
  have HA : Hid (lab L i = a) := ha.symm
  have HBB : Hid (lab L j = b) := hb.symm
  rw [← ha, ← hb]
  clear ha hb
  have HL := Lib.hid hL
  have HS := Lib.hid hs
  have HN := Lib.hid hn
  clear hL hs hn
  have hmax : ∀ W : World, (Builtin.max_ #[3, 3] 3 #[.int .i64 (a : Int), .int .i64 (b : Int)]).run Tryz.prog W = .ok (.int .i64 ((max a b : Nat) : Int)) W := by
    intro W
    rw [run_max_int2, show (if (b : Int) > a then (b : Int) else a) = ((max a b : Nat) : Int) by split <;> omega]
  have hmin : ∀ W : World, (Builtin.min_ #[3, 3] 3 #[.int .i64 (a : Int), .int .i64 (b : Int)]).run Tryz.prog W = .ok (.int .i64 ((min a b : Nat) : Int)) W := by
    intro W
    rw [run_min_int2, show (if (b : Int) < a then (b : Int) else a) = ((min a b : Nat) : Int) by split <;> omega]
  by_cases hab : a = b
  · subst hab
    clear hmax hmin
    go_enter Tryz.func81, Tryz.ntmps81
    go_wp2_with fail
    refine (first_q g L n i a HA.out _ HL.out HS.out HN.out hi hbig).mono ?_
    rintro e w1 ⟨rfl, hg1, hs1, hz1⟩
    have HG1 := Lib.hid hg1
    have HS1 := Lib.hid hs1
    have HZ1 := Lib.hid hz1
    clear hg1 hs1 hz1
    go_wp2_with fail
    refine (first_q g L n j a HBB.out _ HL.out HS1.out HN.out hj hbig).mono ?_
    rintro e w2 ⟨rfl, hg2, hs2, hz2⟩
    have HG2 := Lib.hid hg2
    have HS2 := Lib.hid hs2
    have HZ2 := Lib.hid hz2
    clear hg2 hs2 hz2
    go_wp2_with fail
    go_ret
    exact ⟨by simp, grownBy_trans HG1.out HG2.out, by rw [joinL_same (HA.out.trans HBB.out.symm)]; exact HS2.out, by rw [HZ2.out, HZ1.out]⟩
  · have hab' : (a : Int) ≠ b := by omega
    have hmx : max a b < n := by omega
    go_enter Tryz.func81, Tryz.ntmps81
    go_wp2_with fail
    refine (first_q g L n i a HA.out _ HL.out HS.out HN.out hi hbig).mono ?_
    rintro e w1 ⟨rfl, hg1, hs1, hz1⟩
    have HG1 := Lib.hid hg1
    have HS1 := Lib.hid hs1
    have HZ1 := Lib.hid hz1
    clear hg1 hs1 hz1
    go_wp2_with fail
    refine (first_q g L n j b HBB.out _ HL.out HS1.out HN.out hj hbig).mono ?_
    rintro e w2 ⟨rfl, hg2, hs2, hz2⟩
    have HG2 := Lib.hid hg2
    have HZ2 := Lib.hid hz2
    obtain ⟨cs, s, hblk, hsz, hu, hcs⟩ := hs2
    have c1 : w2.cell? ⟨g, max a b, none⟩ = some (natV (lab s (max a b))) := (hblk.cell _).trans (hcs _ (by have := HN.out; omega))
    have hf := hblk.frozen (max a b)
    have HK := Lib.hid hblk
    have HU := Lib.hid hu
    have HC := Lib.hid hcs
    have HSZ := Lib.hid hsz
    clear hg2 hz2 hblk hu hcs hsz
    obtain ⟨m, hm⟩ : ∃ m, m = max a b := ⟨_, rfl⟩
    obtain ⟨m', hm'⟩ : ∃ m', m' = min a b := ⟨_, rfl⟩
    rw [← hm] at hmax c1 hf hmx
    rw [← hm'] at hmin
    have HM := Lib.hid hm
    have HM' := Lib.hid hm'
    clear hm hm'
    go_wp2_with fail
    go_ret
    refine ⟨by simp [hab], ?_, ?_, ?_⟩
    · exact grownBy_trans (grownBy_trans HG1.out HG2.out) ⟨rfl, rfl, rfl, by simp, fun q _ hq => heap_setCell_other _ ⟨g, m, none⟩ q _ (fun e => hq (by simp [e]))⟩
    · have hne : lab L i ≠ lab L j := by rw [HA.out, HBB.out]; exact hab
      refine ⟨cs.setIfInBounds m (natV m'), s.set m m', HK.out.set_ m _, by simpa using HSZ.out, ?_, fun q hq => ?_⟩
      · have := HU.out.join HL.out (by have := HN.out; omega) (by have := HN.out; omega) hne
        rw [HA.out, HBB.out, ← HM.out, ← HM'.out] at this
        exact this
      · rw [length_joinL] at hq
        rw [Array.getElem?_setIfInBounds, lab_set (by have := HU.out.len; have := HN.out; omega)]
        by_cases hjk : m = q
        · subst hjk
          rw [if_pos rfl, if_pos rfl, if_pos (by have := HSZ.out; omega)]
        · rw [if_neg hjk, if_neg (Ne.symm hjk), HC.out q hq]
    · simp; rw [HZ2.out, HZ1.out]
end Go.Proofs.YtghacfhpafbdmaaGreat
