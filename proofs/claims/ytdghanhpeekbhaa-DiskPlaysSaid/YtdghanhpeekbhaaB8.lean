/-
  The walks of skeinref07's All and Safe.
-/
import Derived.Test.YtdghanhpeekbhaaB5
namespace Go.Proofs.Ytdghanhpeekbhaa
open Go.RowKit Go.Maps
set_option linter.unusedVariables false

/-- has, its answer told of an older world. -/
theorem has_in (w0 w : World) (B : Nat) (a1 a2 : Option Addr) (n1 n2 c1 c2 : Nat) (lo : Bool) (g : List Nat × Option (List Nat)) (h : SptAt w0 B ⟨(a1, n1, c1), (a2, n2, c2), lo⟩ g) :
    Calls Try.prog 75 #[.agg #[.slice a1 n1 c1, .slice a2 n2 c2, .bool lo]] w fun e w' => ∃ y : Option Addr × Nat × Nat, e = .returned (.slice y.1 y.2.1 y.2.2) ∧ OB w0 B (slW y) (hasL g) ∧ Below w.heap.size w w' := by
  have H := Lib.hid h
  have hlo := h.lo
  dsimp only at hlo
  have hb : Below w.heap.size w (w.alloc (.cells #[.slice a1 n1 c1, .slice a2 n2 c2, .bool lo] 87)) := (Below.refl _ _).alloc (Nat.le_refl _) _
  have HB := Lib.hid hb
  have HLO := Lib.hid hlo
  clear h hlo hb
  cases lo with
  | true =>
    go_enter Try.func75, Try.ntmps75
    go_wp2_with fail
    go_ret
    obtain ⟨l, hl⟩ := Option.isSome_iff_exists.1 HLO.out.symm
    exact ⟨(a2, n2, c2), rfl, by rw [show hasL g = l by rw [hasL, hl]; rfl]; exact H.out.now l hl, HB.out⟩
  | false =>
    go_enter Try.func75, Try.ntmps75
    go_wp2_with fail
    go_ret
    have hn : g.2 = none := by have := HLO.out; cases h : g.2 with | none => rfl | some l => rw [h] at this; cases this
    exact ⟨(a1, n1, c1), rfl, by rw [show hasL g = g.1 by rw [hasL, hn]; rfl]; exact H.out.safe, HB.out⟩
theorem ob_slice {w : World} {B : Nat} {a3 : Option Addr} {n3 d3 : Nat} {l : List Nat} (h : OB w B (slW (a3, n3, d3)) l) : n3 = l.length := by
  obtain ⟨A, c, e, -⟩ := h.rbn.open_
  injection e
theorem ob_made (w : World) : OB (w.alloc (.cells #[] 5)) w.heap.size (.slice (some ⟨w.heap.size, 0, none⟩) 0 0) [] := OB.made _ _ _ 0 (Nat.le_refl _) (by omega) rfl

set_option maxRecDepth 100000 in
set_option maxHeartbeats 2000000 in
theorem refAll_any (w : World) (B : Nat) (A : Option Addr) (n c : Nat) (xs : List Spt) (f : Nat → List Nat × Option (List Nat)) (h : SpRow w B (.slice A n c) xs f) (hn : xs.length = n) (hn4 : n ≤ 4096) (hl : ∀ i, i < n → (hasL (f i)).length = 512) (P : Option Addr) (pn pc st : Nat) (off : Bool) :
    Calls Try.prog 57 #[dkV A n c P pn pc st off] w fun e w' => ∃ v', e = .returned v' ∧ OB w' w.heap.size v' ((List.range n).flatMap fun i => hasL (f i)) ∧ Below w.heap.size w w' := by
  have H := Lib.hid h
  have HN := Lib.hid hn
  have HL := Lib.hid hl
  obtain ⟨g, hg⟩ : ∃ g : Nat → List Nat, g = fun i => hasL (f i) := ⟨_, rfl⟩
  have HG0 := Lib.hid hg
  have HLG : Hid (∀ i, i < n → (g i).length = 512) := Lib.hid (by rw [hg]; exact hl)
  rw [← hg]
  obtain ⟨W0, hW0⟩ : ∃ W0, W0 = w.alloc (.cells #[.slice A n c, .slice P pn pc, .int .i64 (st : Int), .bool off] 46) := ⟨_, rfl⟩
  have hb0 : Below w.heap.size w W0 := by rw [hW0]; exact (Below.refl _ _).alloc (Nat.le_refl _) _
  have hB0 : Blk W0 w.heap.size 46 #[.slice A n c, .slice P pn pc, .int .i64 (st : Int), .bool off] := by rw [hW0]; exact Blk.new _ _ _
  have hz0 : W0.heap.size = w.heap.size + 1 := by rw [hW0]; simp
  have HB0 := Lib.hid hb0
  have HBD := Lib.hid hB0
  have HW0 := Lib.hid hW0
  have HZ0 := Lib.hid hz0
  unfold dkV
  clear h hn hl hg hW0 hb0 hB0 hz0
  go_enter Try.func57, Try.ntmps57
  go_wp2_with fail
  rw [← HW0.out]
  try rw [← HZ0.out]
  go_loopw [3, 4] (fun x q wr => ∃ k : Nat, k ≤ n ∧ q = .int .i64 (k : Int) ∧ Hid (OB wr W0.heap.size x ((List.range k).flatMap g)) ∧ Hid (Below W0.heap.size W0 wr)) (fun x q wr => n - (intOf q).toNat)
  case atStart => exact ⟨0, Nat.zero_le _, rfl, ob_made _, Lib.hid ((Below.refl _ _).alloc (Nat.le_refl _) _)⟩
  case round =>
    obtain ⟨k, hk, rfl, HO, HB⟩ := hrel
    have hbd := HBD.out.below HB.out HBD.out.lt
    have D0 : wr.cell? ⟨w.heap.size, 0, none⟩ = some (.slice A n c) := hbd.cell 0
    have HBELOW : Hid (Below w.heap.size w wr) := Lib.hid (HB0.out.trans (HB.out.mono HB0.out.size))
    clear hbd
    by_cases hlt : k < n
    · obtain ⟨b, o, a1, n1, d1, a2, n2, d2, lo, hg⟩ := H.out.get HN.out hlt
      have hgw := hg.below HBELOW.out
      obtain rfl := hg.eq
      have x0 := hgw.x0
      have x1 := hgw.x1
      have x2 := hgw.x2
      have HG := Lib.hid hg
      have hpl : ((List.range k).flatMap g).length = k * 512 := flatMap_len k (fun i hi => HLG.out i (by omega))
      obtain ⟨pre, hpre⟩ : ∃ pre, pre = (List.range k).flatMap g := ⟨_, rfl⟩
      rw [← hpre] at HO hpl
      obtain ⟨bl, hbl⟩ : ∃ bl, bl = g k := ⟨_, rfl⟩
      have hbl5 : bl.length = 512 := by rw [hbl]; exact HLG.out k hlt
      have HBL5 := Lib.hid hbl5
      have HPL := Lib.hid hpl
      have HNX : Hid (pre ++ bl = (List.range (k + 1)).flatMap g) := Lib.hid (by rw [flatMap_take, ← hpre, ← hbl])
      have HBLF : Hid (hasL (f k) = bl) := Lib.hid (by rw [hbl, HG0.out])
      clear hg hgw hpl hpre hbl hbl5
      go_wp2_with fail
      refine (has_in w wr B a1 a2 n1 n2 d1 d2 lo _ HG.out.at_).mono ?_
      rintro e w1 ⟨⟨a3, n3, d3⟩, rfl, ho1, hb1⟩
      rw [HBLF.out] at ho1
      have h3 : n3 = 512 := by rw [ob_slice ho1, HBL5.out]
      subst h3
      have HO1 := Lib.hid ho1
      have HB1 : Hid (Below W0.heap.size W0 w1) := Lib.hid (HB.out.trans (hb1.mono HB.out.size))
      have HOP : Hid (OB w1 W0.heap.size u3 pre) := Lib.hid (HO.out.below hb1)
      clear ho1 hb1
      go_wp2_with fail
      go_loopw [3, 6] (fun x q wq => ∃ j : Nat, j ≤ 512 ∧ q = .int .i64 (j : Int) ∧ Hid (OB wq W0.heap.size x (pre ++ bl.take j)) ∧ Hid (Below W0.heap.size W0 wq)) (fun x q wq => 512 - (intOf q).toNat)
      case atStart => exact ⟨0, Nat.zero_le _, rfl, Lib.hid (by rw [List.take_zero, List.append_nil]; exact HOP.out), HB1⟩
      case round =>
        obtain ⟨j, hj, rfl, HOJ, HBJ⟩ := hrel
        by_cases hjl : j < 512
        · have hjb : j < bl.length := by rw [HBL5.out]; exact hjl
          have hbw := HB0.out.trans (HBJ.out.mono HB0.out.size)
          obtain ⟨A3, c3, e3, -, -, -, HC⟩ := (HO1.out.below hbw).rbn.open_
          obtain ⟨b3, o3, e4, hb3, hc3, h256⟩ := HC.out j hjb
          injection e3 with e5 e6 e7
          rw [← e5] at e4
          subst e4
          obtain ⟨y, hy⟩ : ∃ y, y = bl[j] := ⟨_, rfl⟩
          rw [← hy] at hc3 h256
          have HNXJ : Hid ((pre ++ bl.take j) ++ [y] = pre ++ bl.take (j + 1)) := Lib.hid (by rw [List.append_assoc, List.take_succ_eq_append_getElem hjb, hy])
          have HPJ : Hid ((pre ++ bl.take j).length + 1 ≤ 140737488355328) := Lib.hid (by rw [List.length_append, HPL.out, List.length_take, HBL5.out]; omega)
          clear HC e5 e6 e7 hy hb3 hjb
          go_wp2_with (at_builtin; go_must (refine wpList_app1 (w0 := W0) rfl (.tmp 27) (.tmp 32) rfl W0.heap.size _ _ rfl HOJ.out HBJ.out (Nat.le_refl _) _ y rfl h256 rfl HPJ.out ?_); intro v' w4 ho4 hb4 _; rw [HNXJ.out] at ho4; have HO4 := Lib.hid ho4; have HB4 := Lib.hid hb4; clear ho4 hb4)
          go_roundw
          case rel => exact ⟨j + 1, by omega, by go_num, HO4, HB4⟩
          case measure => simp [intOf]; omega
        · obtain rfl : j = 512 := by omega
          have h1 := HOJ.out
          rw [List.take_of_length_le (by rw [HBL5.out]; omega), HNX.out] at h1
          have HOE := Lib.hid h1
          clear h1
          go_wp2_with fail
          go_roundw
          case rel => exact ⟨k + 1, by omega, by go_num, HOE, HBJ⟩
          case measure => simp [intOf]; omega
    · obtain rfl : k = n := by omega
      go_wp2_with fail
      go_ret
      exact ⟨_, rfl, HO.out.base (by rw [HZ0.out]; omega), HBELOW.out⟩

set_option maxRecDepth 100000 in
set_option maxHeartbeats 2000000 in
theorem refSafe_any (w : World) (B : Nat) (A : Option Addr) (n c : Nat) (xs : List Spt) (f : Nat → List Nat × Option (List Nat)) (h : SpRow w B (.slice A n c) xs f) (hn : xs.length = n) (hn4 : n ≤ 4096) (hl : ∀ i, i < n → ((f i).1).length = 512) (P : Option Addr) (pn pc st : Nat) (off : Bool) :
    Calls Try.prog 59 #[dkV A n c P pn pc st off] w fun e w' => ∃ v', e = .returned v' ∧ OB w' w.heap.size v' ((List.range n).flatMap fun i => (f i).1) ∧ Below w.heap.size w w' := by
  have H := Lib.hid h
  have HN := Lib.hid hn
  have HL := Lib.hid hl
  obtain ⟨g, hg⟩ : ∃ g : Nat → List Nat, g = fun i => (f i).1 := ⟨_, rfl⟩
  have HG0 := Lib.hid hg
  have HLG : Hid (∀ i, i < n → (g i).length = 512) := Lib.hid (by rw [hg]; exact hl)
  rw [← hg]
  obtain ⟨W0, hW0⟩ : ∃ W0, W0 = w.alloc (.cells #[.slice A n c, .slice P pn pc, .int .i64 (st : Int), .bool off] 46) := ⟨_, rfl⟩
  have hb0 : Below w.heap.size w W0 := by rw [hW0]; exact (Below.refl _ _).alloc (Nat.le_refl _) _
  have hB0 : Blk W0 w.heap.size 46 #[.slice A n c, .slice P pn pc, .int .i64 (st : Int), .bool off] := by rw [hW0]; exact Blk.new _ _ _
  have hz0 : W0.heap.size = w.heap.size + 1 := by rw [hW0]; simp
  have HB0 := Lib.hid hb0
  have HBD := Lib.hid hB0
  have HW0 := Lib.hid hW0
  have HZ0 := Lib.hid hz0
  unfold dkV
  clear h hn hl hg hW0 hb0 hB0 hz0
  go_enter Try.func59, Try.ntmps59
  go_wp2_with fail
  rw [← HW0.out]
  try rw [← HZ0.out]
  go_loopw [3, 4] (fun x q wr => ∃ k : Nat, k ≤ n ∧ q = .int .i64 (k : Int) ∧ Hid (OB wr W0.heap.size x ((List.range k).flatMap g)) ∧ Hid (Below W0.heap.size W0 wr)) (fun x q wr => n - (intOf q).toNat)
  case atStart => exact ⟨0, Nat.zero_le _, rfl, ob_made _, Lib.hid ((Below.refl _ _).alloc (Nat.le_refl _) _)⟩
  case round =>
    obtain ⟨k, hk, rfl, HO, HB⟩ := hrel
    have hbd := HBD.out.below HB.out HBD.out.lt
    have D0 : wr.cell? ⟨w.heap.size, 0, none⟩ = some (.slice A n c) := hbd.cell 0
    have HBELOW : Hid (Below w.heap.size w wr) := Lib.hid (HB0.out.trans (HB.out.mono HB0.out.size))
    clear hbd
    by_cases hlt : k < n
    · obtain ⟨b, o, a1, n1, d1, a2, n2, d2, lo, hg⟩ := H.out.get HN.out hlt
      have hgw := hg.below HBELOW.out
      obtain rfl := hg.eq
      have x0 := hgw.x0
      have x1 := hgw.x1
      have x2 := hgw.x2
      have HG := Lib.hid hg
      have hpl : ((List.range k).flatMap g).length = k * 512 := flatMap_len k (fun i hi => HLG.out i (by omega))
      obtain ⟨pre, hpre⟩ : ∃ pre, pre = (List.range k).flatMap g := ⟨_, rfl⟩
      rw [← hpre] at HO hpl
      obtain ⟨bl, hbl⟩ : ∃ bl, bl = g k := ⟨_, rfl⟩
      have hbl5 : bl.length = 512 := by rw [hbl]; exact HLG.out k hlt
      have HBL5 := Lib.hid hbl5
      have HPL := Lib.hid hpl
      have HNX : Hid (pre ++ bl = (List.range (k + 1)).flatMap g) := Lib.hid (by rw [flatMap_take, ← hpre, ← hbl])
      have HBLF : Hid ((f k).1 = bl) := Lib.hid (by rw [hbl, HG0.out])
      clear hg hgw hpl hpre hbl hbl5
      have ho1 := HG.out.at_.safe
      rw [HBLF.out] at ho1
      have h3 : n1 = 512 := by rw [ob_slice ho1, HBL5.out]
      subst h3
      have HO1 : Hid (OB w B (slW (a1, 512, d1)) bl) := Lib.hid ho1
      have HB1 := HB
      have HOP := HO
      clear ho1
      go_wp2_with fail
      go_loopw [3, 6] (fun x q wq => ∃ j : Nat, j ≤ 512 ∧ q = .int .i64 (j : Int) ∧ Hid (OB wq W0.heap.size x (pre ++ bl.take j)) ∧ Hid (Below W0.heap.size W0 wq)) (fun x q wq => 512 - (intOf q).toNat)
      case atStart => exact ⟨0, Nat.zero_le _, rfl, Lib.hid (by rw [List.take_zero, List.append_nil]; exact HOP.out), HB1⟩
      case round =>
        obtain ⟨j, hj, rfl, HOJ, HBJ⟩ := hrel
        by_cases hjl : j < 512
        · have hjb : j < bl.length := by rw [HBL5.out]; exact hjl
          have hbw := HB0.out.trans (HBJ.out.mono HB0.out.size)
          obtain ⟨A3, c3, e3, -, -, -, HC⟩ := (HO1.out.below hbw).rbn.open_
          obtain ⟨b3, o3, e4, hb3, hc3, h256⟩ := HC.out j hjb
          injection e3 with e5 e6 e7
          rw [← e5] at e4
          subst e4
          obtain ⟨y, hy⟩ : ∃ y, y = bl[j] := ⟨_, rfl⟩
          rw [← hy] at hc3 h256
          have HNXJ : Hid ((pre ++ bl.take j) ++ [y] = pre ++ bl.take (j + 1)) := Lib.hid (by rw [List.append_assoc, List.take_succ_eq_append_getElem hjb, hy])
          have HPJ : Hid ((pre ++ bl.take j).length + 1 ≤ 140737488355328) := Lib.hid (by rw [List.length_append, HPL.out, List.length_take, HBL5.out]; omega)
          clear HC e5 e6 e7 hy hb3 hjb
          go_wp2_with (at_builtin; go_must (refine wpList_app1 (w0 := W0) rfl (.tmp 27) (.tmp 32) rfl W0.heap.size _ _ rfl HOJ.out HBJ.out (Nat.le_refl _) _ y rfl h256 rfl HPJ.out ?_); intro v' w4 ho4 hb4 _; rw [HNXJ.out] at ho4; have HO4 := Lib.hid ho4; have HB4 := Lib.hid hb4; clear ho4 hb4)
          go_roundw
          case rel => exact ⟨j + 1, by omega, by go_num, HO4, HB4⟩
          case measure => simp [intOf]; omega
        · obtain rfl : j = 512 := by omega
          have h1 := HOJ.out
          rw [List.take_of_length_le (by rw [HBL5.out]; omega), HNX.out] at h1
          have HOE := Lib.hid h1
          clear h1
          go_wp2_with fail
          go_roundw
          case rel => exact ⟨k + 1, by omega, by go_num, HOE, HBJ⟩
          case measure => simp [intOf]; omega
    · obtain rfl : k = n := by omega
      go_wp2_with fail
      go_ret
      exact ⟨_, rfl, HO.out.base (by rw [HZ0.out]; omega), HBELOW.out⟩
end Go.Proofs.Ytdghanhpeekbhaa
