/-
  The walks of skeinref07's Read and of skeinref01's Has.
-/
import Derived.Test.YtdghanhpeekbhaaB1
import Derived.Test.YtdghanhpeekbhaaD11
namespace Go.Proofs.Ytdghanhpeekbhaa
open Go.RowKit Go.Maps
set_option linter.unusedVariables false

/-- skeinref07's disk. -/
def dkV (A : Option Addr) (n c : Nat) (P : Option Addr) (pn pc : Nat) (st : Nat) (off : Bool) : Value := .agg #[.slice A n c, .slice P pn pc, .int .i64 (st : Int), .bool off]
/-- What the document's Read says of spots f, n of them. -/
def RefReadOut (w : World) (n : Nat) (f : Nat → List Nat × Option (List Nat)) (off : Bool) (i : Int) (e : Ending) (w' : World) : Prop :=
  Below w.heap.size w w' ∧ ∃ (y : Option Addr × Nat × Nat) (k : Int), e = .returned (.tuple #[.slice y.1 y.2.1 y.2.2, .int .i64 k]) ∧
    ((off = true ∧ k = 70 ∧ y = (none, 0, 0)) ∨ (off = false ∧ (i < 0 ∨ (n : Int) ≤ i) ∧ k = 1 ∧ y = (none, 0, 0)) ∨ (off = false ∧ 0 ≤ i ∧ i < n ∧ k = 0 ∧ OB w' w.heap.size (slW y) (hasL (f i.toNat))))

theorem refReadNo {w W0 : World} {n : Nat} {f : Nat → List Nat × Option (List Nat)} {off : Bool} {i : Int} {e : Ending} (hb : Below w.heap.size w W0) (y : Option Addr × Nat × Nat) (k : Int) (he : e = .returned (.tuple #[.slice y.1 y.2.1 y.2.2, .int .i64 k])) (hk : (off = true ∧ k = 70 ∧ y = (none, 0, 0)) ∨ (off = false ∧ (i < 0 ∨ (n : Int) ≤ i) ∧ k = 1 ∧ y = (none, 0, 0))) : RefReadOut w n f off i e W0 := ⟨hb, y, k, he, by
    rcases hk with h | h
    · exact .inl h
    · exact .inr (.inl h)⟩
set_option maxHeartbeats 1000000 in
theorem refRead_any (w : World) (B : Nat) (A : Option Addr) (n c : Nat) (xs : List Spt) (f : Nat → List Nat × Option (List Nat)) (h : SpRow w B (.slice A n c) xs f) (hn : xs.length = n) (P : Option Addr) (pn pc st : Nat) (off : Bool) (i : Int) :
    Calls Try.prog 47 #[dkV A n c P pn pc st off, .int .i64 i] w (RefReadOut w n f off i) := by
  have H := Lib.hid h
  have HN := Lib.hid hn
  obtain ⟨W0, hW0⟩ : ∃ W0, W0 = w.alloc (.cells #[.slice A n c, .slice P pn pc, .int .i64 (st : Int), .bool off] 46) := ⟨_, rfl⟩
  have hb0 : Below w.heap.size w W0 := by rw [hW0]; exact (Below.refl _ _).alloc (Nat.le_refl _) _
  have hB0 : Blk W0 w.heap.size 46 #[.slice A n c, .slice P pn pc, .int .i64 (st : Int), .bool off] := by rw [hW0]; exact Blk.new _ _ _
  have c0 : W0.cell? ⟨w.heap.size, 0, none⟩ = some (.slice A n c) := hB0.cell 0
  have c3 : W0.cell? ⟨w.heap.size, 3, none⟩ = some (.bool off) := hB0.cell 3
  have HB0 := Lib.hid hb0
  have HW0 := Lib.hid hW0
  unfold dkV
  clear h hn hW0 hb0 hB0
  cases off with
  | true =>
    go_enter Try.func47, Try.ntmps47
    rw [HW0.out] at c0 c3
    go_wp2_with fail
    go_ret2
    rw [← HW0.out]
    exact refReadNo HB0.out (none, 0, 0) 70 rfl (.inl ⟨rfl, rfl, rfl⟩)
  | false =>
    by_cases h0 : i < 0
    · have hd0 : decide (i < 0) = true := by simpa using h0
      go_enter Try.func47, Try.ntmps47
      rw [HW0.out] at c0 c3
      go_wp2_with fail
      go_ret2
      rw [← HW0.out]
      exact refReadNo HB0.out (none, 0, 0) 1 rfl (.inr ⟨rfl, .inl h0, rfl, rfl⟩)
    · have hd0 : decide (i < 0) = false := by simpa using h0
      by_cases h1 : (n : Int) ≤ i
      · have hd1 : decide ((n : Int) ≤ i) = true := by simpa using h1
        go_enter Try.func47, Try.ntmps47
        rw [HW0.out] at c0 c3
        go_wp2_with fail
        go_ret2
        rw [← HW0.out]
        exact refReadNo HB0.out (none, 0, 0) 1 rfl (.inr ⟨rfl, .inr h1, rfl, rfl⟩)
      · have hd1 : decide ((n : Int) ≤ i) = false := by simpa using h1
        obtain ⟨k, rfl⟩ : ∃ k : Nat, i = (k : Int) := ⟨i.toNat, by omega⟩
        have hk : k < n := by omega
        obtain ⟨A', c', e, HC⟩ := H.out.open_
        rw [HN.out] at e HC
        injection e with e1 e2 e3
        obtain ⟨b, o, e4, hb, ⟨⟨a1, n1, c1⟩, ⟨a2, n2, c2⟩, lo⟩, hx, x0, x1, x2, hs⟩ := HC.out k hk
        rw [← e1] at e4
        subst e4
        have x0 : w.cell? ⟨b, o + k * 3, none⟩ = some (.slice a1 n1 c1) := x0
        have x1 : w.cell? ⟨b, o + k * 3 + 1, none⟩ = some (.slice a2 n2 c2) := x1
        have x2 : w.cell? ⟨b, o + k * 3 + 2, none⟩ = some (.bool lo) := x2
        have y0 := (HB0.out.cell (p := ⟨b, o + k * 3, none⟩) hb).trans x0
        have y1 := (HB0.out.cell (p := ⟨b, o + k * 3 + 1, none⟩) hb).trans x1
        have y2 := (HB0.out.cell (p := ⟨b, o + k * 3 + 2, none⟩) hb).trans x2
        have HS := Lib.hid (hs.below HB0.out)
        clear x0 x1 x2 hs hx HC e1 e2 e3
        go_enter Try.func47, Try.ntmps47
        rw [HW0.out] at c0 c3 y0 y1 y2
        go_wp2_with fail
        rw [← HW0.out]
        refine (has_at W0 B a1 a2 n1 n2 c1 c2 lo _ HS.out).mono ?_
        rintro e w1 ⟨⟨A3, n3, c3'⟩, rfl, ho1, hb1⟩
        have HO1 := Lib.hid ho1
        have HB1 : Hid (Below w.heap.size w w1) := Lib.hid (HB0.out.trans (hb1.mono HB0.out.size))
        clear ho1 hb1
        go_wp2_with fail
        refine (copy_any _ _ w1 HO1.out.rbn).mono ?_
        rintro e w2 ⟨v2, rfl, ho2, hb2⟩
        obtain ⟨A4, c4, rfl, -, -, -, -⟩ := ho2.rbn.open_
        have HO2 := Lib.hid ho2
        have HB2 : Hid (Below w.heap.size w w2) := Lib.hid (HB1.out.trans (hb2.mono HB1.out.size))
        clear ho2 hb2
        go_wp2_with fail
        go_ret2
        exact ⟨HB2.out, (A4, _, c4), 0, rfl, .inr (.inr ⟨rfl, by omega, by omega, rfl, HO2.out.base HB1.out.size⟩)⟩

theorem Has_any (v : Value) (V : List Int) (x : Int) (q : Bool) (hq : V.contains x = q) (w : World) (B : Nat) (hv : RI w B v V) :
    Calls Try.prog 80 #[v, .int .i64 x] w fun e w' => e = .returned (.bool q) ∧ w = w' := by
  obtain ⟨A, c, rfl, hc1, hc2, hc3, HC⟩ := hv.open_
  clear hv
  obtain ⟨n, hn⟩ : ∃ n, n = V.length := ⟨_, rfl⟩
  rw [← hn] at hc1 hc3 ⊢
  have HN := Lib.hid hn
  have HQ : Hid ((V.drop 0).contains x = q) := hq
  clear hn hq
  go_enter Try.func80, Try.ntmps80
  go_wp2
  go_loop [5] (fun i => ∃ k : Nat, k ≤ n ∧ i = .int .i64 k ∧ Hid ((V.drop k).contains x = q)) (fun i => n - (intOf i).toNat)
  case atStart => exact ⟨0, Nat.zero_le _, rfl, HQ⟩
  case round =>
    obtain ⟨k, hk, rfl, HT⟩ := hrel
    by_cases hlt : k < n
    · obtain ⟨b, o, rfl, hb, hx⟩ := HC.out k (by have := HN.out; omega)
      have hx := cellI hx
      obtain ⟨y, hy⟩ : ∃ y, y = V[k]'(by have := HN.out; omega) := ⟨_, rfl⟩
      rw [← hy] at hx
      have HD : Hid ((V.drop k).contains x = (x == y || (V.drop (k + 1)).contains x)) := by
        rw [List.drop_eq_getElem_cons (by have := HN.out; omega), ← hy]; rfl
      clear hy
      by_cases hxy : y = x
      · have HF : Hid (q = true) := by show _ = _; rw [← HT.out, HD.out, hxy]; simp
        subst hxy
        clear HD HT
        go_wp2
        go_ret
        exact ⟨by rw [HF.out]; rfl, rfl⟩
      · have HT' : Hid ((V.drop (k + 1)).contains x = q) := by
          show _ = _
          rw [← HT.out, HD.out]
          have : (x == y) = false := by simpa using fun e => hxy e.symm
          rw [this]; rfl
        clear HD HT
        go_wp2
        go_round
        case rel => exact ⟨k + 1, by omega, by go_num, HT'⟩
        case measure => simp [intOf]; omega
    · obtain rfl : k = n := by omega
      have HF : Hid (q = false) := by
        show _ = _
        rw [← HT.out, HN.out, List.drop_length]; rfl
      clear HT
      go_wp2
      go_ret
      exact ⟨by rw [HF.out]; rfl, rfl⟩
end Go.Proofs.Ytdghanhpeekbhaa
