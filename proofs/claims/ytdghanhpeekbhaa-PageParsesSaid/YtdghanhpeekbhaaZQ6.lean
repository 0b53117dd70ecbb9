/-
  The walk of skeinref08's Parse at bytes whose head is wrong.
-/
import Derived.Test.YtdghanhpeekbhaaZQ5
import Derived.Test.YtdghanhpeekbhaaZJ11
namespace Go.Proofs.Ytdghanhpeekbhaa
open Go.RowKit Go.Maps
set_option linter.unusedVariables false

theorem open_sum {L : List Nat} (hl : L.length = 512) (hb : ∀ x ∈ L, x < 256) : openOk L = true ↔ leV (L.take 4) = crcSum (L.drop 4) := by
  have hc : crcSum (L.drop 4) < 4294967296 := crcSum_lt _ (fun x hx => hb x (List.mem_of_mem_drop hx))
  have h4 : (L.take 4).length = 4 := by rw [List.length_take]; omega
  unfold openOk
  rw [decide_eq_true_iff, ← digits_four _ hc]
  constructor
  · rintro ⟨-, h⟩
    rw [h]
    exact leV_digits_of (by have : (256 : Nat) ^ 4 = 4294967296 := by decide
                            omega)
  · intro h
    refine ⟨by omega, ?_⟩
    have h5 := digits_leV (L.take 4) (fun x hx => hb x (List.mem_of_mem_take hx))
    rw [h4, h] at h5
    exact h5.symm
theorem lsn_top {L : List Nat} (hl : L.length = 512) (hb : ∀ x ∈ L, x < 256) : leV ((L.drop 4).take 8) ≤ 9223372036854775807 ↔ L.getD 11 0 ≤ 127 := by
  have hl7 : 7 < (L.drop 4).length := by rw [List.length_drop]; omega
  obtain ⟨h1, h2⟩ := leV_take (l := L.drop 4) (fun x hx => hb x (List.mem_of_mem_drop hx)) 7 hl7
  have h3 : (L.drop 4)[7] = L.getD 11 0 := by
    have h11 : 11 < L.length := by omega
    simp [List.getD, h11]
  have h4 : (256 : Nat) ^ 7 = 72057594037927936 := by decide
  rw [h3] at h2
  rw [h4] at h1 h2
  rw [show (8 : Nat) = 7 + 1 from rfl, h2]
  constructor <;> intro h <;> omega

/-- What Parse says of bytes that are no page. -/
def NoPg (w : World) (e : Ending) (w' : World) : Prop := e = .returned (.tuple #[refP none 0 0, .bool false]) ∧ Below w.heap.size w w'
set_option maxRecDepth 100000 in
set_option maxHeartbeats 1000000 in
theorem refPg_len (w : World) (A : Option Addr) (n c : Nat) (hn : n ≠ 512) :
    Calls Try.prog 8 #[.slice A n c] w (NoPg w) := by
  have hne : ((n : Int) == 512) = false := by simpa using (by omega : ¬ (n : Int) = 512)
  have hne2 : ((n : Int) != 512) = true := by simpa using hne
  have hB := Blk.new w 32 #[.int .i64 0, .int .u8 0, .int .u32 0, .slice none 0 0]
  have hw : Below w.heap.size w (w.alloc (.cells #[.int .i64 0, .int .u8 0, .int .u32 0, .slice none 0 0] 32)) := (Below.refl _ _).alloc (Nat.le_refl _) _
  have H := Lib.hid (And.intro hB hw)
  clear hB hw
  go_enter Try.func8, Try.ntmps8
  go_wp2_with fail
  exact ret_pg8 Try.results8 rfl rfl H.out.1 rfl ⟨rfl, H.out.2⟩
set_option maxRecDepth 100000 in
set_option maxHeartbeats 2000000 in
theorem refPg_head (w : World) (L : List Nat) (A : Option Addr) (c : Nat) (hv : RB w w.heap.size (.slice A 512 c) L) (hl : L.length = 512) (hno : ¬ HeadOk L) :
    Calls Try.prog 8 #[.slice A 512 c] w (NoPg w) := by
  have HV := Lib.hid hv
  have HL := Lib.hid hl
  have hb := hv.1
  have HB256 := Lib.hid hb
  obtain ⟨A', c', e, hc1, hc2, -, HC⟩ := hv.open_
  have hcell : Hid (∀ j : Nat, j < 512 → ∃ g off, A = some ⟨g, off, none⟩ ∧ g < w.heap.size ∧ w.cell? ⟨g, off + j, none⟩ = some (.int .u8 ((L.getD j 0 : Nat) : Int)) ∧ L.getD j 0 < 256) := Lib.hid (fun j hj => by
    obtain ⟨g', off', e', hg, h1, h2⟩ := HC j (by omega)
    injection e with e1 e2 e3
    have hd : L.getD j 0 = L[j]'(by omega) := by simp [List.getD, hl, hj]
    rw [hd, e1]
    exact ⟨g', off', e', hg, h1, h2⟩)
  have hos := open_sum hl hb
  have hlt := lsn_top hl hb
  have hno2 : openOk L = true → L.getD 11 0 ≤ 127 → ¬ L.getD 17 0 ≤ 100 := fun h1 h2 h3 => hno ⟨hl, hos.1 h1, hlt.2 h2, h3⟩
  have HNO := Lib.hid hno2
  obtain ⟨g, off, rfl, hg, z11, y11⟩ := hcell.out 11 (by omega)
  obtain ⟨g2, off2, e2, -, z17, y17⟩ := hcell.out 17 (by omega)
  injection e2 with e2
  injection e2 with e3 e4
  subst e3 e4
  have hB := Blk.new w 32 #[.int .i64 0, .int .u8 0, .int .u32 0, .slice none 0 0]
  have hw : Below w.heap.size w (w.alloc (.cells #[.int .i64 0, .int .u8 0, .int .u32 0, .slice none 0 0] 32)) := (Below.refl _ _).alloc (Nat.le_refl _) _
  have HBL := Lib.hid hB
  have HW := Lib.hid hw
  have R1 : Hid (RB (w.alloc (.cells #[.int .i64 0, .int .u8 0, .int .u32 0, .slice none 0 0] 32)) (w.alloc (.cells #[.int .i64 0, .int .u8 0, .int .u32 0, .slice none 0 0] 32)).heap.size (.slice (some ⟨g, off, none⟩) 512 c) L) := Lib.hid ((HV.out.alloc (Nat.le_refl _) _).more (by simp))
  obtain ⟨b11, h11⟩ : ∃ b11, b11 = L.getD 11 0 := ⟨_, rfl⟩
  obtain ⟨b17, h17⟩ : ∃ b17, b17 = L.getD 17 0 := ⟨_, rfl⟩
  have Z11 := Lib.hid z11
  have Z17 := Lib.hid z17
  have H11 := Lib.hid h11
  have H17 := Lib.hid h17
  clear hv hl hb HC e hos hlt hno hno2 hB hw z11 z17 y11 y17 h11 h17
  go_enter Try.func8, Try.ntmps8
  go_wp2_with fail
  refine (open2_any _ L _ R1.out (by rw [HL.out]; omega)).mono ?_
  rintro e w1 ⟨v1, rfl, ho1, hb1⟩
  have hz := hb1.size
  rw [size_alloc_] at hz
  have hw1 : Below w.heap.size w w1 := HW.out.trans (hb1.mono (by simp))
  have hK := HBL.out.below hb1 HBL.out.lt
  have H := Lib.hid (over_page (x0 := .int .i64 0) (x1 := .int .u8 0) (x2 := .int .u32 0) (x3 := .slice none 0 0) hw1 (Nat.le_refl _) hK)
  have q0 : w1.cell? ⟨w.heap.size, 0, none⟩ = some (.int .i64 0) := hK.cell 0
  have q1 : w1.cell? ⟨w.heap.size, 1, none⟩ = some (.int .u8 0) := hK.cell 1
  have q2 : w1.cell? ⟨w.heap.size, 2, none⟩ = some (.int .u32 0) := hK.cell 2
  have q3 : w1.cell? ⟨w.heap.size, 3, none⟩ = some (.slice none 0 0) := hK.cell 3
  have f0 := hK.frozen 0
  have f1 := hK.frozen 1
  have f2 := hK.frozen 2
  have f3 := hK.frozen 3
  have hKlt := hK.lt
  have c11 : w1.cell? ⟨g, off + 11, none⟩ = some (.int .u8 (b11 : Int)) := by rw [H11.out]; exact (hw1.cell (p := ⟨g, off + 11, none⟩) hg).trans Z11.out
  have c17 : w1.cell? ⟨g, off + 17, none⟩ = some (.int .u8 (b17 : Int)) := by rw [H17.out]; exact (hw1.cell (p := ⟨g, off + 17, none⟩) hg).trans Z17.out
  obtain ⟨A1, c1, rfl, -, -, -, -⟩ := ho1.rbn.open_
  obtain ⟨n1, hn1⟩ : ∃ n1, n1 = (openL L).length := ⟨_, rfl⟩
  rw [← hn1]
  clear ho1 hb1 hz hn1 hK
  cases hok : openOk L with
  | false =>
    clear hok c11 c17
    go_wp2_with fail
    exact ret_pg8 Try.results8 rfl rfl H.out.1 rfl ⟨rfl, H.out.2⟩
  | true =>
    have HOK := Lib.hid hok
    by_cases h127 : (127 : Int) < (b11 : Int)
    · clear hok c17
      go_wp2_with fail
      exact ret_pg8 Try.results8 rfl rfl H.out.1 rfl ⟨rfl, H.out.2⟩
    · have h100 : (100 : Int) < (b17 : Int) := by
        have h1 := HNO.out hok (by rw [← H11.out]; omega)
        rw [← H17.out] at h1
        omega
      have hd : decide ((127 : Int) < (b11 : Int)) = false := by simpa using h127
      clear hok
      go_wp2_with fail
      exact ret_pg8 Try.results8 rfl rfl H.out.1 rfl ⟨rfl, H.out.2⟩
end Go.Proofs.Ytdghanhpeekbhaa
