/-
  The walk of skeinref08's value.
-/
import Derived.Test.YtbagmmncjmbboaaGreatZQ3
import Derived.Test.YtbagmmncjmbboaaGreatZJ11
namespace Go.Proofs.YtbagmmncjmbboaaGreat
open Go.RowKit Go.Maps
set_option linter.unusedVariables false

theorem leV_cons8 (x : Nat) (r : List Nat) : leV (x :: r) = x + 256 * leV r := by simp [leV]

set_option maxHeartbeats 1000000 in
theorem refValue_any (w : World) (v : Value) (l : List Nat) (hv : RB w w.heap.size v l) (a n : Nat) (hl : a + n ≤ l.length) (hn : n ≤ 8) :
    Calls Tryz.prog 108 #[v, .int .i64 (a : Int), .int .i64 (n : Int)] w fun e w' => e = .returned (.int .u64 (leV ((l.drop a).take n) : Nat)) ∧ w' = w := by
  have HV := Lib.hid hv
  obtain ⟨m, hm⟩ : ∃ m, m = l.length := ⟨_, rfl⟩
  have hm2 : m ≤ 140737488355328 := by rw [hm]; exact hv.2.1
  obtain ⟨A, c, rfl, hc1, hc2, -, HC⟩ := hv.open_
  rw [← hm] at HV hc1 hl ⊢
  have HM := Lib.hid hm
  have hcell : Hid (∀ j : Nat, j < m → ∃ g off, A = some ⟨g, off, none⟩ ∧ w.cell? ⟨g, off + j, none⟩ = some (.int .u8 ((l.getD j 0 : Nat) : Int)) ∧ l.getD j 0 < 256) := Lib.hid (fun j hj => by
    obtain ⟨g', off', e', _, h1, h2⟩ := HC.out j (by rw [← HM.out]; exact hj)
    have hd : l.getD j 0 = l[j]'(by rw [← HM.out]; exact hj) := by simp [List.getD, ← HM.out, hj]
    rw [hd]
    exact ⟨g', off', e', h1, h2⟩)
  clear hv hm HC
  have hw1 : IntKind.i64.wrap ((a : Int) + (n : Int)) = (a : Int) + (n : Int) := by rw [IntKind.wrap_i64]; omega
  have hw2 : IntKind.i64.wrap ((a : Int) + (n : Int) - 1) = (a : Int) + (n : Int) - 1 := by rw [IntKind.wrap_i64]; omega
  go_enter Tryz.func108, Tryz.ntmps108
  go_wp2_with fail
  go_loopw [7, 8] (fun u i wr => ∃ (k un : Nat), k ≤ n ∧ i = .int .i64 ((a : Int) + (n : Int) - 1 - (k : Int)) ∧ u = .int .u64 (un : Int) ∧ Hid (un = leV ((l.drop (a + n - k)).take k)) ∧ Hid (un < 256 ^ k) ∧ wr = w) (fun u i wr => ((intOf i) + 1 - (a : Int)).toNat)
  case atStart => exact ⟨0, 0, by omega, by simp, rfl, Lib.hid (by simp [leV]), Lib.hid (by simp), rfl⟩
  case round =>
    obtain ⟨k, un, hk, rfl, rfl, HU, HUB, rfl⟩ := hrel
    by_cases hk0 : k < n
    · obtain ⟨j, hj⟩ : ∃ j : Nat, j = a + n - 1 - k := ⟨_, rfl⟩
      have hjm : j < m := by omega
      obtain ⟨g, off, rfl, z, hz⟩ := hcell.out j hjm
      obtain ⟨x, hx⟩ : ∃ x, x = l.getD j 0 := ⟨_, rfl⟩
      rw [← hx] at z hz
      have hji : (a : Int) + (n : Int) - 1 - (k : Int) = (j : Int) := by omega
      have hub : un < 72057594037927936 := by
        have h1 := HUB.out
        have h2 : 256 ^ k ≤ 256 ^ 7 := Nat.pow_le_pow_right (by omega) (by omega)
        have h3 : (256 : Nat) ^ 7 = 72057594037927936 := by decide
        omega
      have haj : (a : Int) ≤ (j : Int) := by omega
      have hjmi : (j : Int) < (m : Int) := by omega
      have hw3 : IntKind.u64.wrap ((un : Int) * 256) = (un : Int) * 256 := by rw [IntKind.wrap_u64]; omega
      have hw4 : IntKind.u64.wrap ((un : Int) * 256 + (x : Int)) = (un : Int) * 256 + (x : Int) := by rw [IntKind.wrap_u64]; omega
      have hw5 : IntKind.u64.wrap (x : Int) = (x : Int) := by rw [IntKind.wrap_u64]; omega
      have hw6 : IntKind.i64.wrap ((j : Int) - 1) = (j : Int) - 1 := by rw [IntKind.wrap_i64]; omega
      have HX := Lib.hid hx
      rw [hji]
      have HJ := Lib.hid hj
      have hju : ((j : Int) - (1 : Int)) = (a : Int) + (n : Int) - 1 - ((k + 1 : Nat) : Int) := by omega
      have HJU := Lib.hid hju
      clear hx hj hji hju
      go_wp2_with fail
      go_roundw
      case rel =>
        have hj := HJ.out
        have hjl : j < l.length := by rw [← HM.out]; exact hjm
        have hd : (l.drop (a + n - (k + 1))).take (k + 1) = x :: (l.drop (a + n - k)).take k := by
          rw [show a + n - (k + 1) = j by omega, show a + n - k = j + 1 by omega, List.drop_eq_getElem_cons hjl, List.take_succ_cons]
          congr 1
          rw [HX.out]
          simp [List.getD, hjl]
        refine ⟨k + 1, un * 256 + x, by omega, by first | rfl | (rw [← HJU.out]) | (congr 1; omega), by first | rfl | simp, Lib.hid ?_, Lib.hid ?_, by first | rfl | trivial⟩
        · rw [hd, leV_cons8, ← HU.out]; omega
        · have h1 := HUB.out
          rw [Nat.pow_succ]
          omega
      case measure => have hj := HJ.out; simp [intOf] <;> omega
    · obtain rfl : k = n := by omega
      have e1 : un = leV ((l.drop a).take k) := by
        have := HU.out
        rw [show a + k - k = a by omega] at this
        exact this
      have hno : ¬ (a : Int) ≤ (a : Int) + (k : Int) - 1 - (k : Int) := by omega
      have E1 := Lib.hid e1
      clear e1
      go_wp2_with fail
      go_ret
      rw [E1.out]
      exact ⟨rfl, rfl⟩

end Go.Proofs.YtbagmmncjmbboaaGreat

/-
  The walk of skeinref08's Parse at bytes whose head is wrong.
-/
namespace Go.Proofs.YtbagmmncjmbboaaGreat
open Go.RowKit Go.Maps
set_option linter.unusedVariables false

theorem open_sum {L : List Nat} (hl : L.length = 512) (hb : ∀ x ∈ L, x < 256) : openOk L = true ↔ leV (L.take 4) = crcSum (L.drop 4) := by
  have hc : crcSum (L.drop 4) < 4294967296 := crcSum_lt _ (fun x hx => hb x (List.mem_of_mem_drop hx))
  have h4 : (L.take 4).length = 4 := by rw [List.length_take]; omega
  unfold openOk
  rw [decide_eq_true_iff, ← digits_four _ hc]
  constructor
  · rintro ⟨-, h⟩
    rw [h]
    exact leV_digits_of (by have : (256 : Nat) ^ 4 = 4294967296 := by decide
                            omega)
  · intro h
    refine ⟨by omega, ?_⟩
    have h5 := digits_leV (L.take 4) (fun x hx => hb x (List.mem_of_mem_take hx))
    rw [h4, h] at h5
    exact h5.symm

theorem lsn_top {L : List Nat} (hl : L.length = 512) (hb : ∀ x ∈ L, x < 256) : leV ((L.drop 4).take 8) ≤ 9223372036854775807 ↔ L.getD 11 0 ≤ 127 := by
  have hl7 : 7 < (L.drop 4).length := by rw [List.length_drop]; omega
  obtain ⟨h1, h2⟩ := leV_take (l := L.drop 4) (fun x hx => hb x (List.mem_of_mem_drop hx)) 7 hl7
  have h3 : (L.drop 4)[7] = L.getD 11 0 := by
    have h11 : 11 < L.length := by omega
    simp [List.getD, h11]
  have h4 : (256 : Nat) ^ 7 = 72057594037927936 := by decide
  rw [h3] at h2
  rw [h4] at h1 h2
  rw [show (8 : Nat) = 7 + 1 from rfl, h2]
  constructor <;> intro h <;> omega

/-- What Parse says of bytes that are no page. -/
def NoPg (w : World) (e : Ending) (w' : World) : Prop := e = .returned (.tuple #[refP none 0 0, .bool false]) ∧ Below w.heap.size w w'

set_option maxRecDepth 100000 in
set_option maxHeartbeats 1000000 in
theorem refPg_len (w : World) (A : Option Addr) (n c : Nat) (hn : n ≠ 512) :
    Calls Tryz.prog 83 #[.slice A n c] w (NoPg w) := by
  have hne : ((n : Int) == 512) = false := by simpa using (by omega : ¬ (n : Int) = 512)
  have hne2 : ((n : Int) != 512) = true := by simpa using hne
  have hB := Blk.new w 97 #[.int .i64 0, .int .u8 0, .int .u32 0, .slice none 0 0]
  have hw : Below w.heap.size w (w.alloc (.cells #[.int .i64 0, .int .u8 0, .int .u32 0, .slice none 0 0] 97)) := (Below.refl _ _).alloc (Nat.le_refl _) _
  have H := Lib.hid (And.intro hB hw)
  clear hB hw
  go_enter Tryz.func83, Tryz.ntmps83
  go_wp2_with fail
  exact ret_pg8 Tryz.results83 rfl rfl H.out.1 rfl ⟨rfl, H.out.2⟩

set_option maxRecDepth 100000 in
set_option maxHeartbeats 2000000 in
theorem refPg_head (w : World) (L : List Nat) (A : Option Addr) (c : Nat) (hv : RB w w.heap.size (.slice A 512 c) L) (hl : L.length = 512) (hno : ¬ HeadOk L) :
    Calls Tryz.prog 83 #[.slice A 512 c] w (NoPg w) := by
  have HV := Lib.hid hv
  have HL := Lib.hid hl
  have hb := hv.1
  have HB256 := Lib.hid hb
  obtain ⟨A', c', e, hc1, hc2, -, HC⟩ := hv.open_
  have hcell : Hid (∀ j : Nat, j < 512 → ∃ g off, A = some ⟨g, off, none⟩ ∧ g < w.heap.size ∧ w.cell? ⟨g, off + j, none⟩ = some (.int .u8 ((L.getD j 0 : Nat) : Int)) ∧ L.getD j 0 < 256) := Lib.hid (fun j hj => by
    obtain ⟨g', off', e', hg, h1, h2⟩ := HC j (by omega)
    injection e with e1 e2 e3
    have hd : L.getD j 0 = L[j]'(by omega) := by simp [List.getD, hl, hj]
    rw [hd, e1]
    exact ⟨g', off', e', hg, h1, h2⟩)
  have hos := open_sum hl hb
  have hlt := lsn_top hl hb
  have hno2 : openOk L = true → L.getD 11 0 ≤ 127 → ¬ L.getD 17 0 ≤ 100 := fun h1 h2 h3 => hno ⟨hl, hos.1 h1, hlt.2 h2, h3⟩
  have HNO := Lib.hid hno2
  obtain ⟨g, off, rfl, hg, z11, y11⟩ := hcell.out 11 (by omega)
  obtain ⟨g2, off2, e2, -, z17, y17⟩ := hcell.out 17 (by omega)
  injection e2 with e2
  injection e2 with e3 e4
  subst e3 e4
  have hB := Blk.new w 97 #[.int .i64 0, .int .u8 0, .int .u32 0, .slice none 0 0]
  have hw : Below w.heap.size w (w.alloc (.cells #[.int .i64 0, .int .u8 0, .int .u32 0, .slice none 0 0] 97)) := (Below.refl _ _).alloc (Nat.le_refl _) _
  have HBL := Lib.hid hB
  have HW := Lib.hid hw
  have R1 : Hid (RB (w.alloc (.cells #[.int .i64 0, .int .u8 0, .int .u32 0, .slice none 0 0] 97)) (w.alloc (.cells #[.int .i64 0, .int .u8 0, .int .u32 0, .slice none 0 0] 97)).heap.size (.slice (some ⟨g, off, none⟩) 512 c) L) := Lib.hid ((HV.out.alloc (Nat.le_refl _) _).more (by simp))
  obtain ⟨b11, h11⟩ : ∃ b11, b11 = L.getD 11 0 := ⟨_, rfl⟩
  obtain ⟨b17, h17⟩ : ∃ b17, b17 = L.getD 17 0 := ⟨_, rfl⟩
  have Z11 := Lib.hid z11
  have Z17 := Lib.hid z17
  have H11 := Lib.hid h11
  have H17 := Lib.hid h17
  clear hv hl hb HC e hos hlt hno hno2 hB hw z11 z17 y11 y17 h11 h17
  go_enter Tryz.func83, Tryz.ntmps83
  go_wp2_with fail
  refine (open2_any _ L _ R1.out (by rw [HL.out]; omega)).mono ?_
  rintro e w1 ⟨v1, rfl, ho1, hb1⟩
  have hz := hb1.size
  rw [size_alloc_] at hz
  have hw1 : Below w.heap.size w w1 := HW.out.trans (hb1.mono (by simp))
  have hK := HBL.out.below hb1 HBL.out.lt
  have H := Lib.hid (over_page (x0 := .int .i64 0) (x1 := .int .u8 0) (x2 := .int .u32 0) (x3 := .slice none 0 0) hw1 (Nat.le_refl _) hK)
  have q0 : w1.cell? ⟨w.heap.size, 0, none⟩ = some (.int .i64 0) := hK.cell 0
  have q1 : w1.cell? ⟨w.heap.size, 1, none⟩ = some (.int .u8 0) := hK.cell 1
  have q2 : w1.cell? ⟨w.heap.size, 2, none⟩ = some (.int .u32 0) := hK.cell 2
  have q3 : w1.cell? ⟨w.heap.size, 3, none⟩ = some (.slice none 0 0) := hK.cell 3
  have f0 := hK.frozen 0
  have f1 := hK.frozen 1
  have f2 := hK.frozen 2
  have f3 := hK.frozen 3
  have hKlt := hK.lt
  have c11 : w1.cell? ⟨g, off + 11, none⟩ = some (.int .u8 (b11 : Int)) := by rw [H11.out]; exact (hw1.cell (p := ⟨g, off + 11, none⟩) hg).trans Z11.out
  have c17 : w1.cell? ⟨g, off + 17, none⟩ = some (.int .u8 (b17 : Int)) := by rw [H17.out]; exact (hw1.cell (p := ⟨g, off + 17, none⟩) hg).trans Z17.out
  obtain ⟨A1, c1, rfl, -, -, -, -⟩ := ho1.rbn.open_
  obtain ⟨n1, hn1⟩ : ∃ n1, n1 = (openL L).length := ⟨_, rfl⟩
  rw [← hn1]
  clear ho1 hb1 hz hn1 hK
  cases hok : openOk L with
  | false =>
    clear hok c11 c17
    go_wp2_with fail
    exact ret_pg8 Tryz.results83 rfl rfl H.out.1 rfl ⟨rfl, H.out.2⟩
  | true =>
    have HOK := Lib.hid hok
    by_cases h127 : (127 : Int) < (b11 : Int)
    · clear hok c17
      go_wp2_with fail
      exact ret_pg8 Tryz.results83 rfl rfl H.out.1 rfl ⟨rfl, H.out.2⟩
    · have h100 : (100 : Int) < (b17 : Int) := by
        have h1 := HNO.out hok (by rw [← H11.out]; omega)
        rw [← H17.out] at h1
        omega
      have hd : decide ((127 : Int) < (b11 : Int)) = false := by simpa using h127
      clear hok
      go_wp2_with fail
      exact ret_pg8 Tryz.results83 rfl rfl H.out.1 rfl ⟨rfl, H.out.2⟩

end Go.Proofs.YtbagmmncjmbboaaGreat

/-
  The walks of skeinref08's Used and Room at a row of items.
-/
namespace Go.Proofs.YtbagmmncjmbboaaGreat
open Go.RowKit Go.Maps
set_option linter.unusedVariables false

/-- A row of slices whose lengths are those of the texts L. -/
structure LenRow (w : World) (v : Value) (L : List (List Nat)) (ys : List Sl) : Prop where
  rk : RK encSl 1 w w.heap.size v ys
  len : ys.length = L.length
  at_ : ∀ (j : Nat) y l, ys[j]? = some y → L[j]? = some l → y.2.1 = l.length

/-- A row of texts that is new from B on. -/
structure NewTxt (w : World) (B : Nat) (v : Value) (L : List (List Nat)) (ys : List Sl) : Prop where
  ok : OK encSl 1 22 w B v ys
  len : ys.length = L.length
  at_ : ∀ (j : Nat) y l, ys[j]? = some y → L[j]? = some l → OB w B (slV y) l

/-- skeinref08's page. -/
def refPg (ls kd ex : Nat) (v : Value) : Value := .agg #[.int .i64 (ls : Int), .int .u8 (kd : Int), .int .u32 (ex : Int), v]

theorem LenRow.open_ {w : World} {v : Value} {L : List (List Nat)} {ys : List Sl} (h : LenRow w v L ys) : ∃ A c, v = .slice A L.length c ∧ Hid (∀ i (hi : i < L.length), ∃ b o, A = some ⟨b, o, none⟩ ∧ b < w.heap.size ∧ ∃ A2 c2, w.cell? ⟨b, o + i, none⟩ = some (.slice A2 L[i].length c2)) := by
  obtain ⟨A, c, e, _, _, _, HA⟩ := h.rk.open_
  refine ⟨A, c, by rw [e, h.len], Lib.hid fun i hi => ?_⟩
  have hiy : i < ys.length := by rw [h.len]; exact hi
  obtain ⟨b, o, rfl, hb, hx⟩ := HA.out i hiy
  have h1 := h.at_ i _ _ (List.getElem?_eq_getElem hiy) (List.getElem?_eq_getElem hi)
  refine ⟨b, o, rfl, hb, ys[i].1, ys[i].2.2, ?_⟩
  have := hx 0 _ rfl
  rw [← h1]
  simpa using this

set_option maxHeartbeats 1000000 in
theorem refUsed_row (w : World) (v : Value) (L : List (List Nat)) (ys : List Sl) (ls kd ex : Nat) (h : LenRow w v L ys) (hf : 18 + 2 * L.length + (L.map List.length).sum ≤ 512) :
    Calls Tryz.prog 124 #[refPg ls kd ex v] w fun e w' => e = .returned (.int .i64 ((18 + 2 * L.length + (L.map List.length).sum : Nat) : Int)) ∧ Below w.heap.size w w' := by
  obtain ⟨A, c, rfl, HC⟩ := h.open_
  obtain ⟨n, hn⟩ : ∃ n, n = L.length := ⟨_, rfl⟩
  obtain ⟨sm, hsm⟩ : ∃ sm, sm = (L.map List.length).sum := ⟨_, rfl⟩
  rw [← hn, ← hsm] at hf
  rw [← hn, ← hsm]
  obtain ⟨W, hW⟩ : ∃ W, W = w.alloc (.cells #[.int .i64 (ls : Int), .int .u8 (kd : Int), .int .u32 (ex : Int), .slice A n c] 97) := ⟨_, rfl⟩
  have hB : Blk W w.heap.size 97 #[.int .i64 (ls : Int), .int .u8 (kd : Int), .int .u32 (ex : Int), .slice A n c] := by rw [hW]; exact Blk.new _ _ _
  have hb : Below w.heap.size w W := by rw [hW]; exact (Below.refl _ _).alloc (Nat.le_refl _) _
  have c3 : W.cell? ⟨w.heap.size, 3, none⟩ = some (.slice A n c) := hB.cell 3
  have HB := Lib.hid hb
  have HN := Lib.hid hn
  have HSM := Lib.hid hsm
  have hmono : Hid (∀ k, sumTo L k ≤ sm) := Lib.hid fun k => by rw [HSM.out]; exact sumTo_mono
  unfold refPg
  clear h hn hsm hB hb
  go_enter Tryz.func124, Tryz.ntmps124
  go_wp2_with fail
  rw [← hW]
  clear hW
  go_loopw [3, 4] (fun x i wr => ∃ k t : Nat, k ≤ n ∧ i = .int .i64 (k : Int) ∧ x = .int .i64 (t : Int) ∧ t ≤ 512 ∧ Hid (t = 18 + 2 * k + sumTo L k) ∧ wr = W) (fun x i wr => n - (intOf i).toNat)
  case atStart => exact ⟨0, 18, Nat.zero_le _, rfl, rfl, by omega, Lib.hid (by simp [sumTo]), rfl⟩
  case round =>
    obtain ⟨k, t, hk, rfl, rfl, ht, HT, rfl⟩ := hrel
    by_cases hlt : k < n
    · have hkl : k < L.length := by rw [← HN.out]; exact hlt
      obtain ⟨b, o, rfl, hbw, A2, c2, hcell⟩ := HC.out k hkl
      have hcw : wr.cell? ⟨b, o + k, none⟩ = some (.slice A2 L[k].length c2) := (HB.out.cell (p := ⟨b, o + k, none⟩) hbw).trans hcell
      obtain ⟨m, hm⟩ : ∃ m, m = L[k].length := ⟨_, rfl⟩
      rw [← hm] at hcw
      have hs := sumTo_succ hkl
      rw [← hm] at hs
      have hm1 := hmono.out (k + 1)
      have HTT : Hid (t + 2 + m = 18 + 2 * (k + 1) + sumTo L (k + 1)) := Lib.hid (by have := HT.out; omega)
      have ht2 : t + 2 + m ≤ 512 := by have := HTT.out; omega
      have hw1 : IntKind.i64.wrap ((t : Int) + 2) = (t : Int) + 2 := by rw [IntKind.wrap_i64]; omega
      have hw2 : IntKind.i64.wrap ((t : Int) + 2 + (m : Int)) = (t : Int) + 2 + (m : Int) := by rw [IntKind.wrap_i64]; omega
      clear hm hs hm1 hcell
      go_wp2_with fail
      (try go_quiet (fail))
      (try go_wp2_with fail)
      go_roundw
      case rel => exact ⟨k + 1, t + 2 + m, by omega, by go_num, by first | rfl | go_num, by omega, HTT, by first | rfl | trivial⟩
      case measure => simp [intOf]; omega
    · obtain rfl : k = n := by omega
      have hend : t = 18 + 2 * k + sm := by have := HT.out; rw [HN.out, sumTo_all, ← HSM.out, ← HN.out] at this; exact this
      have HEND := Lib.hid hend
      clear hend
      go_wp2_with fail
      go_ret
      exact ⟨by rw [← HEND.out]; rfl, HB.out⟩

/-- What Room answers at a page of n items that takes u bytes. -/
def roomI (n u : Nat) : Int := if 100 ≤ n ∨ 510 < u then -1 else if 200 < 510 - u then 200 else ((510 - u : Nat) : Int)

set_option maxHeartbeats 1000000 in
theorem refRoom_row (w : World) (v : Value) (L : List (List Nat)) (ys : List Sl) (ls kd ex : Nat) (h : LenRow w v L ys) (hf : 18 + 2 * L.length + (L.map List.length).sum ≤ 512) :
    Calls Tryz.prog 113 #[refPg ls kd ex v] w fun e w' => e = .returned (.int .i64 (roomI L.length (18 + 2 * L.length + (L.map List.length).sum))) ∧ Below w.heap.size w w' := by
  have H := Lib.hid h
  have HF := Lib.hid hf
  obtain ⟨A, c, rfl, -⟩ := h.open_
  obtain ⟨n, hn⟩ : ∃ n, n = L.length := ⟨_, rfl⟩
  obtain ⟨u, hu⟩ : ∃ u, u = 18 + 2 * L.length + (L.map List.length).sum := ⟨_, rfl⟩
  rw [← hu] at hf ⊢
  rw [← hn] at H ⊢
  have hn500 : n ≤ 500 := by omega
  obtain ⟨W, hW⟩ : ∃ W, W = w.alloc (.cells #[.int .i64 (ls : Int), .int .u8 (kd : Int), .int .u32 (ex : Int), .slice A n c] 97) := ⟨_, rfl⟩
  have hB : Blk W w.heap.size 97 #[.int .i64 (ls : Int), .int .u8 (kd : Int), .int .u32 (ex : Int), .slice A n c] := by rw [hW]; exact Blk.new _ _ _
  have hb : Below w.heap.size w W := by rw [hW]; exact (Below.refl _ _).alloc (Nat.le_refl _) _
  have q0 : W.cell? ⟨w.heap.size, 0, none⟩ = some (.int .i64 (ls : Int)) := hB.cell 0
  have q1 : W.cell? ⟨w.heap.size, 1, none⟩ = some (.int .u8 (kd : Int)) := hB.cell 1
  have q2 : W.cell? ⟨w.heap.size, 2, none⟩ = some (.int .u32 (ex : Int)) := hB.cell 2
  have q3 : W.cell? ⟨w.heap.size, 3, none⟩ = some (.slice A n c) := hB.cell 3
  have h2 : LenRow W (.slice A n c) L ys := ⟨(H.out.rk.below hb).more hb.size, H.out.len, H.out.at_⟩
  have HR := Lib.hid (refUsed_row W (.slice A n c) L ys ls kd ex h2 HF.out)
  have HB := Lib.hid hb
  have HBL := Lib.hid hB
  have HU := Lib.hid hu
  have hw1 : IntKind.i64.wrap (512 - (u : Int)) = 512 - (u : Int) := by rw [IntKind.wrap_i64]; omega
  have hw2 : IntKind.i64.wrap (512 - (u : Int) - 2) = 510 - (u : Int) := by rw [IntKind.wrap_i64]; omega
  obtain ⟨ri, hri⟩ : ∃ ri, ri = roomI n u := ⟨_, rfl⟩
  rw [← hri]
  have HRI := Lib.hid hri
  unfold refPg at HR ⊢
  clear h hn hu hB hb h2 hri
  go_enter Tryz.func113, Tryz.ntmps113
  go_wp2_with fail
  rw [← hW]
  clear hW
  refine HR.out.mono ?_
  rintro e w1 ⟨rfl, hb1⟩
  rw [← HU.out]
  have c3 : w1.cell? ⟨w.heap.size, 3, none⟩ = some (.slice A n c) := (HBL.out.below hb1 HBL.out.lt).cell 3
  have HB1 : Hid (Below w.heap.size w w1) := HB.out.trans (hb1.mono HB.out.size)
  clear hb1 q0 q1 q2 q3
  by_cases h1 : 100 ≤ n
  · have h1i : (100 : Int) ≤ (n : Int) := by omega
    have h1d : decide ((100 : Int) ≤ (n : Int)) = true := by simpa using h1i
    have HR2 : Hid (ri = -1) := Lib.hid (by rw [HRI.out]; exact if_pos (.inl h1))
    go_wp2_with fail
    go_ret
    exact ⟨by rw [HR2.out]; rfl, HB1.out⟩
  · have h1i : ¬ (100 : Int) ≤ (n : Int) := by omega
    have h1d : decide ((100 : Int) ≤ (n : Int)) = false := by simpa using h1i
    by_cases h3 : 510 < u
    · have h3i : 510 - (u : Int) < 0 := by omega
      have HR2 : Hid (ri = -1) := Lib.hid (by rw [HRI.out]; exact if_pos (.inr h3))
      go_wp2_with fail
      go_ret
      exact ⟨by rw [HR2.out]; rfl, HB1.out⟩
    · have h3i : ¬ 510 - (u : Int) < 0 := by omega
      have h3d : decide (510 - (u : Int) < 0) = false := by simpa using h3i
      have HR3 : Hid (ri = if 200 < 510 - u then 200 else ((510 - u : Nat) : Int)) := Lib.hid (by rw [HRI.out]; exact if_neg (by omega))
      by_cases h4 : 200 < 510 - u
      · have h4i : (200 : Int) < 510 - (u : Int) := by omega
        have HR2 : Hid (ri = 200) := Lib.hid (by rw [HR3.out]; exact if_pos h4)
        go_wp2_with fail
        go_ret
        exact ⟨by rw [HR2.out]; rfl, HB1.out⟩
      · have h4i : ¬ (200 : Int) < 510 - (u : Int) := by omega
        have HR2 : Hid (ri = 510 - (u : Int)) := Lib.hid (by rw [HR3.out, if_neg h4]; omega)
        go_wp2_with fail
        go_ret
        exact ⟨by rw [HR2.out]; rfl, HB1.out⟩

theorem room_pg (m : PG) (hf : 18 + 2 * m.items.length + (m.items.map List.length).sum ≤ 512) : m.room = roomI m.items.length (18 + 2 * m.items.length + (m.items.map List.length).sum) := by
  unfold PG.room roomI PG.free
  repeat' split
  all_goals first | omega | rfl | (simp [PG.used, sumTo_all] at *; omega)

end Go.Proofs.YtbagmmncjmbboaaGreat
