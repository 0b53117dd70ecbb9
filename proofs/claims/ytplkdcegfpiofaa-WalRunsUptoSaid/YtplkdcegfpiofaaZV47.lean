/-
  skeinref09's calls at an empty log and an empty disk.
-/
import Derived.Test.YtplkdcegfpiofaaYV433
import Derived.Test.YtplkdcegfpiofaaZC1
import Derived.Test.YtplkdcegfpiofaaZN1
import Derived.Test.YtplkdcegfpiofaaZH1
namespace Go.Proofs.Ytplkdcegfpiofaa
open Go.RowKit Go.Maps
set_option linter.unusedVariables false

/-- skeinref09.Log and skeinref07.Disk, empty; the log may be dead. -/
abbrev logC (d : Bool) : Array Value := #[.int .i64 0, .int .i64 0, .int .i64 0, .int .i64 0, .slice none 0 0, .int .i64 0, .slice none 0 0, .bool false, .bool d]
abbrev dskC : Array Value := #[.slice none 0 0, .slice none 0 0, .int .i64 0, .bool false]

set_option maxRecDepth 100000 in
set_option maxHeartbeats 1000000 in
theorem refRoom0 (w : World) : Calls Try.prog 125 #[.agg (logC false)] w fun e w' => e = .returned (.int .i64 0) ∧ Below w.heap.size w w' := by
  have h1 := Blk.new w 79 (logC false)
  have c1 : (w.alloc (.cells (logC false) 79)).cell? ⟨w.heap.size, 1, none⟩ = some (.int .i64 0) := h1.cell 1
  have c4 : (w.alloc (.cells (logC false) 79)).cell? ⟨w.heap.size, 4, none⟩ = some (.slice none 0 0) := h1.cell 4
  go_enter Try.func125, Try.ntmps125
  go_wp2_with fail
  go_ret
  exact ⟨by first | rfl | simp, (Below.refl _ _).alloc (Nat.le_refl _) _⟩

set_option maxRecDepth 100000 in
set_option maxHeartbeats 1000000 in
theorem refFlush0 (w : World) : Calls Try.prog 89 #[.agg dskC, .agg (logC false)] w fun e w' => e = .returned (.tuple #[.agg dskC, .agg (logC false), .int .i64 0]) ∧ Below w.heap.size w w' := by
  go_enter Try.func89, Try.ntmps89
  go_wp2_with fail
  go_region
  all_goals (
    go_wp2_with fail
    refine bodyPost_ret (v := .tuple #[.agg dskC, .agg (logC false), .int .i64 0]) ?_ rfl ⟨rfl, ?_⟩
    · simp only [results, Try.results89]
      go_simp
    · exact ((((((Below.refl _ _).alloc (Nat.le_refl _) _).alloc (by simp) _).alloc (by simp; omega) _).alloc (by simp; omega) _)).drew)

set_option maxRecDepth 100000 in
set_option maxHeartbeats 1000000 in
theorem refBuild_any (w : World) : Calls Try.prog 126 #[.int .i64 1, .slice none 0 0] w fun e w' => ∃ A n c l, e = .returned (.slice A n c) ∧ OB w' w.heap.size (.slice A n c) l ∧ Below w.heap.size w w' := by
  have H0 : Hid (OB (w.alloc (.cells #[] 5)) w.heap.size (.slice (some ⟨w.heap.size, 0, none⟩) 0 0) []) := Lib.hid (by
    exact OB.made w w.heap.size #[] 0 (Nat.le_refl _) (by omega) rfl)
  go_enter Try.func126, Try.ntmps126
  go_wp2_with fail
  go_loopw [5, 6, 7] (fun b uu i wr => ∃ (k u : Nat) (A : Option Addr) (c : Nat) (l : List Nat), i = .int .i64 (k : Int) ∧ uu = .int .u64 (u : Int) ∧ b = .slice A k c ∧ k ≤ 8 ∧ u ≤ 1 ∧ Hid (l.length = k) ∧ Hid (OB wr w.heap.size (.slice A k c) l) ∧ Hid (Below w.heap.size w wr)) (fun b uu i wr => 8 - (intOf i).toNat)
  case atStart => exact ⟨0, 1, _, 0, [], rfl, rfl, rfl, by omega, by omega, Lib.hid rfl, H0, Lib.hid ((Below.refl _ _).alloc (Nat.le_refl _) _)⟩
  case round =>
    obtain ⟨k, u, A, c, l, rfl, rfl, rfl, hk, hu, HLN, HO, HB⟩ := hrel
    by_cases hk8 : k < 8
    · have hu1 : (u : Int) % 256 = (u : Int) := by omega
      have hu2 : (u : Int).tmod 256 = (u : Int) := by rw [Int.tmod_eq_emod_of_nonneg (by omega)]; exact hu1
      have hu3 : (u : Int) / 256 = 0 := by omega
      have hu4 : (u : Int).tdiv 256 = 0 := by rw [Int.tdiv_eq_ediv_of_nonneg (by omega)]; exact hu3
      have hw8 : IntKind.u8.wrap (u : Int) = (u : Int) := by rw [IntKind.wrap_u8]; omega
      go_wp2_with (at_builtin; go_must (refine wpList_app1 (w0 := w) rfl (.tmp 15) (.tmp 19) rfl w.heap.size _ _ rfl HO.out HB.out (Nat.le_refl _) _ u rfl (by omega) rfl (by rw [HLN.out]; omega) ?_); intro v' w1' ho1 hb1 _; have HO1 := Lib.hid ho1; have HB1' := Lib.hid hb1; have hf1 : ∃ A1 c1, v' = .slice A1 (k + 1) c1 := (by obtain ⟨A1, c1, e, _, _, _, _⟩ := ho1.rbn.open_; rw [List.length_append, List.length_singleton, HLN.out] at e; exact ⟨_, _, e⟩); obtain ⟨A1, c1, rfl⟩ := hf1; clear ho1 hb1)
      go_roundw
      case rel => exact ⟨k + 1, 0, A1, c1, _, by go_num, by first | rfl | simp, rfl, by omega, by omega, Lib.hid (by rw [List.length_append, List.length_singleton, HLN.out]), HO1, HB1'⟩
      case measure => simp [intOf]; omega
    · obtain rfl : k = 8 := by omega
      go_wp2_with (first
        | (at_builtin; (refine wpList_app1 (w0 := w) rfl (.tmp 23) (.tmp 28) rfl w.heap.size _ _ rfl HO.out HB.out (Nat.le_refl _) _ 0 rfl (by omega) rfl (by rw [HLN.out]; omega) ?_); intro v' w1' ho1 hb1 _; have HO1 := Lib.hid ho1; have HB1' := Lib.hid hb1; have hf1 : ∃ A1 c1, v' = .slice A1 9 c1 := (by obtain ⟨A1, c1, e, _, _, _, _⟩ := ho1.rbn.open_; rw [List.length_append, List.length_singleton, HLN.out] at e; exact ⟨_, _, e⟩); obtain ⟨A1, c1, rfl⟩ := hf1; clear ho1 hb1)
        | (at_builtin; (refine wpList_app1 (w0 := w) rfl (.tmp 30) (.tmp 35) rfl w.heap.size _ _ rfl HO1.out HB1'.out (Nat.le_refl _) _ 0 rfl (by omega) rfl (by simp [HLN.out]) ?_); intro v' w2' ho1 hb1 _; have HO2 := Lib.hid ho1; have HB2' := Lib.hid hb1; have hf1 : ∃ A2 c2, v' = .slice A2 10 c2 := (by obtain ⟨A1, c1, e, _, _, _, _⟩ := ho1.rbn.open_; rw [List.length_append, List.length_append, List.length_singleton, HLN.out] at e; exact ⟨_, _, e⟩); obtain ⟨A2, c2, rfl⟩ := hf1; clear ho1 hb1))
      refine (cat_any _ _ (l ++ [0] ++ [0]) [] w2' HO2.out.rbn (RB.nil _ _) (by simp [HLN.out])).mono ?_
      rw [List.append_nil]
      rintro e w3 ⟨v3, rfl, ho3, hb3⟩
      have hf3 : ∃ A3 c3, v3 = .slice A3 10 c3 := by
        obtain ⟨A1, c1, e, _, _, _, _⟩ := ho3.rbn.open_
        rw [List.length_append, List.length_append, List.length_singleton, HLN.out] at e
        exact ⟨_, _, e⟩
      obtain ⟨A3, c3, rfl⟩ := hf3
      have HO3 := Lib.hid (ho3.base HB2'.out.size)
      have HB3 : Hid (Below w.heap.size w w3) := Lib.hid (HB2'.out.trans (hb3.mono HB2'.out.size))
      have HL3 : Hid ((l ++ [0] ++ [0]).length = 10) := Lib.hid (by simp [HLN.out])
      clear ho3 hb3
      go_wp2_with fail
      go_loopw [5] (fun b wr => ∃ (k : Nat) (A : Option Addr) (c : Nat) (l : List Nat), b = .slice A k c ∧ k ≤ 508 ∧ Hid (l.length = k) ∧ Hid (OB wr w.heap.size (.slice A k c) l) ∧ Hid (Below w.heap.size w wr)) (fun b wr => 508 - slN b)
      case atStart => exact ⟨10, A3, c3, _, rfl, by omega, HL3, HO3, HB3⟩
      case round =>
        obtain ⟨k, A, c, l, rfl, hk, HLN, HO, HB⟩ := hrel
        by_cases hk8 : k < 508
        · go_wp2_with (at_builtin; go_must (refine wpList_app1 (w0 := w) rfl (.tmp 43) (.tmp 44) rfl w.heap.size _ _ rfl HO.out HB.out (Nat.le_refl _) _ 0 rfl (by omega) rfl (by rw [HLN.out]; omega) ?_); intro v' w1' ho1 hb1 _; have HO1 := Lib.hid ho1; have HB1' := Lib.hid hb1; have hf1 : ∃ A1 c1, v' = .slice A1 (k + 1) c1 := (by obtain ⟨A1, c1, e, _, _, _, _⟩ := ho1.rbn.open_; rw [List.length_append, List.length_singleton, HLN.out] at e; exact ⟨_, _, e⟩); obtain ⟨A1, c1, rfl⟩ := hf1; clear ho1 hb1)
          go_roundw
          case rel => exact ⟨k + 1, A1, c1, _, rfl, by omega, Lib.hid (by rw [List.length_append, List.length_singleton, HLN.out]), HO1, HB1'⟩
          case measure => simp only [slN]; omega
        · go_wp2_with fail
          refine (seal2_any _ l wr HO.out.rbn (by rw [HLN.out]; omega)).mono ?_
          rintro e w5 ⟨v5, rfl, ho5, hb5⟩
          have HO5 := Lib.hid (ho5.base HB.out.size)
          have HB5 : Hid (Below w.heap.size w w5) := Lib.hid (HB.out.trans (hb5.mono HB.out.size))
          have hf5 : ∃ A5 n5 c5, v5 = .slice A5 n5 c5 := by obtain ⟨A, c, h, _⟩ := ho5.rbn.open_; exact ⟨_, _, _, h⟩
          obtain ⟨A5, n5, c5, rfl⟩ := hf5
          clear ho5 hb5
          go_wp2_with fail
          go_ret
          exact ⟨_, _, _, _, rfl, HO5.out, HB5.out⟩

set_option maxRecDepth 100000 in
set_option maxHeartbeats 1000000 in
theorem refWrite0 (w : World) (A : Option Addr) (n c : Nat) : Calls Try.prog 50 #[.agg dskC, .int .i64 0, .slice A n c] w fun e w' => e = .returned (.tuple #[.agg dskC, .int .i64 1]) ∧ Below w.heap.size w w' := by
  go_enter Try.func50, Try.ntmps50
  go_wp2_with fail
  all_goals (
    refine bodyPost_ret (v := .tuple #[.agg dskC, .int .i64 1]) ?_ rfl ⟨rfl, ?_⟩
    · simp only [results, Try.results50]
      go_simp
    · exact (((Below.refl _ _).alloc (Nat.le_refl _) _).alloc (by simp) _))
end Go.Proofs.Ytplkdcegfpiofaa

/-
  skeinref09's Append and Reset at an empty log and an empty disk.
-/
namespace Go.Proofs.Ytplkdcegfpiofaa
open Go.RowKit Go.Maps
set_option linter.unusedVariables false

set_option maxRecDepth 100000 in
set_option maxHeartbeats 2000000 in
theorem refAppend0 (w : World) (n : Int) (v : Value) (l : List Nat) (hv : RB w w.heap.size v l) :
    Calls Try.prog 88 #[.agg (logC false), .int .i64 n, v] w fun e w' => (∃ f : Int, e = .returned (.tuple #[.agg (logC false), .int .i64 0, .int .i64 f])) ∧ Below w.heap.size w w' := by
  obtain ⟨A, c, rfl, h1, h2, -, -⟩ := hv.open_
  obtain ⟨L, hL⟩ : ∃ L, L = l.length := ⟨_, rfl⟩
  rw [← hL] at hv h1 ⊢
  have HV := Lib.hid hv
  have HL := Lib.hid hL
  have hk1 : Blk ((w.alloc (.cells (logC false) 79)).alloc (.cells (logC false) 79)) (w.heap.size + 1) 79 (logC false) := by
    have := Blk.new (w.alloc (.cells (logC false) 79)) 79 (logC false)
    rwa [size_alloc_] at this
  have hbw : Below w.heap.size w ((w.alloc (.cells (logC false) 79)).alloc (.cells (logC false) 79)) := ((Below.refl _ _).alloc (Nat.le_refl _) _).alloc (by simp) _
  have hfin : ∀ (W : World) (f : Int) (a : Act), Blk W (w.heap.size + 1) 79 (logC false) → Below w.heap.size w W → a.tmps.getD 6 undef = .pointer (some ⟨w.heap.size + 1, 0, none⟩) → a.tmps.getD 7 undef = .int .i64 0 → a.tmps.getD 8 undef = .int .i64 f → a.defers = [] →
      bodyPost Try.prog Try.f88 (fun e w' => (∃ f : Int, e = .returned (.tuple #[.agg (logC false), .int .i64 0, .int .i64 f])) ∧ Below w.heap.size w w') .ret a W := by
    intro W f a hk hb t6 t7 t8 hd
    have z0 : W.cell? ⟨w.heap.size + 1, 0, none⟩ = some (.int .i64 0) := hk.cell 0
    have z1 : W.cell? ⟨w.heap.size + 1, 1, none⟩ = some (.int .i64 0) := hk.cell 1
    have z2 : W.cell? ⟨w.heap.size + 1, 2, none⟩ = some (.int .i64 0) := hk.cell 2
    have z3 : W.cell? ⟨w.heap.size + 1, 3, none⟩ = some (.int .i64 0) := hk.cell 3
    have z4 : W.cell? ⟨w.heap.size + 1, 4, none⟩ = some (.slice none 0 0) := hk.cell 4
    have z5 : W.cell? ⟨w.heap.size + 1, 5, none⟩ = some (.int .i64 0) := hk.cell 5
    have z6 : W.cell? ⟨w.heap.size + 1, 6, none⟩ = some (.slice none 0 0) := hk.cell 6
    have z7 : W.cell? ⟨w.heap.size + 1, 7, none⟩ = some (.bool false) := hk.cell 7
    have z8 : W.cell? ⟨w.heap.size + 1, 8, none⟩ = some (.bool false) := hk.cell 8
    have t6' : a.tmps[6]?.getD undef = .pointer (some ⟨w.heap.size + 1, 0, none⟩) := by simpa using t6
    have t7' : a.tmps[7]?.getD undef = .int .i64 0 := by simpa using t7
    have t8' : a.tmps[8]?.getD undef = .int .i64 f := by simpa using t8
    refine bodyPost_ret (v := .tuple #[.agg (logC false), .int .i64 0, .int .i64 f]) ?_ hd ⟨⟨f, rfl⟩, ?_⟩
    · simp only [results, Try.results88]
      go_simp
    · exact hb
  have HF := Lib.hid hfin
  have HK1 := Lib.hid hk1
  have HBW := Lib.hid hbw
  clear hv hL hfin hk1 hbw
  go_enter Try.func88, Try.ntmps88
  by_cases a1 : n < 1
  · go_wp2_with fail
    exact HF.out _ 1 _ HK1.out HBW.out rfl rfl rfl rfl
  · by_cases a2 : 255 < n
    · go_wp2_with fail
      exact HF.out _ 1 _ HK1.out HBW.out rfl rfl rfl rfl
    · by_cases a3 : 1200 < L
      · have a3i : (1200 : Int) < (L : Int) := by omega
        go_wp2_with fail
        exact HF.out _ 4 _ HK1.out HBW.out rfl rfl rfl rfl
      · have a3i : ¬ (1200 : Int) < (L : Int) := by omega
        obtain ⟨k, rfl⟩ : ∃ k : Nat, n = (k : Int) := ⟨n.toNat, by omega⟩
        have hk256 : k < 256 := by omega
        have hw : IntKind.u8.wrap (k : Int) = (k : Int) := by rw [IntKind.wrap_u8]; omega
        have HL12 : Hid (l.length ≤ 1200) := Lib.hid (by rw [← HL.out]; omega)
        go_wp2_with fail
        obtain ⟨W1, hW1⟩ : ∃ W1, W1 = (w.alloc (.cells (logC false) 79)).alloc (.cells (logC false) 79) := ⟨_, rfl⟩
        rw [show ((w.alloc (.cells (logC false) 79)).alloc (.cells #[.int .i64 0, .int .i64 0, .int .i64 0, .int .i64 0, .slice none 0 0, .int .i64 0, .slice none 0 0, .bool false, .bool false] 79)) = W1 from hW1.symm]
        have hz1 : W1.heap.size = w.heap.size + 2 := by rw [hW1]; simp
        have hb1 : Below w.heap.size w W1 := by rw [hW1]; exact ((Below.refl _ _).alloc (Nat.le_refl _) _).alloc (by simp) _
        have k0 : Blk W1 w.heap.size 79 (logC false) := by rw [hW1]; exact (Blk.new w _ _).alloc _
        have k1 : Blk W1 (w.heap.size + 1) 79 (logC false) := by rw [hW1]; exact HK1.out
        have K1 := Lib.hid k1
        have HB1 := Lib.hid hb1
        have hz2 : w.heap.size + 1 + 1 = W1.heap.size := by omega
        rw [hz2]
        have hb2 : Below W1.heap.size W1 (W1.alloc (.cells #[.int .u8 (k : Int)] 5)) := (Below.refl _ _).alloc (Nat.le_refl _) _
        have HV2 : Hid (RB (W1.alloc (.cells #[.int .u8 (k : Int)] 5)) (W1.alloc (.cells #[.int .u8 (k : Int)] 5)).heap.size (.slice A L c) l) := Lib.hid ((HV.out.below (hb1.alloc hb1.size _)).more (by have := hb1.size; simp; omega))
        have HN2 : Hid (RB (W1.alloc (.cells #[.int .u8 (k : Int)] 5)) (W1.alloc (.cells #[.int .u8 (k : Int)] 5)).heap.size (.slice (some ⟨W1.heap.size, 0, none⟩) 1 1) [k]) := Lib.hid (RB.new1 W1 _ _ k 5 rfl hk256 (by simp))
        have K0 := Lib.hid k0
        have HZ1 : Hid (w.heap.size + 1 < W1.heap.size) := Lib.hid (by omega)
        clear hW1 hz1 hb1 k0 k1 hz2
        refine (rputText_any _ l _ HV2.out (by have := HL12.out; omega)).mono ?_
        rintro e w3 ⟨v3, rfl, ho3, hb3⟩
        have hf3 : ∃ A3 n3 c3, v3 = .slice A3 n3 c3 := by obtain ⟨A, c, h, _⟩ := ho3.rbn.open_; exact ⟨_, _, _, h⟩
        obtain ⟨A3, n3, c3, rfl⟩ := hf3
        have HO3 := Lib.hid ho3.rbn
        have HN3 := Lib.hid ((HN2.out.below hb3).more hb3.size)
        have HB3 : Hid (Below W1.heap.size W1 w3) := Lib.hid (hb2.trans (hb3.mono hb2.size))
        have HPL : Hid ((putL l.length).length ≤ 10) := Lib.hid (putL_1200 HL12.out)
        clear ho3 hb3 hb2
        go_wp2_with fail
        refine (cat_any _ _ [k] _ w3 HN3.out HO3.out (by rw [List.length_append]; have := HPL.out; have := HL12.out; simp; omega)).mono ?_
        rintro e w4 ⟨v4, rfl, ho4, hb4⟩
        have hf4 : ∃ A4 n4 c4, v4 = .slice A4 n4 c4 ∧ 0 < n4 ∧ n4 ≤ 1000000 := by
          obtain ⟨A, c, h, _⟩ := ho4.rbn.open_
          refine ⟨_, _, _, h, by simp, ?_⟩
          rw [List.length_append, List.length_append]; have := HPL.out; have := HL12.out; simp; omega
        obtain ⟨A4, n4, c4, rfl, hn4, hn4b⟩ := hf4
        have HB4 : Hid (Below W1.heap.size W1 w4) := Lib.hid (HB3.out.trans (hb4.mono HB3.out.size))
        have K4 : Hid (Blk w4 w.heap.size 79 (logC false)) := Lib.hid (K0.out.below HB4.out (by have := HZ1.out; omega))
        have q0 : w4.cell? ⟨w.heap.size, 0, none⟩ = some (.int .i64 0) := K4.out.cell 0
        have q1 : w4.cell? ⟨w.heap.size, 1, none⟩ = some (.int .i64 0) := K4.out.cell 1
        have q2 : w4.cell? ⟨w.heap.size, 2, none⟩ = some (.int .i64 0) := K4.out.cell 2
        have q3 : w4.cell? ⟨w.heap.size, 3, none⟩ = some (.int .i64 0) := K4.out.cell 3
        have q4 : w4.cell? ⟨w.heap.size, 4, none⟩ = some (.slice none 0 0) := K4.out.cell 4
        have q5 : w4.cell? ⟨w.heap.size, 5, none⟩ = some (.int .i64 0) := K4.out.cell 5
        have q6 : w4.cell? ⟨w.heap.size, 6, none⟩ = some (.slice none 0 0) := K4.out.cell 6
        have q7 : w4.cell? ⟨w.heap.size, 7, none⟩ = some (.bool false) := K4.out.cell 7
        have q8 : w4.cell? ⟨w.heap.size, 8, none⟩ = some (.bool false) := K4.out.cell 8
        clear ho4 hb4
        go_wp2_with fail
        refine (refRoom0 w4).mono ?_
        rintro e w5 ⟨rfl, hb5⟩
        have HB5 : Hid (Below W1.heap.size W1 w5) := Lib.hid (HB4.out.trans (hb5.mono HB4.out.size))
        have K5 : Hid (Blk w5 w.heap.size 79 (logC false)) := Lib.hid (K0.out.below HB5.out (by have := HZ1.out; omega))
        have R5 : Hid (Blk w5 (w.heap.size + 1) 79 (logC false)) := Lib.hid (K1.out.below HB5.out HZ1.out)
        have hn0 : (0 : Int) < (n4 : Int) := by omega
        have p0 : w5.cell? ⟨w.heap.size, 0, none⟩ = some (.int .i64 0) := K5.out.cell 0
        have s0 : w5.cell? ⟨w.heap.size + 1, 0, none⟩ = some (.int .i64 0) := R5.out.cell 0
        have f0 := R5.out.frozen 0
        have p1 : w5.cell? ⟨w.heap.size, 1, none⟩ = some (.int .i64 0) := K5.out.cell 1
        have s1 : w5.cell? ⟨w.heap.size + 1, 1, none⟩ = some (.int .i64 0) := R5.out.cell 1
        have f1 := R5.out.frozen 1
        have p2 : w5.cell? ⟨w.heap.size, 2, none⟩ = some (.int .i64 0) := K5.out.cell 2
        have s2 : w5.cell? ⟨w.heap.size + 1, 2, none⟩ = some (.int .i64 0) := R5.out.cell 2
        have f2 := R5.out.frozen 2
        have p3 : w5.cell? ⟨w.heap.size, 3, none⟩ = some (.int .i64 0) := K5.out.cell 3
        have s3 : w5.cell? ⟨w.heap.size + 1, 3, none⟩ = some (.int .i64 0) := R5.out.cell 3
        have f3 := R5.out.frozen 3
        have p4 : w5.cell? ⟨w.heap.size, 4, none⟩ = some (.slice none 0 0) := K5.out.cell 4
        have s4 : w5.cell? ⟨w.heap.size + 1, 4, none⟩ = some (.slice none 0 0) := R5.out.cell 4
        have f4 := R5.out.frozen 4
        have p5 : w5.cell? ⟨w.heap.size, 5, none⟩ = some (.int .i64 0) := K5.out.cell 5
        have s5 : w5.cell? ⟨w.heap.size + 1, 5, none⟩ = some (.int .i64 0) := R5.out.cell 5
        have f5 := R5.out.frozen 5
        have p6 : w5.cell? ⟨w.heap.size, 6, none⟩ = some (.slice none 0 0) := K5.out.cell 6
        have s6 : w5.cell? ⟨w.heap.size + 1, 6, none⟩ = some (.slice none 0 0) := R5.out.cell 6
        have f6 := R5.out.frozen 6
        have p7 : w5.cell? ⟨w.heap.size, 7, none⟩ = some (.bool false) := K5.out.cell 7
        have s7 : w5.cell? ⟨w.heap.size + 1, 7, none⟩ = some (.bool false) := R5.out.cell 7
        have f7 := R5.out.frozen 7
        have p8 : w5.cell? ⟨w.heap.size, 8, none⟩ = some (.bool false) := K5.out.cell 8
        have s8 : w5.cell? ⟨w.heap.size + 1, 8, none⟩ = some (.bool false) := R5.out.cell 8
        have f8 := R5.out.frozen 8
        clear q0 q1 q2 q3 q4 q5 q6 q7 q8 hb5
        go_wp2_with fail
        refine HF.out _ 90 _ (((((((((R5.out.set_ 0 _).set_ 1 _).set_ 2 _).set_ 3 _).set_ 4 _).set_ 5 _).set_ 6 _).set_ 7 _).set_ 8 _) ?_ rfl rfl rfl rfl
        exact (((((((((HB1.out.trans (HB5.out.mono HB1.out.size)).setCell (p := ⟨w.heap.size + 1, 0, none⟩) (Nat.le_succ _) _).setCell (p := ⟨w.heap.size + 1, 1, none⟩) (Nat.le_succ _) _).setCell (p := ⟨w.heap.size + 1, 2, none⟩) (Nat.le_succ _) _).setCell (p := ⟨w.heap.size + 1, 3, none⟩) (Nat.le_succ _) _).setCell (p := ⟨w.heap.size + 1, 4, none⟩) (Nat.le_succ _) _).setCell (p := ⟨w.heap.size + 1, 5, none⟩) (Nat.le_succ _) _).setCell (p := ⟨w.heap.size + 1, 6, none⟩) (Nat.le_succ _) _).setCell (p := ⟨w.heap.size + 1, 7, none⟩) (Nat.le_succ _) _).setCell (p := ⟨w.heap.size + 1, 8, none⟩) (Nat.le_succ _) _
end Go.Proofs.Ytplkdcegfpiofaa

/-
  skeinref09's Reset at an empty log and an empty disk.
-/
namespace Go.Proofs.Ytplkdcegfpiofaa
open Go.RowKit Go.Maps Go.Shelf
set_option linter.unusedVariables false

/-- The four blocks that Reset lays: its two arguments and its two results. -/
structure Res0 (w W : World) : Prop where
  d0 : Blk W w.heap.size 33 dskC
  l0 : Blk W (w.heap.size + 1) 79 (logC false)
  d1 : Blk W (w.heap.size + 2) 33 dskC
  l1 : Blk W (w.heap.size + 3) 79 (logC false)
  bel : Below w.heap.size w W
  size : w.heap.size + 4 ≤ W.heap.size
theorem Res0.below {w W W' : World} (h : Res0 w W) (hb : Below W.heap.size W W') : Res0 w W' :=
  ⟨h.d0.below hb h.d0.lt, h.l0.below hb h.l0.lt, h.d1.below hb h.d1.lt, h.l1.below hb h.l1.lt, h.bel.trans (hb.mono h.bel.size), Nat.le_trans h.size hb.size⟩
theorem res0 (w : World) : Res0 w ((((w.alloc (.cells dskC 33)).alloc (.cells (logC false) 79)).alloc (.cells dskC 33)).alloc (.cells (logC false) 79)) := by
  have h1 := ((((Blk.new w 33 dskC).alloc (.cells (logC false) 79)).alloc (.cells dskC 33)).alloc (.cells (logC false) 79))
  have h2 := ((Blk.new (w.alloc (.cells dskC 33)) 79 (logC false)).alloc (.cells dskC 33)).alloc (.cells (logC false) 79)
  have h3 := (Blk.new ((w.alloc (.cells dskC 33)).alloc (.cells (logC false) 79)) 33 dskC).alloc (.cells (logC false) 79)
  have h4 := Blk.new (((w.alloc (.cells dskC 33)).alloc (.cells (logC false) 79)).alloc (.cells dskC 33)) 79 (logC false)
  simp only [size_alloc_] at h2 h3 h4
  exact ⟨h1, h2, h3, h4, ((((Below.refl _ _).alloc (Nat.le_refl _) _).alloc (by simp) _).alloc (by simp; omega) _).alloc (by simp; omega) _, by simp⟩

theorem cf_Build : ∀ (args : Array Value) (w : World), (callFunc 126 args).run Try.prog w = .ok (.enter 126 args) w := enters_of Try.func126 (by kernel_rfl) rfl
theorem cf_Write7 : ∀ (args : Array Value) (w : World), (callFunc 50 args).run Try.prog w = .ok (.enter 50 args) w := enters_of Try.func50 (by kernel_rfl) rfl
section
variable {a : Act} {ty : TypeId} {pos : String} {d : Option Tmp} {af : Array Edge} {g : Option (Nat × Bool)}
theorem ro_load_dsk {x : Tmp} {p : Nat} (w : World) (hx : a.tmps.getD x undef = .pointer (some ⟨p, 0, none⟩)) (h0 : w.cell? ⟨p, 0, none⟩ = some (.slice none 0 0)) (h1 : w.cell? ⟨p, 1, none⟩ = some (.slice none 0 0)) (h2 : w.cell? ⟨p, 2, none⟩ = some (.int .i64 0)) (h3 : w.cell? ⟨p, 3, none⟩ = some (.bool false)) :
    (execOp a.eval { dst := d, op := .load 33 (.tmp x), type := ty, pos := pos, after := af, guard := g }).run Try.prog w = .ok (.value (.agg dskC)) w := by
  simp only [execOp, Act.eval, hx]
  go_simp
theorem ro_field_log0 {x : Tmp} {p : Nat} (w : World) (hx : a.tmps.getD x undef = .pointer (some ⟨p, 0, none⟩)) :
    (execOp a.eval { dst := d, op := .fieldAddr 79 (.tmp x) 0, type := ty, pos := pos, after := af, guard := g }).run Try.prog w = .ok (.value (.pointer (some ⟨p, 0, none⟩))) w := by
  simp only [execOp, Act.eval, hx]
  go_simp
theorem ro_field_log3 {x : Tmp} {p : Nat} (w : World) (hx : a.tmps.getD x undef = .pointer (some ⟨p, 0, none⟩)) :
    (execOp a.eval { dst := d, op := .fieldAddr 79 (.tmp x) 3, type := ty, pos := pos, after := af, guard := g }).run Try.prog w = .ok (.value (.pointer (some ⟨p, 3, none⟩))) w := by
  simp only [execOp, Act.eval, hx]
  go_simp
theorem ro_load_int {x : Tmp} {p k : Nat} {v : Value} (w : World) (hx : a.tmps.getD x undef = .pointer (some ⟨p, k, none⟩)) (h0 : w.cell? ⟨p, k, none⟩ = some v) :
    (execOp a.eval { dst := d, op := .load 3 (.tmp x), type := ty, pos := pos, after := af, guard := g }).run Try.prog w = .ok (.value v) w := by
  simp only [execOp, Act.eval, hx]
  go_simp
theorem ro_load_i64 {x : Tmp} {p k : Nat} {v : Value} (w : World) (hx : a.tmps.getD x undef = .pointer (some ⟨p, k, none⟩)) (h0 : w.cell? ⟨p, k, none⟩ = some v) :
    (execOp a.eval { dst := d, op := .load 2 (.tmp x), type := ty, pos := pos, after := af, guard := g }).run Try.prog w = .ok (.value v) w := by
  simp only [execOp, Act.eval, hx]
  go_simp
theorem ro_add64 {x : Tmp} (w : World) (hx : a.tmps.getD x undef = .int .i64 0) :
    (execOp a.eval { dst := d, op := .binOp .add 2 (.tmp x) (.const (.int .i64 1)) 2, type := ty, pos := pos, after := af, guard := g }).run Try.prog w = .ok (.value (.int .i64 1)) w := by
  simp only [execOp, Act.eval, hx]
  go_simp
  rw [IntKind.wrap_i64]; decide
theorem ro_call2n {x : Tmp} {u : Value} {ts : Array TypeId} {F : Nat} (hF : ∀ (args : Array Value) (w : World), (callFunc F args).run Try.prog w = .ok (.enter F args) w) (w : World) (hx : a.tmps.getD x undef = u) :
    (execOp a.eval { dst := d, op := .call { callee := .value (.func F), args := #[.tmp x, .const (.slice none 0 0)], argTypes := ts }, type := ty, pos := pos, after := af, guard := g }).run Try.prog w = .ok (.enter F #[u, .slice none 0 0]) w := by
  have := hF #[u, .slice none 0 0] w
  simp only [execOp, resolve, Act.eval, hx, List.map_toArray, List.map]
  go_simp
theorem ro_call3 {x y z : Tmp} {u v q : Value} {ts : Array TypeId} {F : Nat} (hF : ∀ (args : Array Value) (w : World), (callFunc F args).run Try.prog w = .ok (.enter F args) w) (w : World) (hx : a.tmps.getD x undef = u) (hy : a.tmps.getD y undef = v) (hz : a.tmps.getD z undef = q) :
    (execOp a.eval { dst := d, op := .call { callee := .value (.func F), args := #[.tmp x, .tmp y, .tmp z], argTypes := ts }, type := ty, pos := pos, after := af, guard := g }).run Try.prog w = .ok (.enter F #[u, v, q]) w := by
  have := hF #[u, v, q] w
  simp only [execOp, resolve, Act.eval, hx, hy, hz, List.map_toArray, List.map]
  go_simp
theorem ro_extract0 {x : Tmp} {v0 v1 : Value} (w : World) (hx : a.tmps.getD x undef = .tuple #[v0, v1]) :
    (execOp a.eval { dst := d, op := .extract (.tmp x) 0, type := ty, pos := pos, after := af, guard := g }).run Try.prog w = .ok (.value v0) w := by
  simp only [execOp, Act.eval, hx]; rfl
theorem ro_extract1 {x : Tmp} {v0 v1 : Value} (w : World) (hx : a.tmps.getD x undef = .tuple #[v0, v1]) :
    (execOp a.eval { dst := d, op := .extract (.tmp x) 1, type := ty, pos := pos, after := af, guard := g }).run Try.prog w = .ok (.value v1) w := by
  simp only [execOp, Act.eval, hx]; rfl
theorem ro_alloc_dsk (w : World) :
    (execOp a.eval { dst := d, op := .alloc 33, type := ty, pos := pos, after := af, guard := g }).run Try.prog w = .ok (.value (.pointer (some ⟨w.heap.size, 0, none⟩))) (w.alloc (.cells dskC 33)) := by
  simp only [execOp]
  go_simp
theorem ro_store_dsk {x y : Tmp} {p : Nat} (w : World) (hx : a.tmps.getD x undef = .pointer (some ⟨p, 0, none⟩)) (hy : a.tmps.getD y undef = .agg dskC) (hk : Blk w p 33 dskC) :
    (execOp a.eval { dst := d, op := .store 33 (.tmp x) (.tmp y), type := ty, pos := pos, after := af, guard := g }).run Try.prog w = .ok .skip ((((w.setCell ⟨p, 0, none⟩ (.slice none 0 0)).setCell ⟨p, 1, none⟩ (.slice none 0 0)).setCell ⟨p, 2, none⟩ (.int .i64 0)).setCell ⟨p, 3, none⟩ (.bool false)) := by
  have h0 : w.cell? ⟨p, 0, none⟩ = some (.slice none 0 0) := hk.cell 0
  have h1 : w.cell? ⟨p, 1, none⟩ = some (.slice none 0 0) := hk.cell 1
  have h2 : w.cell? ⟨p, 2, none⟩ = some (.int .i64 0) := hk.cell 2
  have h3 : w.cell? ⟨p, 3, none⟩ = some (.bool false) := hk.cell 3
  have f0 := hk.frozen 0
  have f1 := hk.frozen 1
  have f2 := hk.frozen 2
  have f3 := hk.frozen 3
  simp only [execOp, Act.eval, hx, hy]
  go_simp
end
/-- What the steps leave in their slots. -/
def SRes (w0 : World) (q : Nat) (v : Value) (w : World) : Prop := match q with
  | 0 => v = .agg dskC
  | 1 => v = .pointer (some ⟨w0.heap.size + 1, 0, none⟩)
  | 2 => v = .int .i64 0
  | 3 => v = .pointer (some ⟨w0.heap.size + 1, 3, none⟩)
  | 4 => v = .int .i64 0
  | 5 => v = .int .i64 1
  | 6 => ∃ A n c, v = .slice A n c
  | 7 => v = .tuple #[.agg dskC, .int .i64 1]
  | 8 => v = .tuple #[.agg dskC, .int .i64 1]
  | 9 => v = .agg dskC
  | 10 => v = .int .i64 1
  | 11 => ∃ b, v = .pointer (some ⟨b, 0, none⟩) ∧ w0.heap.size + 4 ≤ b ∧ Blk w b 33 dskC
  | 12 => True
  | 13 => v = .int .i64 1
  | _ => True
theorem sres_below {w0 : World} (q : Nat) (x : Value) (w w' : World) (h : SRes w0 q x w) (hb : Below w.heap.size w w') : SRes w0 q x w' :=
  match q, h with
  | 0, h => h
  | 1, h => h
  | 2, h => h
  | 3, h => h
  | 4, h => h
  | 5, h => h
  | 6, h => h
  | 7, h => h
  | 8, h => h
  | 9, h => h
  | 10, h => h
  | 11, ⟨b, h1, h2, h3⟩ => ⟨b, h1, h2, h3.below hb h3.lt⟩
  | 12, _ => trivial
  | 13, h => h
  | _ + 14, _ => trivial
theorem blk_store4 {w : World} {b : Nat} {p : Nat} {t : TypeId} {cs : Array Value} (h : Blk w b t cs) (hne : b ≠ p) {v0 v1 v2 v3 : Value} : Blk ((((w.setCell ⟨p, 0, none⟩ v0).setCell ⟨p, 1, none⟩ v1).setCell ⟨p, 2, none⟩ v2).setCell ⟨p, 3, none⟩ v3) b t cs := (((h.far hne _).far hne _).far hne _).far hne _
theorem blk_same4 {w : World} {b p : Nat} {t : TypeId} (h : Blk w b t dskC) : Blk ((((w.setCell ⟨p, 0, none⟩ (.slice none 0 0)).setCell ⟨p, 1, none⟩ (.slice none 0 0)).setCell ⟨p, 2, none⟩ (.int .i64 0)).setCell ⟨p, 3, none⟩ (.bool false)) b t dskC := by
  by_cases e : b = p
  · subst e
    have := (((h.set_ 0 (.slice none 0 0)).set_ 1 (.slice none 0 0)).set_ 2 (.int .i64 0)).set_ 3 (.bool false)
    simpa using this
  · exact blk_store4 h e
theorem sres_store {w0 : World} (q : Nat) (x : Value) (w : World) (p : Nat) (h : SRes w0 q x w) : SRes w0 q x ((((w.setCell ⟨p, 0, none⟩ (.slice none 0 0)).setCell ⟨p, 1, none⟩ (.slice none 0 0)).setCell ⟨p, 2, none⟩ (.int .i64 0)).setCell ⟨p, 3, none⟩ (.bool false)) :=
  match q, h with
  | 0, h => h
  | 1, h => h
  | 2, h => h
  | 3, h => h
  | 4, h => h
  | 5, h => h
  | 6, h => h
  | 7, h => h
  | 8, h => h
  | 9, h => h
  | 10, h => h
  | 11, ⟨b, h1, h2, h3⟩ => ⟨b, h1, h2, blk_same4 h3⟩
  | 12, _ => trivial
  | 13, h => h
  | _ + 14, _ => trivial
theorem Res0.store {w W : World} (h : Res0 w W) {p : Nat} (hp : w.heap.size + 4 ≤ p) {v0 v1 v2 v3 : Value} : Res0 w ((((W.setCell ⟨p, 0, none⟩ v0).setCell ⟨p, 1, none⟩ v1).setCell ⟨p, 2, none⟩ v2).setCell ⟨p, 3, none⟩ v3) :=
  ⟨blk_store4 h.d0 (by omega), blk_store4 h.l0 (by omega), blk_store4 h.d1 (by omega), blk_store4 h.l1 (by omega),
    (((h.bel.setCell (p := ⟨p, 0, none⟩) (by show w.heap.size ≤ p; omega) _).setCell (p := ⟨p, 1, none⟩) (by show w.heap.size ≤ p; omega) _).setCell (p := ⟨p, 2, none⟩) (by show w.heap.size ≤ p; omega) _).setCell (p := ⟨p, 3, none⟩) (by show w.heap.size ≤ p; omega) _, by simpa using h.size⟩

/-- The log's nine cells are laid anew. -/
theorem log_store {W : World} {d : Nat} {x y : Bool} (hl : Blk W d 79 (logC x)) : Blk (((((((((W.setCell ⟨d, 0, none⟩ (.int .i64 0)).setCell ⟨d, 1, none⟩ (.int .i64 0)).setCell ⟨d, 2, none⟩ (.int .i64 0)).setCell ⟨d, 3, none⟩ (.int .i64 0)).setCell ⟨d, 4, none⟩ (.slice none 0 0)).setCell ⟨d, 5, none⟩ (.int .i64 0)).setCell ⟨d, 6, none⟩ (.slice none 0 0)).setCell ⟨d, 7, none⟩ (.bool false)).setCell ⟨d, 8, none⟩ (.bool y)) d 79 (logC y) ∧ (∀ k t cs, k ≠ d → Blk W k t cs → Blk (((((((((W.setCell ⟨d, 0, none⟩ (.int .i64 0)).setCell ⟨d, 1, none⟩ (.int .i64 0)).setCell ⟨d, 2, none⟩ (.int .i64 0)).setCell ⟨d, 3, none⟩ (.int .i64 0)).setCell ⟨d, 4, none⟩ (.slice none 0 0)).setCell ⟨d, 5, none⟩ (.int .i64 0)).setCell ⟨d, 6, none⟩ (.slice none 0 0)).setCell ⟨d, 7, none⟩ (.bool false)).setCell ⟨d, 8, none⟩ (.bool y)) k t cs) ∧ (∀ B w0, B ≤ d → Below B w0 W → Below B w0 (((((((((W.setCell ⟨d, 0, none⟩ (.int .i64 0)).setCell ⟨d, 1, none⟩ (.int .i64 0)).setCell ⟨d, 2, none⟩ (.int .i64 0)).setCell ⟨d, 3, none⟩ (.int .i64 0)).setCell ⟨d, 4, none⟩ (.slice none 0 0)).setCell ⟨d, 5, none⟩ (.int .i64 0)).setCell ⟨d, 6, none⟩ (.slice none 0 0)).setCell ⟨d, 7, none⟩ (.bool false)).setCell ⟨d, 8, none⟩ (.bool y))) := by
  refine ⟨?_, ?_, ?_⟩
  · have := ((((((((hl.set_ 0 (.int .i64 0)).set_ 1 (.int .i64 0)).set_ 2 (.int .i64 0)).set_ 3 (.int .i64 0)).set_ 4 (.slice none 0 0)).set_ 5 (.int .i64 0)).set_ 6 (.slice none 0 0)).set_ 7 (.bool false)).set_ 8 (.bool y)
    simpa using this
  · intro k t cs hk h
    exact ((((((((h.far hk _).far hk _).far hk _).far hk _).far hk _).far hk _).far hk _).far hk _).far hk _
  · intro B w0 hB h
    exact ((((((((h.setCell (p := ⟨d, 0, none⟩) hB _).setCell (p := ⟨d, 1, none⟩) hB _).setCell (p := ⟨d, 2, none⟩) hB _).setCell (p := ⟨d, 3, none⟩) hB _).setCell (p := ⟨d, 4, none⟩) hB _).setCell (p := ⟨d, 5, none⟩) hB _).setCell (p := ⟨d, 6, none⟩) hB _).setCell (p := ⟨d, 7, none⟩) hB _).setCell (p := ⟨d, 8, none⟩) hB _
theorem dsk_store {W : World} {c : Nat} (hd : Blk W c 33 dskC) : Blk ((((W.setCell ⟨c, 0, none⟩ (.slice none 0 0)).setCell ⟨c, 1, none⟩ (.slice none 0 0)).setCell ⟨c, 2, none⟩ (.int .i64 0)).setCell ⟨c, 3, none⟩ (.bool false)) c 33 dskC ∧ (∀ k t cs, k ≠ c → Blk W k t cs → Blk ((((W.setCell ⟨c, 0, none⟩ (.slice none 0 0)).setCell ⟨c, 1, none⟩ (.slice none 0 0)).setCell ⟨c, 2, none⟩ (.int .i64 0)).setCell ⟨c, 3, none⟩ (.bool false)) k t cs) ∧ (∀ B w0, B ≤ c → Below B w0 W → Below B w0 ((((W.setCell ⟨c, 0, none⟩ (.slice none 0 0)).setCell ⟨c, 1, none⟩ (.slice none 0 0)).setCell ⟨c, 2, none⟩ (.int .i64 0)).setCell ⟨c, 3, none⟩ (.bool false))) := by
  refine ⟨?_, ?_, ?_⟩
  · have := (((hd.set_ 0 (.slice none 0 0)).set_ 1 (.slice none 0 0)).set_ 2 (.int .i64 0)).set_ 3 (.bool false)
    simpa using this
  · intro k t cs hk h
    exact (((h.far hk _).far hk _).far hk _).far hk _
  · intro B w0 hB h
    exact (((h.setCell (p := ⟨c, 0, none⟩) hB _).setCell (p := ⟨c, 1, none⟩) hB _).setCell (p := ⟨c, 2, none⟩) hB _).setCell (p := ⟨c, 3, none⟩) hB _

set_option maxRecDepth 100000 in
set_option maxHeartbeats 4000000 in
theorem refReset0 (w : World) : Calls Try.prog 90 #[.agg dskC, .agg (logC false)] w fun e w' => e = .returned (.tuple #[.agg dskC, .agg (logC true), .int .i64 1]) ∧ Below w.heap.size w w' := by
  have h0 := res0 w
  obtain ⟨W0, hW0⟩ : ∃ W0, W0 = ((((w.alloc (.cells dskC 33)).alloc (.cells (logC false) 79)).alloc (.cells dskC 33)).alloc (.cells (logC false) 79)) := ⟨_, rfl⟩
  rw [← hW0] at h0
  have H0 := Lib.hid h0
  have HW0 := Lib.hid hW0
  clear h0 hW0
  go_enter Try.func90, Try.ntmps90
  go_wp2_with fail
  rw [← HW0.out]
  have d00 : W0.cell? ⟨w.heap.size, 0, none⟩ = some (.slice none 0 0) := H0.out.d0.cell 0
  have d01 : W0.cell? ⟨w.heap.size, 1, none⟩ = some (.slice none 0 0) := H0.out.d0.cell 1
  have d02 : W0.cell? ⟨w.heap.size, 2, none⟩ = some (.int .i64 0) := H0.out.d0.cell 2
  have d03 : W0.cell? ⟨w.heap.size, 3, none⟩ = some (.bool false) := H0.out.d0.cell 3
  have l00 : W0.cell? ⟨w.heap.size + 1, 0, none⟩ = some (.int .i64 0) := H0.out.l0.cell 0
  have l03 : W0.cell? ⟨w.heap.size + 1, 3, none⟩ = some (.int .i64 0) := H0.out.l0.cell 3
  clear d00 d01 d02 d03 l00 l03
  rename_i K hK
  refine wp_region_slots (SRes w) (fun _ w7 => Res0 w w7) (by kernel_rfl) (by kernel_rfl) (by kernel_rfl) (H0.out.below (Below.refl _ _).drew) ?_ ?_
  · intro L a w7 q o' h ho h0 hd
    have hlow : Res0 w w7 := h.world
    revert L a w7
    revert q o'
    refine each_array ?_
    refine ⟨?_, ?_, ?_, ?_, ?_, ?_, ?_, ?_, ?_, ?_, ?_, ?_, ?_, ?_, trivial⟩ <;> intro L a w7 h h0 hd hlow
    · exact h.val rfl rfl (ro_load_dsk w7 (h.still 2 (by kernel_rfl)) (hlow.d0.cell 0) (hlow.d0.cell 1) (hlow.d0.cell 2) (hlow.d0.cell 3)) hlow rfl
    · exact h.val rfl rfl (ro_field_log0 w7 (h.still 3 (by kernel_rfl))) hlow rfl
    · exact h.val rfl rfl (ro_load_int w7 (h.ran 1 _ 22 rfl rfl (hd ⟨1, .data⟩ (by simp) rfl)) (hlow.l0.cell 0)) hlow rfl
    · exact h.val rfl rfl (ro_field_log3 w7 (h.still 3 (by kernel_rfl))) hlow rfl
    · exact h.val rfl rfl (ro_load_i64 w7 (h.ran 3 _ 24 rfl rfl (hd ⟨3, .data⟩ (by simp) rfl)) (hlow.l0.cell 3)) hlow rfl
    · exact h.val rfl rfl (ro_add64 w7 (h.ran 4 _ 25 rfl rfl (hd ⟨4, .data⟩ (by simp) rfl))) hlow rfl
    · refine h.call rfl rfl (ro_call2n cf_Build w7 (h.ran 5 _ 26 rfl rfl (hd ⟨5, .data⟩ (by simp) rfl))) ((refBuild_any w7).mono ?_)
      rintro r w8 ⟨A, n, c, l, rfl, _, hb8⟩
      exact ⟨_, rfl, fun k u _ hs => sres_below k u w7 w8 hs hb8, hlow.below hb8, ⟨A, n, c, rfl⟩⟩
    · obtain ⟨A, n, c, hv⟩ := h.ran 6 _ 27 rfl rfl (hd ⟨6, .data⟩ (by simp) rfl)
      refine h.call rfl rfl (ro_call3 cf_Write7 w7 (h.ran 0 _ 21 rfl rfl (hd ⟨0, .data⟩ (by simp) rfl)) (h.ran 2 _ 23 rfl rfl (hd ⟨2, .data⟩ (by simp) rfl)) hv) ((refWrite0 w7 A n c).mono ?_)
      rintro r w8 ⟨rfl, hb8⟩
      exact ⟨_, rfl, fun k u _ hs => sres_below k u w7 w8 hs hb8, hlow.below hb8, rfl⟩
    · exact h.val rfl rfl (ro_move w7 (h.ran 7 _ 28 rfl rfl (hd ⟨7, .data⟩ (by simp) rfl))) hlow rfl
    · exact h.val rfl rfl (ro_extract0 w7 (h.ran 8 _ 20 rfl rfl (hd ⟨8, .data⟩ (by simp) rfl))) hlow rfl
    · exact h.val rfl rfl (ro_extract1 w7 (h.ran 8 _ 20 rfl rfl (hd ⟨8, .data⟩ (by simp) rfl))) hlow rfl
    · exact h.mem rfl rfl (ro_alloc_dsk w7) (fun k u _ hs => sres_below k u w7 _ hs ((Below.refl _ _).alloc (Nat.le_refl _) _)) (hlow.below ((Below.refl _ _).alloc (Nat.le_refl _) _)) ⟨_, rfl, hlow.size, Blk.new _ _ _⟩
    · obtain ⟨b, hv, hb, hk⟩ := h.ran 11 _ 7 rfl rfl (hd ⟨11, .data⟩ (by simp) rfl)
      refine h.skip rfl rfl (ro_store_dsk w7 hv (h.ran 9 _ 29 rfl rfl (hd ⟨9, .data⟩ (by simp) rfl)) hk) ?_ ?_ trivial
      · exact fun k u _ hs => sres_store k u w7 b hs
      · exact hlow.store hb
    · exact h.val rfl rfl (ro_assign w7 (h.ran 10 _ 30 rfl rfl (hd ⟨10, .data⟩ (by simp) rfl))) hlow rfl
  · intro L a w7 hL hdf hsz' hw hother hall
    obtain ⟨b7, h7, hb7, hk7⟩ := hall 11 _ 7 rfl rfl
    have h8 : a.tmps.getD 8 undef = .int .i64 1 := hall 13 _ 8 rfl rfl
    have HW7 : Hid (Res0 w w7) := hw
    refine hK _ _ ?_
    obtain ⟨tm, df⟩ := a
    obtain rfl : df = [] := hdf
    have htm := tmps_eq [21, 22, 23, 24, 25, 26, 27, 28, 20, 29, 30, 7, 8] (by kernel_rfl) hsz' hother
    dsimp only at htm h7 h8
    simp only [List.foldl] at htm
    rw [h7, h8] at htm
    generalize tm.getD 21 undef = y21 at htm
    generalize tm.getD 22 undef = y22 at htm
    generalize tm.getD 23 undef = y23 at htm
    generalize tm.getD 24 undef = y24 at htm
    generalize tm.getD 25 undef = y25 at htm
    generalize tm.getD 26 undef = y26 at htm
    generalize tm.getD 27 undef = y27 at htm
    generalize tm.getD 28 undef = y28 at htm
    generalize tm.getD 20 undef = y20 at htm
    generalize tm.getD 29 undef = y29 at htm
    generalize tm.getD 30 undef = y30 at htm
    clear hother hall hsz' hw h7 h8 hL
    rw [htm]
    clear htm
    simp only [List.setIfInBounds_toArray, List.set_cons_succ, List.set_cons_zero]
    have HK7 := Lib.hid hk7
    have hn1 : ¬ b7 = w.heap.size + 1 := by omega
    have l08 : w7.cell? ⟨w.heap.size + 1, 8, none⟩ = some (.bool false) := HW7.out.l0.cell 8
    have g08 := HW7.out.l0.frozen 8
    clear hk7
    go_wp2_with fail
    obtain ⟨W8, hW8⟩ : ∃ W8, W8 = w7.setCell ⟨w.heap.size + 1, 8, none⟩ (.bool true) := ⟨_, rfl⟩
    have L0 : Hid (Blk W8 (w.heap.size + 1) 79 (logC true)) := Lib.hid (by rw [hW8]; exact HW7.out.l0.set_ 8 _)
    have B7 : Hid (Blk W8 b7 33 dskC) := Lib.hid (by rw [hW8]; exact HK7.out.far hn1 _)
    have D1 : Hid (Blk W8 (w.heap.size + 1 + 1) 33 dskC) := Lib.hid (by rw [hW8]; exact HW7.out.d1.far (by simp) _)
    have L1 : Hid (Blk W8 (w.heap.size + 1 + 1 + 1) 79 (logC false)) := Lib.hid (by rw [hW8]; exact HW7.out.l1.far (by simp) _)
    have HB8 : Hid (Below w.heap.size w W8) := Lib.hid (by rw [hW8]; exact HW7.out.bel.setCell (p := ⟨w.heap.size + 1, 8, none⟩) (Nat.le_succ _) _)
    rw [← hW8]
    clear l08 g08 hW8
    have u0 : W8.cell? ⟨b7, 0, none⟩ = some (.slice none 0 0) := B7.out.cell 0
    have t0 : W8.cell? ⟨w.heap.size + 1 + 1, 0, none⟩ = some (.slice none 0 0) := D1.out.cell 0
    have g0 := D1.out.frozen 0
    have u1 : W8.cell? ⟨b7, 1, none⟩ = some (.slice none 0 0) := B7.out.cell 1
    have t1 : W8.cell? ⟨w.heap.size + 1 + 1, 1, none⟩ = some (.slice none 0 0) := D1.out.cell 1
    have g1 := D1.out.frozen 1
    have u2 : W8.cell? ⟨b7, 2, none⟩ = some (.int .i64 0) := B7.out.cell 2
    have t2 : W8.cell? ⟨w.heap.size + 1 + 1, 2, none⟩ = some (.int .i64 0) := D1.out.cell 2
    have g2 := D1.out.frozen 2
    have u3 : W8.cell? ⟨b7, 3, none⟩ = some (.bool false) := B7.out.cell 3
    have t3 : W8.cell? ⟨w.heap.size + 1 + 1, 3, none⟩ = some (.bool false) := D1.out.cell 3
    have g3 := D1.out.frozen 3
    have p0 : W8.cell? ⟨w.heap.size + 1, 0, none⟩ = some (.int .i64 0) := L0.out.cell 0
    have s0 : W8.cell? ⟨w.heap.size + 1 + 1 + 1, 0, none⟩ = some (.int .i64 0) := L1.out.cell 0
    have f0 := L1.out.frozen 0
    have p1 : W8.cell? ⟨w.heap.size + 1, 1, none⟩ = some (.int .i64 0) := L0.out.cell 1
    have s1 : W8.cell? ⟨w.heap.size + 1 + 1 + 1, 1, none⟩ = some (.int .i64 0) := L1.out.cell 1
    have f1 := L1.out.frozen 1
    have p2 : W8.cell? ⟨w.heap.size + 1, 2, none⟩ = some (.int .i64 0) := L0.out.cell 2
    have s2 : W8.cell? ⟨w.heap.size + 1 + 1 + 1, 2, none⟩ = some (.int .i64 0) := L1.out.cell 2
    have f2 := L1.out.frozen 2
    have p3 : W8.cell? ⟨w.heap.size + 1, 3, none⟩ = some (.int .i64 0) := L0.out.cell 3
    have s3 : W8.cell? ⟨w.heap.size + 1 + 1 + 1, 3, none⟩ = some (.int .i64 0) := L1.out.cell 3
    have f3 := L1.out.frozen 3
    have p4 : W8.cell? ⟨w.heap.size + 1, 4, none⟩ = some (.slice none 0 0) := L0.out.cell 4
    have s4 : W8.cell? ⟨w.heap.size + 1 + 1 + 1, 4, none⟩ = some (.slice none 0 0) := L1.out.cell 4
    have f4 := L1.out.frozen 4
    have p5 : W8.cell? ⟨w.heap.size + 1, 5, none⟩ = some (.int .i64 0) := L0.out.cell 5
    have s5 : W8.cell? ⟨w.heap.size + 1 + 1 + 1, 5, none⟩ = some (.int .i64 0) := L1.out.cell 5
    have f5 := L1.out.frozen 5
    have p6 : W8.cell? ⟨w.heap.size + 1, 6, none⟩ = some (.slice none 0 0) := L0.out.cell 6
    have s6 : W8.cell? ⟨w.heap.size + 1 + 1 + 1, 6, none⟩ = some (.slice none 0 0) := L1.out.cell 6
    have f6 := L1.out.frozen 6
    have p7 : W8.cell? ⟨w.heap.size + 1, 7, none⟩ = some (.bool false) := L0.out.cell 7
    have s7 : W8.cell? ⟨w.heap.size + 1 + 1 + 1, 7, none⟩ = some (.bool false) := L1.out.cell 7
    have f7 := L1.out.frozen 7
    have p8 : W8.cell? ⟨w.heap.size + 1, 8, none⟩ = some (.bool true) := L0.out.cell 8
    have s8 : W8.cell? ⟨w.heap.size + 1 + 1 + 1, 8, none⟩ = some (.bool false) := L1.out.cell 8
    have f8 := L1.out.frozen 8
    have hbb : w.heap.size + 1 + 1 + 1 < b7 := by omega
    clear hb7
    go_region
    all_goals (
      obtain ⟨W9, hW9⟩ : ∃ W9, W9 = (((((((((((((W8.setCell ⟨w.heap.size + 1 + 1, 0, none⟩ (.slice none 0 0)).setCell ⟨w.heap.size + 1 + 1, 1, none⟩ (.slice none 0 0)).setCell ⟨w.heap.size + 1 + 1, 2, none⟩ (.int .i64 0)).setCell ⟨w.heap.size + 1 + 1, 3, none⟩ (.bool false)).setCell ⟨w.heap.size + 1 + 1 + 1, 0, none⟩ (.int .i64 0)).setCell ⟨w.heap.size + 1 + 1 + 1, 1, none⟩ (.int .i64 0)).setCell ⟨w.heap.size + 1 + 1 + 1, 2, none⟩ (.int .i64 0)).setCell ⟨w.heap.size + 1 + 1 + 1, 3, none⟩ (.int .i64 0)).setCell ⟨w.heap.size + 1 + 1 + 1, 4, none⟩ (.slice none 0 0)).setCell ⟨w.heap.size + 1 + 1 + 1, 5, none⟩ (.int .i64 0)).setCell ⟨w.heap.size + 1 + 1 + 1, 6, none⟩ (.slice none 0 0)).setCell ⟨w.heap.size + 1 + 1 + 1, 7, none⟩ (.bool false)).setCell ⟨w.heap.size + 1 + 1 + 1, 8, none⟩ (.bool true)).drew := ⟨_, rfl⟩
      have hds := dsk_store D1.out
      have hls := log_store (y := true) (hds.2.1 _ _ _ (by simp) L1.out)
      have D9 : Blk W9 (w.heap.size + 1 + 1) 33 dskC := by rw [hW9]; exact (hls.2.1 _ _ _ (by simp) hds.1).drew
      have L9 : Blk W9 (w.heap.size + 1 + 1 + 1) 79 (logC true) := by rw [hW9]; exact hls.1.drew
      have HB9 : Below w.heap.size w W9 := by rw [hW9]; exact (hls.2.2 _ _ (by omega) (hds.2.2 _ _ (by omega) HB8.out)).drew
      clear hds hls
      rw [← hW9]
      clear hW9 u0 u1 u2 u3 t0 t1 t2 t3 s0 s1 s2 s3 s4 s5 s6 s7 s8 p0 p1 p2 p3 p4 p5 p6 p7 p8
      have t0 : W9.cell? ⟨w.heap.size + 1 + 1, 0, none⟩ = some (.slice none 0 0) := D9.cell 0
      have t1 : W9.cell? ⟨w.heap.size + 1 + 1, 1, none⟩ = some (.slice none 0 0) := D9.cell 1
      have t2 : W9.cell? ⟨w.heap.size + 1 + 1, 2, none⟩ = some (.int .i64 0) := D9.cell 2
      have t3 : W9.cell? ⟨w.heap.size + 1 + 1, 3, none⟩ = some (.bool false) := D9.cell 3
      have s0 : W9.cell? ⟨w.heap.size + 1 + 1 + 1, 0, none⟩ = some (.int .i64 0) := L9.cell 0
      have s1 : W9.cell? ⟨w.heap.size + 1 + 1 + 1, 1, none⟩ = some (.int .i64 0) := L9.cell 1
      have s2 : W9.cell? ⟨w.heap.size + 1 + 1 + 1, 2, none⟩ = some (.int .i64 0) := L9.cell 2
      have s3 : W9.cell? ⟨w.heap.size + 1 + 1 + 1, 3, none⟩ = some (.int .i64 0) := L9.cell 3
      have s4 : W9.cell? ⟨w.heap.size + 1 + 1 + 1, 4, none⟩ = some (.slice none 0 0) := L9.cell 4
      have s5 : W9.cell? ⟨w.heap.size + 1 + 1 + 1, 5, none⟩ = some (.int .i64 0) := L9.cell 5
      have s6 : W9.cell? ⟨w.heap.size + 1 + 1 + 1, 6, none⟩ = some (.slice none 0 0) := L9.cell 6
      have s7 : W9.cell? ⟨w.heap.size + 1 + 1 + 1, 7, none⟩ = some (.bool false) := L9.cell 7
      have s8 : W9.cell? ⟨w.heap.size + 1 + 1 + 1, 8, none⟩ = some (.bool true) := L9.cell 8
      go_wp2_with fail
      refine bodyPost_ret (v := .tuple #[.agg dskC, .agg (logC true), .int .i64 1]) ?_ rfl ⟨rfl, HB9⟩
      simp only [results, Try.results90]
      go_simp)
end Go.Proofs.Ytplkdcegfpiofaa

/-
  The walk of skeinlaw09's asks, at an empty log and an empty disk of the document's.
-/
namespace Go.Proofs.Ytplkdcegfpiofaa
open Go.RowKit Go.Maps Go.Shelf
set_option linter.unusedVariables false

/-- The five blocks that asks lays. -/
structure Ask0 (w W : World) (oc : Array Value) : Prop where
  bl : Blk W w.heap.size 79 (logC false)
  bd : Blk W (w.heap.size + 1) 33 dskC
  bo : Blk W (w.heap.size + 1 + 1) 77 oc
  rl : Blk W (w.heap.size + 1 + 1 + 1) 79 (logC false)
  rd : Blk W (w.heap.size + 1 + 1 + 1 + 1) 33 dskC
  size : w.heap.size + 5 ≤ W.heap.size
theorem Ask0.mod {S : Nat → Prop} {w W W' : World} {oc : Array Value} (h : Ask0 w W oc) (hm : Mod S W W') (hS : ∀ k, S k → k < w.heap.size ∨ w.heap.size + 5 ≤ k) : Ask0 w W' oc :=
  ⟨h.bl.mod hm (fun e => by have := hS _ e; omega), h.bd.mod hm (fun e => by have := hS _ e; omega), h.bo.mod hm (fun e => by have := hS _ e; omega), h.rl.mod hm (fun e => by have := hS _ e; omega), h.rd.mod hm (fun e => by have := hS _ e; omega), Nat.le_trans h.size hm.size⟩
theorem Ask0.below {w W W' : World} {oc : Array Value} (h : Ask0 w W oc) (hb : Below W.heap.size W W') : Ask0 w W' oc := h.mod (Mod.of_below hb (fun _ => False)) (fun _ e => e.elim)
theorem ask0 (w : World) (oc : Array Value) : Ask0 w (((((w.alloc (.cells (logC false) 79)).alloc (.cells dskC 33)).alloc (.cells oc 77)).alloc (.cells (logC false) 79)).alloc (.cells dskC 33)) oc := by
  have h1 := (((Blk.new w 79 (logC false)).alloc (.cells dskC 33)).alloc (.cells oc 77)).alloc (.cells (logC false) 79) |>.alloc (.cells dskC 33)
  have h2 := (((Blk.new (w.alloc (.cells (logC false) 79)) 33 dskC).alloc (.cells oc 77)).alloc (.cells (logC false) 79)).alloc (.cells dskC 33)
  have h3 := ((Blk.new ((w.alloc (.cells (logC false) 79)).alloc (.cells dskC 33)) 77 oc).alloc (.cells (logC false) 79)).alloc (.cells dskC 33)
  have h4 := (Blk.new (((w.alloc (.cells (logC false) 79)).alloc (.cells dskC 33)).alloc (.cells oc 77)) 79 (logC false)).alloc (.cells dskC 33)
  have h5 := Blk.new ((((w.alloc (.cells (logC false) 79)).alloc (.cells dskC 33)).alloc (.cells oc 77)).alloc (.cells (logC false) 79)) 33 dskC
  simp only [size_alloc_] at h2 h3 h4 h5
  exact ⟨h1, h2, h3, h4, h5, by simp⟩
theorem log_store_mod {W w0 : World} {d : Nat} {y : Bool} {S : Nat → Prop} (hd : S d) (h : Mod S w0 W) : Mod S w0 (((((((((W.setCell ⟨d, 0, none⟩ (.int .i64 0)).setCell ⟨d, 1, none⟩ (.int .i64 0)).setCell ⟨d, 2, none⟩ (.int .i64 0)).setCell ⟨d, 3, none⟩ (.int .i64 0)).setCell ⟨d, 4, none⟩ (.slice none 0 0)).setCell ⟨d, 5, none⟩ (.int .i64 0)).setCell ⟨d, 6, none⟩ (.slice none 0 0)).setCell ⟨d, 7, none⟩ (.bool false)).setCell ⟨d, 8, none⟩ (.bool y)) :=
  ((((((((h.setCell (p := ⟨d, 0, none⟩) (fun _ => hd) _).setCell (p := ⟨d, 1, none⟩) (fun _ => hd) _).setCell (p := ⟨d, 2, none⟩) (fun _ => hd) _).setCell (p := ⟨d, 3, none⟩) (fun _ => hd) _).setCell (p := ⟨d, 4, none⟩) (fun _ => hd) _).setCell (p := ⟨d, 5, none⟩) (fun _ => hd) _).setCell (p := ⟨d, 6, none⟩) (fun _ => hd) _).setCell (p := ⟨d, 7, none⟩) (fun _ => hd) _).setCell (p := ⟨d, 8, none⟩) (fun _ => hd) _
theorem dsk_store_mod {W w0 : World} {c : Nat} {S : Nat → Prop} (hd : S c) (h : Mod S w0 W) : Mod S w0 ((((W.setCell ⟨c, 0, none⟩ (.slice none 0 0)).setCell ⟨c, 1, none⟩ (.slice none 0 0)).setCell ⟨c, 2, none⟩ (.int .i64 0)).setCell ⟨c, 3, none⟩ (.bool false)) :=
  (((h.setCell (p := ⟨c, 0, none⟩) (fun _ => hd) _).setCell (p := ⟨c, 1, none⟩) (fun _ => hd) _).setCell (p := ⟨c, 2, none⟩) (fun _ => hd) _).setCell (p := ⟨c, 3, none⟩) (fun _ => hd) _
theorem LogAt.ne_blk {W : World} {p g B b t : Nat} {sv bv : Value} {m : LG} {cs : Array Value} (h : LogAt W p g B sv bv m) (hb : Blk W b t cs) (h1 : t ≠ 130) (h2 : t ≠ 5) (h3 : t ≠ 3) : ¬ OwnL g sv bv b := by
  intro hk
  rcases hk with e | e | e
  · exact (hb.ne_ h.blk h1) e
  · rcases h.st.2.2.2 with ⟨e', _⟩ | ⟨g', cap, cur, e', _, hg, _⟩
    · rw [e'] at e; cases e
    · rw [e'] at e
      simp only [Value.ownBlock] at e
      injection e with e
      subst e
      exact (hb.ne_ (t' := 5) (cs' := cur) hg h2) rfl
  · rcases h.begs.2.2 with ⟨e', _⟩ | ⟨g', cap, cur, e', _, hg, _⟩
    · rw [e'] at e; cases e
    · rw [e'] at e
      simp only [Value.ownBlock] at e
      injection e with e
      subst e
      exact (hb.ne_ (t' := 3) (cs' := cur) hg h3) rfl
/-- The log and its disk stand across a turn of two blocks that are neither's. -/
theorem WalAt.aside {W W' : World} {p sb mb g B c d : Nat} {s : DS} {sv bv : Value} {m : LG} (h : WalAt W p sb mb none s g B sv bv m) (hm : Mod (fun k => k = c ∨ k = d) W W') (hp : p < c ∧ sb < c ∧ mb < c ∧ p < d ∧ sb < d ∧ mb < d) (hc : ¬ OwnL g sv bv c) (hd : ¬ OwnL g sv bv d) : WalAt W' p sb mb none s g B sv bv m := by
  refine ⟨h.dk.mod hm (by omega) (by omega) (by omega) (by simp), h.lg.mod hm (fun k hk e => ?_), h.sep, by simp⟩
  rcases e with e | e
  · subst e; exact hc hk
  · subst e; exact hd hk
theorem ask0_below (w : World) (oc : Array Value) : Below w.heap.size w (((((w.alloc (.cells (logC false) 79)).alloc (.cells dskC 33)).alloc (.cells oc 77)).alloc (.cells (logC false) 79)).alloc (.cells dskC 33)) :=
  ((((((Below.refl _ _).alloc (Nat.le_refl _) _).alloc (by simp) _).alloc (by simp; omega) _).alloc (by simp; omega) _)).alloc (by simp; omega) _

set_option maxRecDepth 100000 in
set_option maxHeartbeats 4000000 in
theorem asks_flush (w : World) (p sb mb g B : Nat) (s : DS) (sv bv : Value) (m : LG) (h : WalAt w p sb mb none s g B sv bv m) (hst : s.steps < 1000000000000000) (n t : Int) (dA kA fA : Option Addr) (dn dc kn kc fn fc : Nat) :
    Calls Try.prog 36 #[.pointer (some ⟨g, 0, none⟩), .agg (logC false), .agg dskC, .agg #[.int .i64 2, .int .i64 n, .int .i64 t, .slice dA dn dc, .slice kA kn kc, .slice fA fn fc]] w fun e w' => (∃ v, e = .returned v) ∧ WalAt w' p sb mb none (m.flush s).1 g B sv bv (m.flush s).2.1 ∧ Mod (OwnW p sb mb g) w w' := by
  obtain ⟨oc, hoc⟩ : ∃ oc : Array Value, oc = #[.int .i64 2, .int .i64 n, .int .i64 t, .slice dA dn dc, .slice kA kn kc, .slice fA fn fc] := ⟨_, rfl⟩
  obtain ⟨W0, hW0⟩ : ∃ W0, W0 = (((((w.alloc (.cells (logC false) 79)).alloc (.cells dskC 33)).alloc (.cells #[.int .i64 2, .int .i64 n, .int .i64 t, .slice dA dn dc, .slice kA kn kc, .slice fA fn fc] 77)).alloc (.cells (logC false) 79)).alloc (.cells dskC 33)) := ⟨_, rfl⟩
  have HA0 : Hid (Ask0 w W0 oc) := Lib.hid (by rw [hW0, hoc]; exact ask0 w _)
  have HB0 : Hid (Below w.heap.size w W0) := Lib.hid (by rw [hW0]; exact ask0_below w _)
  have HWA : Hid (WalAt W0 p sb mb none s g B sv bv m) := Lib.hid (h.below HB0.out)
  have HOW : Hid (∀ k, OwnW p sb mb g k → k < w.heap.size) := Lib.hid (fun k hk => by
    have h1 := h.dk.lt
    have h2 := h.lg.lt
    rcases hk with hk | hk
    · rcases hk with e | e | e <;> omega
    · omega)
  have HOP : Hid (p < w.heap.size ∧ sb < w.heap.size ∧ mb < w.heap.size) := Lib.hid ⟨h.dk.lt.1, h.dk.lt.2.1, h.dk.lt.2.2.1⟩
  have HOL : Hid (∀ k, OwnL g sv bv k → k < w.heap.size) := Lib.hid (fun k hk => (h.lg.own k hk).2)
  have HW0 := Lib.hid hW0
  have HOC := Lib.hid hoc
  have HST := Lib.hid hst
  clear h hst hW0 hoc
  go_enter Try.func36, Try.ntmps36
  go_wp2_with fail
  rw [← HW0.out]
  refine (Flush_any W0 p sb mb g B none s sv bv m HWA.out HST.out).mono ?_
  obtain ⟨fc9, hfc9⟩ : ∃ fc9, fc9 = (m.flush s).2.2 := ⟨_, rfl⟩
  rw [← hfc9]
  rintro e w1 ⟨rfl, hw1, hm1⟩
  have HW1 := Lib.hid hw1
  have HM1 : Hid (Mod (OwnW p sb mb g) w w1) := Lib.hid ((Mod.of_below HB0.out _).trans hm1 (fun k hk e => e))
  have HA1 : Hid (Ask0 w w1 oc) := Lib.hid (HA0.out.mod hm1 (fun k hk => .inl (HOW.out k hk)))
  have l0 : w1.cell? ⟨w.heap.size, 0, none⟩ = some (.int .i64 0) := HA1.out.bl.cell 0
  have l1 : w1.cell? ⟨w.heap.size, 1, none⟩ = some (.int .i64 0) := HA1.out.bl.cell 1
  have l2 : w1.cell? ⟨w.heap.size, 2, none⟩ = some (.int .i64 0) := HA1.out.bl.cell 2
  have l3 : w1.cell? ⟨w.heap.size, 3, none⟩ = some (.int .i64 0) := HA1.out.bl.cell 3
  have l4 : w1.cell? ⟨w.heap.size, 4, none⟩ = some (.slice none 0 0) := HA1.out.bl.cell 4
  have l5 : w1.cell? ⟨w.heap.size, 5, none⟩ = some (.int .i64 0) := HA1.out.bl.cell 5
  have l6 : w1.cell? ⟨w.heap.size, 6, none⟩ = some (.slice none 0 0) := HA1.out.bl.cell 6
  have l7 : w1.cell? ⟨w.heap.size, 7, none⟩ = some (.bool false) := HA1.out.bl.cell 7
  have l8 : w1.cell? ⟨w.heap.size, 8, none⟩ = some (.bool false) := HA1.out.bl.cell 8
  have d0 : w1.cell? ⟨w.heap.size + 1, 0, none⟩ = some (.slice none 0 0) := HA1.out.bd.cell 0
  have d1 : w1.cell? ⟨w.heap.size + 1, 1, none⟩ = some (.slice none 0 0) := HA1.out.bd.cell 1
  have d2 : w1.cell? ⟨w.heap.size + 1, 2, none⟩ = some (.int .i64 0) := HA1.out.bd.cell 2
  have d3 : w1.cell? ⟨w.heap.size + 1, 3, none⟩ = some (.bool false) := HA1.out.bd.cell 3
  clear hw1 hm1 hfc9
  go_wp2_with fail
  refine (refFlush0 w1).mono ?_
  rintro e w2 ⟨rfl, hb2⟩
  have HW2 := Lib.hid (HW1.out.below hb2)
  have HM2 : Hid (Mod (OwnW p sb mb g) w w2) := Lib.hid (HM1.out.trans' (Mod.of_below hb2 _))
  have HA2 : Hid (Ask0 w w2 oc) := Lib.hid (HA1.out.below hb2)
  clear hb2 l0 l1 l2 l3 l4 l5 l6 l7 l8 d0 d1 d2 d3
  go_wp2_with fail
  obtain ⟨W3, hW3⟩ : ∃ W3, W3 = (w2.alloc (.cells dskC 33)).alloc (.cells (logC false) 79) := ⟨_, rfl⟩
  rw [← hW3]
  obtain ⟨db, hdb⟩ : ∃ db, db = w2.heap.size := ⟨_, rfl⟩
  obtain ⟨lb, hlb⟩ : ∃ lb, lb = w2.heap.size + 1 := ⟨_, rfl⟩
  have hb3 : Below w2.heap.size w2 W3 := by rw [hW3]; exact ((Below.refl _ _).alloc (Nat.le_refl _) _).alloc (by simp) _
  have D3 : Hid (Blk W3 db 33 dskC) := Lib.hid (by rw [hW3, hdb]; exact (Blk.new _ _ _).alloc _)
  have L3 : Hid (Blk W3 lb 79 (logC false)) := Lib.hid (by
    rw [hW3, hlb]
    have := Blk.new (w2.alloc (.cells dskC 33)) 79 (logC false)
    rwa [size_alloc_] at this)
  have HA3 : Hid (Ask0 w W3 oc) := Lib.hid (HA2.out.below hb3)
  have HW3 := Lib.hid (HW2.out.below hb3)
  have HM3 : Hid (Mod (OwnW p sb mb g) w W3) := Lib.hid (HM2.out.trans' (Mod.of_below hb3 _))
  have hdl : w.heap.size + 1 + 1 + 1 + 1 < db := by have := HA2.out.size; omega
  have hdl2 : db < lb := by omega
  rw [← hlb, ← hdb]
  clear hW3 hlb hdb hb3
  have x0 : W3.cell? ⟨lb, 0, none⟩ = some (.int .i64 0) := L3.out.cell 0
  have x1 : W3.cell? ⟨lb, 1, none⟩ = some (.int .i64 0) := L3.out.cell 1
  have x2 : W3.cell? ⟨lb, 2, none⟩ = some (.int .i64 0) := L3.out.cell 2
  have x3 : W3.cell? ⟨lb, 3, none⟩ = some (.int .i64 0) := L3.out.cell 3
  have x4 : W3.cell? ⟨lb, 4, none⟩ = some (.slice none 0 0) := L3.out.cell 4
  have x5 : W3.cell? ⟨lb, 5, none⟩ = some (.int .i64 0) := L3.out.cell 5
  have x6 : W3.cell? ⟨lb, 6, none⟩ = some (.slice none 0 0) := L3.out.cell 6
  have x7 : W3.cell? ⟨lb, 7, none⟩ = some (.bool false) := L3.out.cell 7
  have x8 : W3.cell? ⟨lb, 8, none⟩ = some (.bool false) := L3.out.cell 8
  have y0 : W3.cell? ⟨db, 0, none⟩ = some (.slice none 0 0) := D3.out.cell 0
  have y1 : W3.cell? ⟨db, 1, none⟩ = some (.slice none 0 0) := D3.out.cell 1
  have y2 : W3.cell? ⟨db, 2, none⟩ = some (.int .i64 0) := D3.out.cell 2
  have y3 : W3.cell? ⟨db, 3, none⟩ = some (.bool false) := D3.out.cell 3
  have r0 : W3.cell? ⟨w.heap.size + 1 + 1 + 1, 0, none⟩ = some (.int .i64 0) := HA3.out.rl.cell 0
  have gr0 := HA3.out.rl.frozen 0
  have r1 : W3.cell? ⟨w.heap.size + 1 + 1 + 1, 1, none⟩ = some (.int .i64 0) := HA3.out.rl.cell 1
  have gr1 := HA3.out.rl.frozen 1
  have r2 : W3.cell? ⟨w.heap.size + 1 + 1 + 1, 2, none⟩ = some (.int .i64 0) := HA3.out.rl.cell 2
  have gr2 := HA3.out.rl.frozen 2
  have r3 : W3.cell? ⟨w.heap.size + 1 + 1 + 1, 3, none⟩ = some (.int .i64 0) := HA3.out.rl.cell 3
  have gr3 := HA3.out.rl.frozen 3
  have r4 : W3.cell? ⟨w.heap.size + 1 + 1 + 1, 4, none⟩ = some (.slice none 0 0) := HA3.out.rl.cell 4
  have gr4 := HA3.out.rl.frozen 4
  have r5 : W3.cell? ⟨w.heap.size + 1 + 1 + 1, 5, none⟩ = some (.int .i64 0) := HA3.out.rl.cell 5
  have gr5 := HA3.out.rl.frozen 5
  have r6 : W3.cell? ⟨w.heap.size + 1 + 1 + 1, 6, none⟩ = some (.slice none 0 0) := HA3.out.rl.cell 6
  have gr6 := HA3.out.rl.frozen 6
  have r7 : W3.cell? ⟨w.heap.size + 1 + 1 + 1, 7, none⟩ = some (.bool false) := HA3.out.rl.cell 7
  have gr7 := HA3.out.rl.frozen 7
  have r8 : W3.cell? ⟨w.heap.size + 1 + 1 + 1, 8, none⟩ = some (.bool false) := HA3.out.rl.cell 8
  have gr8 := HA3.out.rl.frozen 8
  have q0 : W3.cell? ⟨w.heap.size + 1 + 1 + 1 + 1, 0, none⟩ = some (.slice none 0 0) := HA3.out.rd.cell 0
  have gq0 := HA3.out.rd.frozen 0
  have q1 : W3.cell? ⟨w.heap.size + 1 + 1 + 1 + 1, 1, none⟩ = some (.slice none 0 0) := HA3.out.rd.cell 1
  have gq1 := HA3.out.rd.frozen 1
  have q2 : W3.cell? ⟨w.heap.size + 1 + 1 + 1 + 1, 2, none⟩ = some (.int .i64 0) := HA3.out.rd.cell 2
  have gq2 := HA3.out.rd.frozen 2
  have q3 : W3.cell? ⟨w.heap.size + 1 + 1 + 1 + 1, 3, none⟩ = some (.bool false) := HA3.out.rd.cell 3
  have gq3 := HA3.out.rd.frozen 3
  go_region
  all_goals (
    obtain ⟨W9, hW9⟩ : ∃ W9, W9 = (((((((((((((W3.setCell ⟨w.heap.size + 1 + 1 + 1, 0, none⟩ (.int .i64 0)).setCell ⟨w.heap.size + 1 + 1 + 1, 1, none⟩ (.int .i64 0)).setCell ⟨w.heap.size + 1 + 1 + 1, 2, none⟩ (.int .i64 0)).setCell ⟨w.heap.size + 1 + 1 + 1, 3, none⟩ (.int .i64 0)).setCell ⟨w.heap.size + 1 + 1 + 1, 4, none⟩ (.slice none 0 0)).setCell ⟨w.heap.size + 1 + 1 + 1, 5, none⟩ (.int .i64 0)).setCell ⟨w.heap.size + 1 + 1 + 1, 6, none⟩ (.slice none 0 0)).setCell ⟨w.heap.size + 1 + 1 + 1, 7, none⟩ (.bool false)).setCell ⟨w.heap.size + 1 + 1 + 1, 8, none⟩ (.bool false)).setCell ⟨w.heap.size + 1 + 1 + 1 + 1, 0, none⟩ (.slice none 0 0)).setCell ⟨w.heap.size + 1 + 1 + 1 + 1, 1, none⟩ (.slice none 0 0)).setCell ⟨w.heap.size + 1 + 1 + 1 + 1, 2, none⟩ (.int .i64 0)).setCell ⟨w.heap.size + 1 + 1 + 1 + 1, 3, none⟩ (.bool false)).drew := ⟨_, rfl⟩
    have hls := log_store (y := false) HA3.out.rl
    have hds := dsk_store (hls.2.1 _ _ _ (by simp) HA3.out.rd)
    have L9 : Blk W9 (w.heap.size + 1 + 1 + 1) 79 (logC false) := by rw [hW9]; exact (hds.2.1 _ _ _ (by simp) hls.1).drew
    have D9 : Blk W9 (w.heap.size + 1 + 1 + 1 + 1) 33 dskC := by rw [hW9]; exact hds.1.drew
    have HM9 : Hid (Mod (fun k => k = w.heap.size + 1 + 1 + 1 ∨ k = w.heap.size + 1 + 1 + 1 + 1) W3 W9) := Lib.hid (by rw [hW9]; exact (dsk_store_mod (.inr rfl) (log_store_mod (.inl rfl) (Mod.refl _ _))).drew)
    rw [← hW9]
    clear hls hds hW9 x0 x1 x2 x3 x4 x5 x6 x7 x8 y0 y1 y2 y3 r0 r1 r2 r3 r4 r5 r6 r7 r8 gr0 gr1 gr2 gr3 gr4 gr5 gr6 gr7 gr8 q0 q1 q2 q3 gq0 gq1 gq2 gq3
    have r0 : W9.cell? ⟨w.heap.size + 1 + 1 + 1, 0, none⟩ = some (.int .i64 0) := L9.cell 0
    have r1 : W9.cell? ⟨w.heap.size + 1 + 1 + 1, 1, none⟩ = some (.int .i64 0) := L9.cell 1
    have r2 : W9.cell? ⟨w.heap.size + 1 + 1 + 1, 2, none⟩ = some (.int .i64 0) := L9.cell 2
    have r3 : W9.cell? ⟨w.heap.size + 1 + 1 + 1, 3, none⟩ = some (.int .i64 0) := L9.cell 3
    have r4 : W9.cell? ⟨w.heap.size + 1 + 1 + 1, 4, none⟩ = some (.slice none 0 0) := L9.cell 4
    have r5 : W9.cell? ⟨w.heap.size + 1 + 1 + 1, 5, none⟩ = some (.int .i64 0) := L9.cell 5
    have r6 : W9.cell? ⟨w.heap.size + 1 + 1 + 1, 6, none⟩ = some (.slice none 0 0) := L9.cell 6
    have r7 : W9.cell? ⟨w.heap.size + 1 + 1 + 1, 7, none⟩ = some (.bool false) := L9.cell 7
    have r8 : W9.cell? ⟨w.heap.size + 1 + 1 + 1, 8, none⟩ = some (.bool false) := L9.cell 8
    have q0 : W9.cell? ⟨w.heap.size + 1 + 1 + 1 + 1, 0, none⟩ = some (.slice none 0 0) := D9.cell 0
    have q1 : W9.cell? ⟨w.heap.size + 1 + 1 + 1 + 1, 1, none⟩ = some (.slice none 0 0) := D9.cell 1
    have q2 : W9.cell? ⟨w.heap.size + 1 + 1 + 1 + 1, 2, none⟩ = some (.int .i64 0) := D9.cell 2
    have q3 : W9.cell? ⟨w.heap.size + 1 + 1 + 1 + 1, 3, none⟩ = some (.bool false) := D9.cell 3
    go_wp2_with fail
    apply bodyPost_ret
    · simp only [results, Try.results36]
      go_simp
      rfl
    · rfl
    · exact ⟨⟨_, rfl⟩, ⟨HW3.out.aside HM9.out (by have := HOP.out; omega) (HW3.out.lg.ne_blk HA3.out.rl (by decide) (by decide) (by decide)) (HW3.out.lg.ne_blk HA3.out.rd (by decide) (by decide) (by decide)), HM3.out.trans HM9.out (fun k hk e => by rcases e with e | e <;> omega)⟩⟩)

set_option maxRecDepth 100000 in
set_option maxHeartbeats 4000000 in
theorem asks_reset (w : World) (p sb mb g B : Nat) (s : DS) (sv bv : Value) (m : LG) (h : WalAt w p sb mb none s g B sv bv m) (hst : s.steps < 1000000000000000) (n t : Int) (dA kA fA : Option Addr) (dn dc kn kc fn fc : Nat) :
    Calls Try.prog 36 #[.pointer (some ⟨g, 0, none⟩), .agg (logC false), .agg dskC, .agg #[.int .i64 3, .int .i64 n, .int .i64 t, .slice dA dn dc, .slice kA kn kc, .slice fA fn fc]] w fun e w' => (∃ v, e = .returned v) ∧ (∃ sv' bv', WalAt w' p sb mb none (m.reset s).1 g B sv' bv' (m.reset s).2.1) ∧ Mod (OwnW p sb mb g) w w' := by
  obtain ⟨oc, hoc⟩ : ∃ oc : Array Value, oc = #[.int .i64 3, .int .i64 n, .int .i64 t, .slice dA dn dc, .slice kA kn kc, .slice fA fn fc] := ⟨_, rfl⟩
  obtain ⟨W0, hW0⟩ : ∃ W0, W0 = (((((w.alloc (.cells (logC false) 79)).alloc (.cells dskC 33)).alloc (.cells #[.int .i64 3, .int .i64 n, .int .i64 t, .slice dA dn dc, .slice kA kn kc, .slice fA fn fc] 77)).alloc (.cells (logC false) 79)).alloc (.cells dskC 33)) := ⟨_, rfl⟩
  have HA0 : Hid (Ask0 w W0 oc) := Lib.hid (by rw [hW0, hoc]; exact ask0 w _)
  have HB0 : Hid (Below w.heap.size w W0) := Lib.hid (by rw [hW0]; exact ask0_below w _)
  have HWA : Hid (WalAt W0 p sb mb none s g B sv bv m) := Lib.hid (h.below HB0.out)
  have HOW : Hid (∀ k, OwnW p sb mb g k → k < w.heap.size) := Lib.hid (fun k hk => by
    have h1 := h.dk.lt
    have h2 := h.lg.lt
    rcases hk with hk | hk
    · rcases hk with e | e | e <;> omega
    · omega)
  have HOP : Hid (p < w.heap.size ∧ sb < w.heap.size ∧ mb < w.heap.size) := Lib.hid ⟨h.dk.lt.1, h.dk.lt.2.1, h.dk.lt.2.2.1⟩
  have HOL : Hid (∀ k, OwnL g sv bv k → k < w.heap.size) := Lib.hid (fun k hk => (h.lg.own k hk).2)
  have HW0 := Lib.hid hW0
  have HOC := Lib.hid hoc
  have HST := Lib.hid hst
  clear h hst hW0 hoc
  go_enter Try.func36, Try.ntmps36
  go_wp2_with fail
  rw [← HW0.out]
  refine (Reset_any W0 p sb mb g B none s sv bv m HWA.out HST.out).mono ?_
  obtain ⟨fc9, hfc9⟩ : ∃ fc9, fc9 = (m.reset s).2.2 := ⟨_, rfl⟩
  rw [← hfc9]
  rintro e w1 ⟨rfl, ⟨sv1, bv1, hw1⟩, hm1⟩
  have HW1 := Lib.hid hw1
  have HM1 : Hid (Mod (OwnW p sb mb g) w w1) := Lib.hid ((Mod.of_below HB0.out _).trans hm1 (fun k hk e => e))
  have HA1 : Hid (Ask0 w w1 oc) := Lib.hid (HA0.out.mod hm1 (fun k hk => .inl (HOW.out k hk)))
  have l0 : w1.cell? ⟨w.heap.size, 0, none⟩ = some (.int .i64 0) := HA1.out.bl.cell 0
  have l1 : w1.cell? ⟨w.heap.size, 1, none⟩ = some (.int .i64 0) := HA1.out.bl.cell 1
  have l2 : w1.cell? ⟨w.heap.size, 2, none⟩ = some (.int .i64 0) := HA1.out.bl.cell 2
  have l3 : w1.cell? ⟨w.heap.size, 3, none⟩ = some (.int .i64 0) := HA1.out.bl.cell 3
  have l4 : w1.cell? ⟨w.heap.size, 4, none⟩ = some (.slice none 0 0) := HA1.out.bl.cell 4
  have l5 : w1.cell? ⟨w.heap.size, 5, none⟩ = some (.int .i64 0) := HA1.out.bl.cell 5
  have l6 : w1.cell? ⟨w.heap.size, 6, none⟩ = some (.slice none 0 0) := HA1.out.bl.cell 6
  have l7 : w1.cell? ⟨w.heap.size, 7, none⟩ = some (.bool false) := HA1.out.bl.cell 7
  have l8 : w1.cell? ⟨w.heap.size, 8, none⟩ = some (.bool false) := HA1.out.bl.cell 8
  have d0 : w1.cell? ⟨w.heap.size + 1, 0, none⟩ = some (.slice none 0 0) := HA1.out.bd.cell 0
  have d1 : w1.cell? ⟨w.heap.size + 1, 1, none⟩ = some (.slice none 0 0) := HA1.out.bd.cell 1
  have d2 : w1.cell? ⟨w.heap.size + 1, 2, none⟩ = some (.int .i64 0) := HA1.out.bd.cell 2
  have d3 : w1.cell? ⟨w.heap.size + 1, 3, none⟩ = some (.bool false) := HA1.out.bd.cell 3
  clear hw1 hm1 hfc9
  go_wp2_with fail
  refine (refReset0 w1).mono ?_
  rintro e w2 ⟨rfl, hb2⟩
  have HW2 := Lib.hid (HW1.out.below hb2)
  have HM2 : Hid (Mod (OwnW p sb mb g) w w2) := Lib.hid (HM1.out.trans' (Mod.of_below hb2 _))
  have HA2 : Hid (Ask0 w w2 oc) := Lib.hid (HA1.out.below hb2)
  clear hb2 l0 l1 l2 l3 l4 l5 l6 l7 l8 d0 d1 d2 d3
  go_wp2_with fail
  obtain ⟨W3, hW3⟩ : ∃ W3, W3 = (w2.alloc (.cells dskC 33)).alloc (.cells (logC true) 79) := ⟨_, rfl⟩
  rw [← hW3]
  obtain ⟨db, hdb⟩ : ∃ db, db = w2.heap.size := ⟨_, rfl⟩
  obtain ⟨lb, hlb⟩ : ∃ lb, lb = w2.heap.size + 1 := ⟨_, rfl⟩
  have hb3 : Below w2.heap.size w2 W3 := by rw [hW3]; exact ((Below.refl _ _).alloc (Nat.le_refl _) _).alloc (by simp) _
  have D3 : Hid (Blk W3 db 33 dskC) := Lib.hid (by rw [hW3, hdb]; exact (Blk.new _ _ _).alloc _)
  have L3 : Hid (Blk W3 lb 79 (logC true)) := Lib.hid (by
    rw [hW3, hlb]
    have := Blk.new (w2.alloc (.cells dskC 33)) 79 (logC true)
    rwa [size_alloc_] at this)
  have HA3 : Hid (Ask0 w W3 oc) := Lib.hid (HA2.out.below hb3)
  have HW3 := Lib.hid (HW2.out.below hb3)
  have HM3 : Hid (Mod (OwnW p sb mb g) w W3) := Lib.hid (HM2.out.trans' (Mod.of_below hb3 _))
  have hdl : w.heap.size + 1 + 1 + 1 + 1 < db := by have := HA2.out.size; omega
  have hdl2 : db < lb := by omega
  rw [← hlb, ← hdb]
  clear hW3 hlb hdb hb3
  have x0 : W3.cell? ⟨lb, 0, none⟩ = some (.int .i64 0) := L3.out.cell 0
  have x1 : W3.cell? ⟨lb, 1, none⟩ = some (.int .i64 0) := L3.out.cell 1
  have x2 : W3.cell? ⟨lb, 2, none⟩ = some (.int .i64 0) := L3.out.cell 2
  have x3 : W3.cell? ⟨lb, 3, none⟩ = some (.int .i64 0) := L3.out.cell 3
  have x4 : W3.cell? ⟨lb, 4, none⟩ = some (.slice none 0 0) := L3.out.cell 4
  have x5 : W3.cell? ⟨lb, 5, none⟩ = some (.int .i64 0) := L3.out.cell 5
  have x6 : W3.cell? ⟨lb, 6, none⟩ = some (.slice none 0 0) := L3.out.cell 6
  have x7 : W3.cell? ⟨lb, 7, none⟩ = some (.bool false) := L3.out.cell 7
  have x8 : W3.cell? ⟨lb, 8, none⟩ = some (.bool true) := L3.out.cell 8
  have y0 : W3.cell? ⟨db, 0, none⟩ = some (.slice none 0 0) := D3.out.cell 0
  have y1 : W3.cell? ⟨db, 1, none⟩ = some (.slice none 0 0) := D3.out.cell 1
  have y2 : W3.cell? ⟨db, 2, none⟩ = some (.int .i64 0) := D3.out.cell 2
  have y3 : W3.cell? ⟨db, 3, none⟩ = some (.bool false) := D3.out.cell 3
  have r0 : W3.cell? ⟨w.heap.size + 1 + 1 + 1, 0, none⟩ = some (.int .i64 0) := HA3.out.rl.cell 0
  have gr0 := HA3.out.rl.frozen 0
  have r1 : W3.cell? ⟨w.heap.size + 1 + 1 + 1, 1, none⟩ = some (.int .i64 0) := HA3.out.rl.cell 1
  have gr1 := HA3.out.rl.frozen 1
  have r2 : W3.cell? ⟨w.heap.size + 1 + 1 + 1, 2, none⟩ = some (.int .i64 0) := HA3.out.rl.cell 2
  have gr2 := HA3.out.rl.frozen 2
  have r3 : W3.cell? ⟨w.heap.size + 1 + 1 + 1, 3, none⟩ = some (.int .i64 0) := HA3.out.rl.cell 3
  have gr3 := HA3.out.rl.frozen 3
  have r4 : W3.cell? ⟨w.heap.size + 1 + 1 + 1, 4, none⟩ = some (.slice none 0 0) := HA3.out.rl.cell 4
  have gr4 := HA3.out.rl.frozen 4
  have r5 : W3.cell? ⟨w.heap.size + 1 + 1 + 1, 5, none⟩ = some (.int .i64 0) := HA3.out.rl.cell 5
  have gr5 := HA3.out.rl.frozen 5
  have r6 : W3.cell? ⟨w.heap.size + 1 + 1 + 1, 6, none⟩ = some (.slice none 0 0) := HA3.out.rl.cell 6
  have gr6 := HA3.out.rl.frozen 6
  have r7 : W3.cell? ⟨w.heap.size + 1 + 1 + 1, 7, none⟩ = some (.bool false) := HA3.out.rl.cell 7
  have gr7 := HA3.out.rl.frozen 7
  have r8 : W3.cell? ⟨w.heap.size + 1 + 1 + 1, 8, none⟩ = some (.bool false) := HA3.out.rl.cell 8
  have gr8 := HA3.out.rl.frozen 8
  have q0 : W3.cell? ⟨w.heap.size + 1 + 1 + 1 + 1, 0, none⟩ = some (.slice none 0 0) := HA3.out.rd.cell 0
  have gq0 := HA3.out.rd.frozen 0
  have q1 : W3.cell? ⟨w.heap.size + 1 + 1 + 1 + 1, 1, none⟩ = some (.slice none 0 0) := HA3.out.rd.cell 1
  have gq1 := HA3.out.rd.frozen 1
  have q2 : W3.cell? ⟨w.heap.size + 1 + 1 + 1 + 1, 2, none⟩ = some (.int .i64 0) := HA3.out.rd.cell 2
  have gq2 := HA3.out.rd.frozen 2
  have q3 : W3.cell? ⟨w.heap.size + 1 + 1 + 1 + 1, 3, none⟩ = some (.bool false) := HA3.out.rd.cell 3
  have gq3 := HA3.out.rd.frozen 3
  go_region
  all_goals (
    obtain ⟨W9, hW9⟩ : ∃ W9, W9 = (((((((((((((W3.setCell ⟨w.heap.size + 1 + 1 + 1, 0, none⟩ (.int .i64 0)).setCell ⟨w.heap.size + 1 + 1 + 1, 1, none⟩ (.int .i64 0)).setCell ⟨w.heap.size + 1 + 1 + 1, 2, none⟩ (.int .i64 0)).setCell ⟨w.heap.size + 1 + 1 + 1, 3, none⟩ (.int .i64 0)).setCell ⟨w.heap.size + 1 + 1 + 1, 4, none⟩ (.slice none 0 0)).setCell ⟨w.heap.size + 1 + 1 + 1, 5, none⟩ (.int .i64 0)).setCell ⟨w.heap.size + 1 + 1 + 1, 6, none⟩ (.slice none 0 0)).setCell ⟨w.heap.size + 1 + 1 + 1, 7, none⟩ (.bool false)).setCell ⟨w.heap.size + 1 + 1 + 1, 8, none⟩ (.bool true)).setCell ⟨w.heap.size + 1 + 1 + 1 + 1, 0, none⟩ (.slice none 0 0)).setCell ⟨w.heap.size + 1 + 1 + 1 + 1, 1, none⟩ (.slice none 0 0)).setCell ⟨w.heap.size + 1 + 1 + 1 + 1, 2, none⟩ (.int .i64 0)).setCell ⟨w.heap.size + 1 + 1 + 1 + 1, 3, none⟩ (.bool false)).drew := ⟨_, rfl⟩
    have hls := log_store (y := true) HA3.out.rl
    have hds := dsk_store (hls.2.1 _ _ _ (by simp) HA3.out.rd)
    have L9 : Blk W9 (w.heap.size + 1 + 1 + 1) 79 (logC true) := by rw [hW9]; exact (hds.2.1 _ _ _ (by simp) hls.1).drew
    have D9 : Blk W9 (w.heap.size + 1 + 1 + 1 + 1) 33 dskC := by rw [hW9]; exact hds.1.drew
    have HM9 : Hid (Mod (fun k => k = w.heap.size + 1 + 1 + 1 ∨ k = w.heap.size + 1 + 1 + 1 + 1) W3 W9) := Lib.hid (by rw [hW9]; exact (dsk_store_mod (.inr rfl) (log_store_mod (.inl rfl) (Mod.refl _ _))).drew)
    rw [← hW9]
    clear hls hds hW9 x0 x1 x2 x3 x4 x5 x6 x7 x8 y0 y1 y2 y3 r0 r1 r2 r3 r4 r5 r6 r7 r8 gr0 gr1 gr2 gr3 gr4 gr5 gr6 gr7 gr8 q0 q1 q2 q3 gq0 gq1 gq2 gq3
    have r0 : W9.cell? ⟨w.heap.size + 1 + 1 + 1, 0, none⟩ = some (.int .i64 0) := L9.cell 0
    have r1 : W9.cell? ⟨w.heap.size + 1 + 1 + 1, 1, none⟩ = some (.int .i64 0) := L9.cell 1
    have r2 : W9.cell? ⟨w.heap.size + 1 + 1 + 1, 2, none⟩ = some (.int .i64 0) := L9.cell 2
    have r3 : W9.cell? ⟨w.heap.size + 1 + 1 + 1, 3, none⟩ = some (.int .i64 0) := L9.cell 3
    have r4 : W9.cell? ⟨w.heap.size + 1 + 1 + 1, 4, none⟩ = some (.slice none 0 0) := L9.cell 4
    have r5 : W9.cell? ⟨w.heap.size + 1 + 1 + 1, 5, none⟩ = some (.int .i64 0) := L9.cell 5
    have r6 : W9.cell? ⟨w.heap.size + 1 + 1 + 1, 6, none⟩ = some (.slice none 0 0) := L9.cell 6
    have r7 : W9.cell? ⟨w.heap.size + 1 + 1 + 1, 7, none⟩ = some (.bool false) := L9.cell 7
    have r8 : W9.cell? ⟨w.heap.size + 1 + 1 + 1, 8, none⟩ = some (.bool true) := L9.cell 8
    have q0 : W9.cell? ⟨w.heap.size + 1 + 1 + 1 + 1, 0, none⟩ = some (.slice none 0 0) := D9.cell 0
    have q1 : W9.cell? ⟨w.heap.size + 1 + 1 + 1 + 1, 1, none⟩ = some (.slice none 0 0) := D9.cell 1
    have q2 : W9.cell? ⟨w.heap.size + 1 + 1 + 1 + 1, 2, none⟩ = some (.int .i64 0) := D9.cell 2
    have q3 : W9.cell? ⟨w.heap.size + 1 + 1 + 1 + 1, 3, none⟩ = some (.bool false) := D9.cell 3
    go_wp2_with fail
    apply bodyPost_ret
    · simp only [results, Try.results36]
      go_simp
      rfl
    · rfl
    · exact ⟨⟨_, rfl⟩, ⟨⟨_, _, HW3.out.aside HM9.out (by have := HOP.out; omega) (HW3.out.lg.ne_blk HA3.out.rl (by decide) (by decide) (by decide)) (HW3.out.lg.ne_blk HA3.out.rd (by decide) (by decide) (by decide))⟩, HM3.out.trans HM9.out (fun k hk e => by rcases e with e | e <;> omega)⟩⟩)
end Go.Proofs.Ytplkdcegfpiofaa
