/-
  The walk of DiskSizes.
-/
import Derived.Test.YtjjjikiopbmogaaF1
namespace Go.Proofs.Ytjjjikiopbmogaa
open Go.RowKit Go.Maps
set_option linter.unusedVariables false

theorem new_loose (n : Int) : (DS.new n).loose = [] := by unfold DS.loose DS.new; simp
theorem new_sec {n i : Int} {N : Nat} (hN : (DS.new n).safe.length = N) : (DS.new n).isSec i = (decide (0 ≤ i) && decide (i < N)) := by unfold DS.isSec; rw [hN]
theorem new_write {n i : Int} {N : Nat} (hN : (DS.new n).safe.length = N) (h : 0 ≤ i ∧ i < N) : (DS.new n).writeE i [120] = 0 ∧ (DS.new n).write i [120] = DS.put i (pad [120]) (DS.new n).tick :=
  Clean.write ⟨fun _ => rfl, rfl⟩ (by rw [new_sec hN]; simp; omega) (by simp)
theorem new_nowrite {n i : Int} {N : Nat} (hN : (DS.new n).safe.length = N) (h : ¬ (0 ≤ i ∧ i < N)) : (DS.new n).writeE i [120] = 1 ∧ (DS.new n).write i [120] = DS.new n := by
  have hs : (DS.new n).isSec i = false := by rw [new_sec hN]; simp; omega
  have ho : (DS.new n).off = false := rfl
  unfold DS.writeE DS.write
  rw [ho, hs]
  exact ⟨rfl, rfl⟩
theorem new_noread {n i : Int} {N : Nat} (hN : (DS.new n).safe.length = N) (h : ¬ (0 ≤ i ∧ i < N)) : (DS.new n).readE i = 1 := by
  have hs : (DS.new n).isSec i = false := by rw [new_sec hN]; simp; omega
  have ho : (DS.new n).off = false := rfl
  unfold DS.readE
  rw [ho, hs]
  rfl
theorem put_readE {n : Int} {i N : Nat} (hN : (DS.new n).safe.length = N) (h : i < N) : (DS.put (i : Int) (pad [120]) (DS.new n).tick).readE (i : Int) = 0 := by
  have hs : (DS.put (i : Int) (pad [120]) (DS.new n).tick).isSec (i : Int) = true := isSec_nat (by show i < (DS.new n).safe.length; omega)
  have ho : (DS.put (i : Int) (pad [120]) (DS.new n).tick).off = false := rfl
  unfold DS.readE
  rw [ho, hs]
  rfl
theorem Secs.two {w : World} {b x y : Nat} {r : List Nat} (h : Secs w b [x :: y :: r]) : w.cell? ⟨b, 0, none⟩ = some (.int .u8 x) ∧ w.cell? ⟨b, 1, none⟩ = some (.int .u8 y) := by
  have h1 := h.rb (B := w.heap.size) h.lt
  obtain ⟨_, _, A, c, e, _, _, h5⟩ := h1
  injection e with e _ _
  rcases h5 with h5 | ⟨b', off, e', _, hc⟩
  · cases h5
  · rw [← e] at e'
    injection e' with e'
    injection e' with e1 e2
    subst e1 e2
    exact ⟨by simpa using hc 0 x rfl, by simpa using hc 1 y rfl⟩

set_option maxRecDepth 100000 in
set_option maxHeartbeats 4000000 in
theorem diskSizes_any (w : World) (n at_ : Int) (hn : (Lit.int .i64 n).wf = true) (ha : (Lit.int .i64 at_).wf = true) :
    Calls Try.prog 4 #[.int .i64 n, .int .i64 at_] w fun e w' => e = .returned (.bool true) ∧ Below w.heap.size w w' := by
  have hcv := run_const
  obtain ⟨N, hN⟩ : ∃ N : Nat, N = (min (max n 0) 4096).toNat := ⟨_, rfl⟩
  have hlen : (DS.new n).safe.length = N := by unfold DS.new; rw [List.length_replicate, hN]
  have HLEN := Lib.hid hlen
  have HN := Lib.hid hN
  clear hlen
  go_enter Try.func4, Try.ntmps4
  go_wp2_with fail
  refine (alive_any w).mono ?_
  rintro e wa ⟨rfl, hba⟩
  have HBA := Lib.hid hba
  clear hba
  go_wp2_with fail
  refine (New_any n wa).mono ?_
  rintro e w0 ⟨rfl, hd0, hz0, hb0⟩
  obtain ⟨p, hp⟩ : ∃ p, p = wa.heap.size + 2 := ⟨_, rfl⟩
  obtain ⟨sb, hsb⟩ : ∃ sb, sb = wa.heap.size := ⟨_, rfl⟩
  obtain ⟨mb, hmb⟩ : ∃ mb, mb = wa.heap.size + 1 := ⟨_, rfl⟩
  rw [← hp, ← hmb] at hd0
  rw [← hsb] at hd0
  rw [← hp]
  have hwa := HBA.out.size
  have hown : w.heap.size ≤ p ∧ w.heap.size ≤ sb ∧ w.heap.size ≤ mb := by omega
  have HOWN := Lib.hid hown
  have HB0 : Hid (Below w.heap.size w w0) := HBA.out.trans (hb0.mono hwa)
  have HD0 := Lib.hid hd0
  clear hp hsb hmb hd0 hz0 hb0 hown hwa
  go_wp2_with fail
  refine (refNew_any n w0).mono ?_
  rintro e w1 ⟨vs, xs, rfl, hok, hxl, hb1⟩
  rw [← HN.out] at hxl
  obtain ⟨AV, cV, rfl, _, _, _, _⟩ := (hok.rk encS_len (Nat.le_refl _)).open_
  rw [hxl]
  have HD1 := Lib.hid (HD0.out.below hb1)
  have HB1 := Lib.hid (HB0.out.trans (hb1.mono HB0.out.size))
  clear hok hb1 hxl hN
  go_wp2_with fail
  obtain ⟨W, hW⟩ : ∃ W, W = w1.alloc (.cells #[.slice AV N cV, .slice none 0 0, .int .i64 0, .bool false] 33) := ⟨_, rfl⟩
  have hba : Below w1.heap.size w1 (w1.alloc (.cells #[.slice AV N cV, .slice none 0 0, .int .i64 0, .bool false] 33)) := (Below.refl _ _).alloc (Nat.le_refl _) _
  have hbk : Blk (w1.alloc (.cells #[.slice AV N cV, .slice none 0 0, .int .i64 0, .bool false] 33)) w1.heap.size 33 #[.slice AV N cV, .slice none 0 0, .int .i64 0, .bool false] := Blk.new _ _ _
  rw [← hW] at hba hbk ⊢
  have hdw := HD1.out.below hba
  have HDD : Hid (DiskAt W.drew p sb mb none (DS.new n)) := hdw.below (Below.refl _ _).drew
  have HBW := Lib.hid (HB1.out.trans (hba.mono HB1.out.size))
  have HBK := Lib.hid hbk
  have hqlt := hbk.lt
  have HQ : Hid (¬ Own p sb mb w1.heap.size) := HD1.out.own_lt (Nat.le_refl _)
  have c0 : W.cell? ⟨w1.heap.size, 0, none⟩ = some (.slice AV N cV) := hbk.cell 0
  clear hW hba hdw hbk HD0 HD1
  go_region_held3 (fun w' => w'.cell? ⟨w1.heap.size, 0, none⟩ = some (.slice AV N cV))
    (first | exact c0 | exact HK2.out)
    (first
      | (go_at_call 23; refine (Size_any _ p sb mb none (DS.new n) HDD.out).mono ?_; rw [HLEN.out]; rintro e w' ⟨rfl, rfl⟩)
      | (go_at_call 24; refine (Loose_any _ p sb mb none (DS.new n) HDD.out).mono ?_; rw [new_loose]; rintro e W2 ⟨v2, rfl, ho2, hb2⟩; obtain ⟨A2, c2, rfl, _, _, _, _⟩ := (ho2.rk encI_len (Nat.le_refl _)).open_; have HD2 := Lib.hid (HDD.out.below hb2); have HB2 : Hid (Below W.heap.size W W2) := ⟨hb2.os, hb2.tape, hb2.output, hb2.size, hb2.block⟩; have HK2 : Hid (W2.cell? ⟨w1.heap.size, 0, none⟩ = some (.slice AV N cV)) := (hb2.cell (p := ⟨w1.heap.size, 0, none⟩) hqlt).trans c0; clear ho2 hb2)
      | (go_at_call 25; refine (Steps_any _ p sb mb none (DS.new n) HD2.out).mono ?_; rw [show (((DS.new n).steps : Nat) : Int) = 0 from rfl]; rintro e w' ⟨rfl, rfl⟩)
      | (go_at_call 26; refine (Power_any _ p sb mb none (DS.new n) HD2.out).mono ?_; rw [show (DS.new n).off = false from rfl]; rintro e w' ⟨rfl, rfl⟩))
  go_wp2_with fail
  have hba2 : Below W2.heap.size W2 (W2.alloc (.cells #[.int .u8 120] 5 (1, 2))) := (Below.refl _ _).alloc (Nat.le_refl _) _
  have HD3 := Lib.hid (HD2.out.below hba2)
  have HBa := Lib.hid (HB2.out.trans (hba2.mono HB2.out.size))
  clear hba2
  refine (Write_any _ p sb mb none (DS.new n) at_ _ [120] HD3.out (by show (0 : Nat) < _; omega) (RB.one W2 120 (by omega)) (.inr (fun b e h => by simp [Value.ownBlock] at e; have h : b = p := h; have := HD2.out.lt.1; omega))).mono ?_
  rintro e w3 ⟨rfl, hd3, hm3⟩
  have c3 : w3.cell? ⟨w1.heap.size, 0, none⟩ = some (.slice AV N cV) := (hm3.cell (b := w1.heap.size) (Nat.lt_of_lt_of_le hqlt HBa.out.size) HQ.out 0).trans ((HBa.out.cell (p := ⟨w1.heap.size, 0, none⟩) hqlt).trans c0)
  have HB3 : Hid (Below w.heap.size w w3) := Mod.own (HBW.out.trans (HBa.out.mono HBW.out.size)) hm3 HOWN.out
  clear c0 hm3 hcv
  by_cases hin : 0 ≤ at_ ∧ at_ < N
  · obtain ⟨g1, g2⟩ := new_write HLEN.out hin
    rw [g1]
    rw [g2] at hd3
    clear g1 g2
    obtain ⟨i, rfl⟩ : ∃ i : Nat, at_ = (i : Int) := ⟨at_.toNat, by omega⟩
    have hi : i < N := by omega
    have hre := put_readE HLEN.out hi
    have HRE := Lib.hid hre
    have HD4 := Lib.hid hd3
    have hdec : (i : Int) < (N : Int) := hin.2
    have hdec0 : 0 ≤ (i : Int) := hin.1
    clear hd3 hre hin
    go_wp2_with fail
    refine (Read_any w3 p sb mb none _ HD4.out (i : Int)).mono ?_
    rintro e w4 ⟨vb, rfl, hb4, hvb⟩
    rw [HRE.out] at hvb ⊢
    rcases hvb with ⟨_, b4, rfl, hb0, hsb⟩ | ⟨hh, _⟩
    · rw [Int.toNat_natCast, put_has (s := (DS.new n).tick)] at hsb
      obtain ⟨k0, k1⟩ := Secs.two (r := List.replicate 510 0) hsb
      have k0 : w4.cell? ⟨b4, 0, none⟩ = some (.int .u8 120) := k0
      have k1 : w4.cell? ⟨b4, 1, none⟩ = some (.int .u8 0) := k1
      have HB4 := Lib.hid (HB3.out.trans (hb4.mono HB3.out.size))
      clear hsb hb0 hb4 c3
      go_wp2_with fail
      go_ret
      exact ⟨rfl, HB4.out⟩
    · exact absurd rfl hh
  · obtain ⟨g1, g2⟩ := new_nowrite HLEN.out hin
    rw [g1]
    rw [g2] at hd3
    have hre := new_noread HLEN.out hin
    have HRE := Lib.hid hre
    have HD4 := Lib.hid hd3
    clear hd3 hre g1 g2
    by_cases h0 : 0 ≤ at_
    · have h1 : ¬ at_ < (N : Int) := fun h => hin ⟨h0, h⟩
      clear hin
      go_wp2_with fail
      refine (Read_any w3 p sb mb none _ HD4.out at_).mono ?_
      rintro e w4 ⟨vb, rfl, hb4, hvb⟩
      rw [HRE.out] at hvb ⊢
      rcases hvb with ⟨hh, _⟩ | ⟨_, rfl⟩
      · exact absurd hh (by decide)
      · have HB4 := Lib.hid (HB3.out.trans (hb4.mono HB3.out.size))
        clear hb4 c3
        go_wp2_with fail
        go_ret
        exact ⟨rfl, HB4.out⟩
    · clear hin
      go_wp2_with fail
      refine (Read_any w3 p sb mb none _ HD4.out at_).mono ?_
      rintro e w4 ⟨vb, rfl, hb4, hvb⟩
      rw [HRE.out] at hvb ⊢
      rcases hvb with ⟨hh, _⟩ | ⟨_, rfl⟩
      · exact absurd hh (by decide)
      · have HB4 := Lib.hid (HB3.out.trans (hb4.mono HB3.out.size))
        clear hb4 c3
        go_wp2_with fail
        go_ret
        exact ⟨rfl, HB4.out⟩
end Go.Proofs.Ytjjjikiopbmogaa
