/-
  The walk of page's Parse at bytes whose head is wrong: it refuses them.
-/
import Derived.ChangeKeysEq
import Derived.Deep.CutRange
import Derived.Test.YtbagmmncjmbboaaGreatZQ1
import Derived.Test.YtbagmmncjmbboaaGreatZJ11
import Derived.Test.YtbagmmncjmbboaaGreatD8
namespace Go.Proofs.YtbagmmncjmbboaaGreat
open Go.RowKit Go.Maps
set_option linter.unusedVariables false

set_option maxRecDepth 100000 in
set_option maxHeartbeats 4000000 in
theorem parse_len (w : World) (A : Option Addr) (n c : Nat) (hbad : n ≠ 512) (hn : n ≤ 140737488355328) :
    Calls Tryz.prog 34 #[.slice A n c] w fun e w' => Below w.heap.size w w' ∧ e = .returned (.tuple #[.pointer none, .int .i64 80]) := by
  have hne : ((n : Int) == 512) = false := by simpa using (by omega : ¬ (n : Int) = 512)
  have hne2 : ((n : Int) != 512) = true := by simpa using hne
  go_enter Tryz.func34, Tryz.ntmps34
  go_wp2
  refine wp_scope_jumps 0 (NoneJ w True) (fun _ _ => 0) rfl ?first ?pass
  case pass =>
    rintro a' w' ⟨⟨tm, rfl, hsz⟩, hnf, hbl⟩
    go_wp2
    simp only [Exit.jump]
    refine bodyPost_ret (v := .tuple #[.pointer none, .int .i64 80]) ?_ rfl ⟨hbl, rfl⟩
    simp only [results, Tryz.results34]
    have h2 : 2 < tm.size := by omega
    have h3 : 3 < tm.size := by omega
    go_simp
  case first =>
    go_wp2_with fail
    have HBF : Hid (∀ q, Below w.heap.size w ((w.alloc (.cells #[.int .i64 0, .int .u8 0, .int .u32 0, .slice none 0 0] 122)).drewN q)) := Lib.hid fun q => ((Below.refl _ w).alloc (Nat.le_refl _) _).trans (((Mod.refl (fun k => w.heap.size ≤ k) _).drewN q).below (by simp) (fun k h => h))
    go_quiet (fail)
    go_wp2_with fail
    (go_step3; exact ⟨rfl, ⟨_, rfl, rfl⟩, trivial, HBF.out _⟩)

set_option maxRecDepth 100000 in
set_option maxHeartbeats 4000000 in
theorem parse_sum (w : World) (L : List Nat) (hlen : L.length = 512) (hbad : leV (L.take 4) ≠ crcSum (L.drop 4)) (b o c : Nat) (hc : 512 ≤ c) (hc2 : c ≤ 9223372036854775807) (hb : b < w.heap.size) (hv : RB w w.heap.size (.slice (some ⟨b, o, none⟩) 512 c) L) :
    Calls Tryz.prog 34 #[.slice (some ⟨b, o, none⟩) 512 c] w fun e w' => Below w.heap.size w w' ∧ e = .returned (.tuple #[.pointer none, .int .i64 80]) := by
  obtain ⟨cs, hcs⟩ : ∃ cs, cs = crcSum (L.drop 4) := ⟨_, rfl⟩
  obtain ⟨c4, hsum⟩ : ∃ c4, leV (L.take 4) = c4 := ⟨_, rfl⟩
  obtain ⟨ls, hls⟩ : ∃ ls, leV ((L.drop 4).take 8) = ls := ⟨_, rfl⟩
  obtain ⟨n, h17⟩ : ∃ n, L[17]? = some n := ⟨_, List.getElem?_eq_getElem (by omega)⟩
  have hls64 : ls < 18446744073709551616 := by
    have h1 := leV_lt ((L.drop 4).take 8) (fun x hx => hv.1 x (List.mem_of_mem_drop (List.mem_of_mem_take hx)))
    have h2 : ((L.drop 4).take 8).length = 8 := by rw [List.length_take, List.length_drop]; omega
    rw [h2, hls] at h1
    exact h1
  have hn256 : n < 256 := hv.1 n (List.mem_of_getElem? h17)
  have HV := Lib.hid hv
  have HLS8 := Lib.hid hls
  have HCS := Lib.hid hcs
  have H17 := Lib.hid h17
  have hcs32 : cs < 4294967296 := by rw [hcs]; exact crcSum_lt _ (fun x hx => hv.1 x (List.mem_of_mem_drop hx))
  have hc432 : c4 < 4294967296 := by
    have h1 := leV_lt (L.take 4) (fun x hx => hv.1 x (List.mem_of_mem_take hx))
    have h2 : (L.take 4).length = 4 := by rw [List.length_take]; omega
    rw [h2, hsum] at h1
    exact h1
  have hucs : IntKind.u64.wrap (cs : Int) = (cs : Int) := by rw [IntKind.wrap_u64]; omega
  have R0 : Hid (RB w w.heap.size (.slice (some ⟨b, o, none⟩) 4 c) (L.take 4)) := by
    have := hv.sub (lo := 0) (m := 4) (c' := c) (by omega) (by omega) hc2
    rw [List.drop_zero, Nat.add_zero] at this; exact this
  have R1 : Hid (RB w w.heap.size (.slice (some ⟨b, o + 4, none⟩) 508 (c - 4)) (L.drop 4)) := by
    have := hv.sub (lo := 4) (m := 508) (c' := c - 4) (by omega) (by omega) (by omega)
    rw [List.take_of_length_le (by rw [List.length_drop]; omega)] at this; exact this
  have E0 : Hid (leV (L.take 4) = c4) := hsum
  have hne : ((c4 : Int) == (cs : Int)) = false := by
    have : c4 ≠ cs := by rw [← hsum, hcs]; exact hbad
    simpa using (by omega : ¬ (c4 : Int) = (cs : Int))
  have hne2 : ((c4 : Int) != (cs : Int)) = true := by simpa using hne
  clear hv hcs hls h17 hsum hbad
  go_enter Tryz.func34, Tryz.ntmps34
  go_wp2
  refine wp_scope_jumps 0 (NoneJ w True) (fun _ _ => 0) rfl ?first ?pass
  case pass =>
    rintro a' w' ⟨⟨tm, rfl, hsz⟩, hnf, hbl⟩
    go_wp2
    simp only [Exit.jump]
    refine bodyPost_ret (v := .tuple #[.pointer none, .int .i64 80]) ?_ rfl ⟨hbl, rfl⟩
    simp only [results, Tryz.results34]
    have h2 : 2 < tm.size := by omega
    have h3 : 3 < tm.size := by omega
    go_simp
  case first =>
    go_wp2_with fail
    obtain ⟨W1, hW1⟩ : ∃ W1, W1 = w.alloc (.cells #[.int .i64 0, .int .u8 0, .int .u32 0, .slice none 0 0] 122) := ⟨_, rfl⟩
    rw [← hW1]
    obtain ⟨p, hp⟩ : ∃ p, p = w.heap.size := ⟨_, rfl⟩
    have hP1 : PageAt W1 p p (.slice none 0 0) [] ⟨0, 0, 0, []⟩ := by
      rw [hW1, hp]
      exact ⟨⟨by simp, by simp, by simp, by simp, by simp⟩, Blk.new _ _ _, OK.nil _ _, rfl, by simp, by simp [Value.ownBlock], Nat.le_refl _⟩
    have hw1 : Below p w W1 := by rw [hW1, hp]; exact (Below.refl _ _).alloc (Nat.le_refl _) _
    rw [← hp]
    have hbp : b < p := by omega
    have HP1 := Lib.hid hP1
    have HW1 := Lib.hid hw1
    have HP := Lib.hid hp
    have RA : Hid (RB W1.drew p (.slice (some ⟨b, o, none⟩) 4 c) (L.take 4)) := by show RB _ _ _ _; rw [HP.out]; exact (R0.out.below (by rw [← HP.out]; exact HW1.out)).drew
    have RA2 : Hid (RB (W1.drew.alloc (.cells #[.slice (some ⟨b, o + 4, none⟩) 508 (c - 4)] 22)) p (.slice (some ⟨b, o, none⟩) 4 c) (L.take 4)) := RA.out.alloc (Nat.le_of_lt HP1.out.lt) _
    have RS : Hid (RP (W1.drew.alloc (.cells #[.slice (some ⟨b, o + 4, none⟩) 508 (c - 4)] 22)) p W1.heap.size 0 [L.drop 4]) := RP.one rfl (Below.refl _ _).drew (by rw [HP.out]; exact R1.out.below (by rw [← HP.out]; exact HW1.out)) (Nat.le_of_lt HP1.out.lt)
    have hL4 : (L.take 4).length ≤ 8 := by rw [List.length_take]; omega
    have hc4 : (4 : Int) ≤ (c : Int) := by omega
    have hc4n : ¬ c = 4 := by omega
    clear hW1 hP1 hw1 hp
    go_region_held3 (fun _ => True) (trivial)
      (first
        | (go_at_call 72; refine (leGet_v (B := p) (by first | exact RA.out | exact RA2.out) hL4 E0.out).mono ?_; rintro e7 w7 ⟨rfl, rfl⟩)
        | (go_at_call 68; refine (sum_one RS.out HCS.out).mono ?_; rintro e7 w7 ⟨rfl, rfl⟩))
    all_goals (
      have HBF : Hid (Below w.heap.size w (W1.alloc (.cells #[.slice (some ⟨b, o + 4, none⟩) 508 (c - 4)] 22)).drew) := Lib.hid (by rw [← HP.out]; exact (HW1.out.alloc (Nat.le_of_lt HP1.out.lt) _).drew)
      clear RA RA2 RS
      go_wp2_with fail
      (go_step3; exact ⟨rfl, ⟨_, rfl, rfl⟩, trivial, HBF.out⟩))

set_option maxRecDepth 100000 in
set_option maxHeartbeats 4000000 in
theorem parse_lsn (w : World) (L : List Nat) (hlen : L.length = 512) (hok : leV (L.take 4) = crcSum (L.drop 4)) (hbad : 9223372036854775807 < leV ((L.drop 4).take 8)) (b o c : Nat) (hc : 512 ≤ c) (hc2 : c ≤ 9223372036854775807) (hb : b < w.heap.size) (hv : RB w w.heap.size (.slice (some ⟨b, o, none⟩) 512 c) L) :
    Calls Tryz.prog 34 #[.slice (some ⟨b, o, none⟩) 512 c] w fun e w' => Below w.heap.size w w' ∧ e = .returned (.tuple #[.pointer none, .int .i64 80]) := by
  obtain ⟨cs, hcs⟩ : ∃ cs, cs = crcSum (L.drop 4) := ⟨_, rfl⟩
  obtain ⟨c4, hsum⟩ : ∃ c4, leV (L.take 4) = c4 := ⟨_, rfl⟩
  obtain ⟨ls, hls⟩ : ∃ ls, leV ((L.drop 4).take 8) = ls := ⟨_, rfl⟩
  obtain ⟨n, h17⟩ : ∃ n, L[17]? = some n := ⟨_, List.getElem?_eq_getElem (by omega)⟩
  have hls64 : ls < 18446744073709551616 := by
    have h1 := leV_lt ((L.drop 4).take 8) (fun x hx => hv.1 x (List.mem_of_mem_drop (List.mem_of_mem_take hx)))
    have h2 : ((L.drop 4).take 8).length = 8 := by rw [List.length_take, List.length_drop]; omega
    rw [h2, hls] at h1
    exact h1
  have hn256 : n < 256 := hv.1 n (List.mem_of_getElem? h17)
  have HV := Lib.hid hv
  have HLS8 := Lib.hid hls
  have HCS := Lib.hid hcs
  have H17 := Lib.hid h17
  have hcs32 : cs < 4294967296 := by rw [hcs]; exact crcSum_lt _ (fun x hx => hv.1 x (List.mem_of_mem_drop hx))
  have hc432 : c4 < 4294967296 := by
    have h1 := leV_lt (L.take 4) (fun x hx => hv.1 x (List.mem_of_mem_take hx))
    have h2 : (L.take 4).length = 4 := by rw [List.length_take]; omega
    rw [h2, hsum] at h1
    exact h1
  have hucs : IntKind.u64.wrap (cs : Int) = (cs : Int) := by rw [IntKind.wrap_u64]; omega
  have R0 : Hid (RB w w.heap.size (.slice (some ⟨b, o, none⟩) 4 c) (L.take 4)) := by
    have := hv.sub (lo := 0) (m := 4) (c' := c) (by omega) (by omega) hc2
    rw [List.drop_zero, Nat.add_zero] at this; exact this
  have R1 : Hid (RB w w.heap.size (.slice (some ⟨b, o + 4, none⟩) 508 (c - 4)) (L.drop 4)) := by
    have := hv.sub (lo := 4) (m := 508) (c' := c - 4) (by omega) (by omega) (by omega)
    rw [List.take_of_length_le (by rw [List.length_drop]; omega)] at this; exact this
  have hgt : (9223372036854775807 : Int) < (ls : Int) := by rw [← hls]; omega
  have E0 : Hid (leV (L.take 4) = cs) := by show _ = _; rw [hcs]; exact hok
  clear hbad hv hcs hls h17 hsum hok
  go_enter Tryz.func34, Tryz.ntmps34
  go_wp2
  refine wp_scope_jumps 0 (NoneJ w True) (fun _ _ => 0) rfl ?first ?pass
  case pass =>
    rintro a' w' ⟨⟨tm, rfl, hsz⟩, hnf, hbl⟩
    go_wp2
    simp only [Exit.jump]
    refine bodyPost_ret (v := .tuple #[.pointer none, .int .i64 80]) ?_ rfl ⟨hbl, rfl⟩
    simp only [results, Tryz.results34]
    have h2 : 2 < tm.size := by omega
    have h3 : 3 < tm.size := by omega
    go_simp
  case first =>
    go_wp2_with fail
    obtain ⟨W1, hW1⟩ : ∃ W1, W1 = w.alloc (.cells #[.int .i64 0, .int .u8 0, .int .u32 0, .slice none 0 0] 122) := ⟨_, rfl⟩
    rw [← hW1]
    obtain ⟨p, hp⟩ : ∃ p, p = w.heap.size := ⟨_, rfl⟩
    have hP1 : PageAt W1 p p (.slice none 0 0) [] ⟨0, 0, 0, []⟩ := by
      rw [hW1, hp]
      exact ⟨⟨by simp, by simp, by simp, by simp, by simp⟩, Blk.new _ _ _, OK.nil _ _, rfl, by simp, by simp [Value.ownBlock], Nat.le_refl _⟩
    have hw1 : Below p w W1 := by rw [hW1, hp]; exact (Below.refl _ _).alloc (Nat.le_refl _) _
    rw [← hp]
    have hbp : b < p := by omega
    have HP1 := Lib.hid hP1
    have HW1 := Lib.hid hw1
    have HP := Lib.hid hp
    have RA : Hid (RB W1.drew p (.slice (some ⟨b, o, none⟩) 4 c) (L.take 4)) := by show RB _ _ _ _; rw [HP.out]; exact (R0.out.below (by rw [← HP.out]; exact HW1.out)).drew
    have RA2 : Hid (RB (W1.drew.alloc (.cells #[.slice (some ⟨b, o + 4, none⟩) 508 (c - 4)] 22)) p (.slice (some ⟨b, o, none⟩) 4 c) (L.take 4)) := RA.out.alloc (Nat.le_of_lt HP1.out.lt) _
    have RS : Hid (RP (W1.drew.alloc (.cells #[.slice (some ⟨b, o + 4, none⟩) 508 (c - 4)] 22)) p W1.heap.size 0 [L.drop 4]) := RP.one rfl (Below.refl _ _).drew (by rw [HP.out]; exact R1.out.below (by rw [← HP.out]; exact HW1.out)) (Nat.le_of_lt HP1.out.lt)
    have hL4 : (L.take 4).length ≤ 8 := by rw [List.length_take]; omega
    have hc4 : (4 : Int) ≤ (c : Int) := by omega
    have hc4n : ¬ c = 4 := by omega
    clear hW1 hP1 hw1 hp
    go_region_held3 (fun _ => True) (trivial)
      (first
        | (go_at_call 72; refine (leGet_v (B := p) (by first | exact RA.out | exact RA2.out) hL4 E0.out).mono ?_; rintro e7 w7 ⟨rfl, rfl⟩)
        | (go_at_call 68; refine (sum_one RS.out HCS.out).mono ?_; rintro e7 w7 ⟨rfl, rfl⟩))
    all_goals (
      obtain ⟨W2, hW2, hP2, hw2, hr2⟩ : ∃ W2, W2 = (W1.alloc (.cells #[.slice (some ⟨b, o + 4, none⟩) 508 (c - 4)] 22)).drew ∧ PageAt W2 p p (.slice none 0 0) [] ⟨0, 0, 0, []⟩ ∧ Below p w W2 ∧ RB W2 p (.slice (some ⟨b, o, none⟩) 512 c) L :=
        ⟨_, rfl, (HP1.out.alloc _).below (Below.refl _ _).drew, (HW1.out.alloc (Nat.le_of_lt HP1.out.lt) _).drew, by
          have h1 : RB w p (.slice (some ⟨b, o, none⟩) 512 c) L := by rw [HP.out]; exact HV.out
          exact ((h1.below HW1.out).alloc (Nat.le_of_lt HP1.out.lt) _).drew⟩
      rw [← hW2]
      have R5 : Hid (RB W2 p (.slice (some ⟨b, o + 4, none⟩) 8 (c - 4)) ((L.drop 4).take 8)) := hr2.sub (by omega) (by omega) (by omega)
      have E5 : Hid (leV ((L.drop 4).take 8) = ls) := HLS8
      have hl8 : ((L.drop 4).take 8).length ≤ 8 := by rw [List.length_take]; omega
      have e17 : L[17]? = some n := H17.out
      have k17 : W2.cell? ⟨b, o + 17, none⟩ = some (.int .u8 (n : Int)) := by
        obtain ⟨_, _, A, c0, e, _, _, h5⟩ := hr2
        injection e with e _ _
        rcases h5 with h5 | ⟨b', off, e', _, hx⟩
        · rw [h5] at e17; cases e17
        · rw [← e] at e'
          injection e' with e'
          injection e' with e4 e5
          subst e4 e5
          exact hx 17 n e17
      have hc12 : (12 : Int) ≤ (c : Int) := by omega
      have HP2 := Lib.hid hP2
      have HW2 := Lib.hid hw2
      have HR2 := Lib.hid hr2
      have HBF : Hid (Below w.heap.size w W2) := Lib.hid (by rw [← HP.out]; exact hw2)
      clear hW2 hP2 hw2 hr2 RA RA2 RS hL4 e17
      go_wp2_with fail
      refine (leGet_v R5.out hl8 E5.out).mono ?_
      rintro e7 w7 ⟨rfl, hw7⟩
      subst w7
      go_wp2_with fail
      (go_step3; exact ⟨rfl, ⟨_, rfl, rfl⟩, trivial, HBF.out⟩))

set_option maxRecDepth 100000 in
set_option maxHeartbeats 4000000 in
theorem parse_cnt (w : World) (L : List Nat) (hlen : L.length = 512) (hok : leV (L.take 4) = crcSum (L.drop 4)) (hlsn : leV ((L.drop 4).take 8) ≤ 9223372036854775807) (nb : Nat) (h17b : L[17]? = some nb) (hbad : 100 < nb) (b o c : Nat) (hc : 512 ≤ c) (hc2 : c ≤ 9223372036854775807) (hb : b < w.heap.size) (hv : RB w w.heap.size (.slice (some ⟨b, o, none⟩) 512 c) L) :
    Calls Tryz.prog 34 #[.slice (some ⟨b, o, none⟩) 512 c] w fun e w' => Below w.heap.size w w' ∧ e = .returned (.tuple #[.pointer none, .int .i64 80]) := by
  obtain ⟨cs, hcs⟩ : ∃ cs, cs = crcSum (L.drop 4) := ⟨_, rfl⟩
  obtain ⟨c4, hsum⟩ : ∃ c4, leV (L.take 4) = c4 := ⟨_, rfl⟩
  obtain ⟨ls, hls⟩ : ∃ ls, leV ((L.drop 4).take 8) = ls := ⟨_, rfl⟩
  obtain ⟨n, h17⟩ : ∃ n, L[17]? = some n := ⟨_, List.getElem?_eq_getElem (by omega)⟩
  have hls64 : ls < 18446744073709551616 := by
    have h1 := leV_lt ((L.drop 4).take 8) (fun x hx => hv.1 x (List.mem_of_mem_drop (List.mem_of_mem_take hx)))
    have h2 : ((L.drop 4).take 8).length = 8 := by rw [List.length_take, List.length_drop]; omega
    rw [h2, hls] at h1
    exact h1
  have hn256 : n < 256 := hv.1 n (List.mem_of_getElem? h17)
  have HV := Lib.hid hv
  have HLS8 := Lib.hid hls
  have HCS := Lib.hid hcs
  have H17 := Lib.hid h17
  have hcs32 : cs < 4294967296 := by rw [hcs]; exact crcSum_lt _ (fun x hx => hv.1 x (List.mem_of_mem_drop hx))
  have hc432 : c4 < 4294967296 := by
    have h1 := leV_lt (L.take 4) (fun x hx => hv.1 x (List.mem_of_mem_take hx))
    have h2 : (L.take 4).length = 4 := by rw [List.length_take]; omega
    rw [h2, hsum] at h1
    exact h1
  have hucs : IntKind.u64.wrap (cs : Int) = (cs : Int) := by rw [IntKind.wrap_u64]; omega
  have R0 : Hid (RB w w.heap.size (.slice (some ⟨b, o, none⟩) 4 c) (L.take 4)) := by
    have := hv.sub (lo := 0) (m := 4) (c' := c) (by omega) (by omega) hc2
    rw [List.drop_zero, Nat.add_zero] at this; exact this
  have R1 : Hid (RB w w.heap.size (.slice (some ⟨b, o + 4, none⟩) 508 (c - 4)) (L.drop 4)) := by
    have := hv.sub (lo := 4) (m := 508) (c' := c - 4) (by omega) (by omega) (by omega)
    rw [List.take_of_length_le (by rw [List.length_drop]; omega)] at this; exact this
  have hgt : ¬ (9223372036854775807 : Int) < (ls : Int) := by rw [← hls]; omega
  have hcn : (100 : Int) < (n : Int) := by
    have : nb = n := by rw [h17] at h17b; injection h17b with h; exact h.symm
    omega
  clear h17b hbad hlsn
  have E0 : Hid (leV (L.take 4) = cs) := by show _ = _; rw [hcs]; exact hok
  clear hv hcs hls h17 hsum hok
  go_enter Tryz.func34, Tryz.ntmps34
  go_wp2
  refine wp_scope_jumps 0 (NoneJ w True) (fun _ _ => 0) rfl ?first ?pass
  case pass =>
    rintro a' w' ⟨⟨tm, rfl, hsz⟩, hnf, hbl⟩
    go_wp2
    simp only [Exit.jump]
    refine bodyPost_ret (v := .tuple #[.pointer none, .int .i64 80]) ?_ rfl ⟨hbl, rfl⟩
    simp only [results, Tryz.results34]
    have h2 : 2 < tm.size := by omega
    have h3 : 3 < tm.size := by omega
    go_simp
  case first =>
    go_wp2_with fail
    obtain ⟨W1, hW1⟩ : ∃ W1, W1 = w.alloc (.cells #[.int .i64 0, .int .u8 0, .int .u32 0, .slice none 0 0] 122) := ⟨_, rfl⟩
    rw [← hW1]
    obtain ⟨p, hp⟩ : ∃ p, p = w.heap.size := ⟨_, rfl⟩
    have hP1 : PageAt W1 p p (.slice none 0 0) [] ⟨0, 0, 0, []⟩ := by
      rw [hW1, hp]
      exact ⟨⟨by simp, by simp, by simp, by simp, by simp⟩, Blk.new _ _ _, OK.nil _ _, rfl, by simp, by simp [Value.ownBlock], Nat.le_refl _⟩
    have hw1 : Below p w W1 := by rw [hW1, hp]; exact (Below.refl _ _).alloc (Nat.le_refl _) _
    rw [← hp]
    have hbp : b < p := by omega
    have HP1 := Lib.hid hP1
    have HW1 := Lib.hid hw1
    have HP := Lib.hid hp
    have RA : Hid (RB W1.drew p (.slice (some ⟨b, o, none⟩) 4 c) (L.take 4)) := by show RB _ _ _ _; rw [HP.out]; exact (R0.out.below (by rw [← HP.out]; exact HW1.out)).drew
    have RA2 : Hid (RB (W1.drew.alloc (.cells #[.slice (some ⟨b, o + 4, none⟩) 508 (c - 4)] 22)) p (.slice (some ⟨b, o, none⟩) 4 c) (L.take 4)) := RA.out.alloc (Nat.le_of_lt HP1.out.lt) _
    have RS : Hid (RP (W1.drew.alloc (.cells #[.slice (some ⟨b, o + 4, none⟩) 508 (c - 4)] 22)) p W1.heap.size 0 [L.drop 4]) := RP.one rfl (Below.refl _ _).drew (by rw [HP.out]; exact R1.out.below (by rw [← HP.out]; exact HW1.out)) (Nat.le_of_lt HP1.out.lt)
    have hL4 : (L.take 4).length ≤ 8 := by rw [List.length_take]; omega
    have hc4 : (4 : Int) ≤ (c : Int) := by omega
    have hc4n : ¬ c = 4 := by omega
    clear hW1 hP1 hw1 hp
    go_region_held3 (fun _ => True) (trivial)
      (first
        | (go_at_call 72; refine (leGet_v (B := p) (by first | exact RA.out | exact RA2.out) hL4 E0.out).mono ?_; rintro e7 w7 ⟨rfl, rfl⟩)
        | (go_at_call 68; refine (sum_one RS.out HCS.out).mono ?_; rintro e7 w7 ⟨rfl, rfl⟩))
    all_goals (
      obtain ⟨W2, hW2, hP2, hw2, hr2⟩ : ∃ W2, W2 = (W1.alloc (.cells #[.slice (some ⟨b, o + 4, none⟩) 508 (c - 4)] 22)).drew ∧ PageAt W2 p p (.slice none 0 0) [] ⟨0, 0, 0, []⟩ ∧ Below p w W2 ∧ RB W2 p (.slice (some ⟨b, o, none⟩) 512 c) L :=
        ⟨_, rfl, (HP1.out.alloc _).below (Below.refl _ _).drew, (HW1.out.alloc (Nat.le_of_lt HP1.out.lt) _).drew, by
          have h1 : RB w p (.slice (some ⟨b, o, none⟩) 512 c) L := by rw [HP.out]; exact HV.out
          exact ((h1.below HW1.out).alloc (Nat.le_of_lt HP1.out.lt) _).drew⟩
      rw [← hW2]
      have R5 : Hid (RB W2 p (.slice (some ⟨b, o + 4, none⟩) 8 (c - 4)) ((L.drop 4).take 8)) := hr2.sub (by omega) (by omega) (by omega)
      have E5 : Hid (leV ((L.drop 4).take 8) = ls) := HLS8
      have hl8 : ((L.drop 4).take 8).length ≤ 8 := by rw [List.length_take]; omega
      have e17 : L[17]? = some n := H17.out
      have k17 : W2.cell? ⟨b, o + 17, none⟩ = some (.int .u8 (n : Int)) := by
        obtain ⟨_, _, A, c0, e, _, _, h5⟩ := hr2
        injection e with e _ _
        rcases h5 with h5 | ⟨b', off, e', _, hx⟩
        · rw [h5] at e17; cases e17
        · rw [← e] at e'
          injection e' with e'
          injection e' with e4 e5
          subst e4 e5
          exact hx 17 n e17
      have hc12 : (12 : Int) ≤ (c : Int) := by omega
      have HP2 := Lib.hid hP2
      have HW2 := Lib.hid hw2
      have HR2 := Lib.hid hr2
      have HBF : Hid (Below w.heap.size w W2) := Lib.hid (by rw [← HP.out]; exact hw2)
      clear hW2 hP2 hw2 hr2 RA RA2 RS hL4 e17
      go_wp2_with fail
      refine (leGet_v R5.out hl8 E5.out).mono ?_
      rintro e7 w7 ⟨rfl, hw7⟩
      subst w7
      go_wp2_with fail
      (go_step3; exact ⟨rfl, ⟨_, rfl, rfl⟩, trivial, HBF.out⟩))

end Go.Proofs.YtbagmmncjmbboaaGreat

/-
  page's Parse at any bytes: what it says, in plain words.
-/
namespace Go.Proofs.YtbagmmncjmbboaaGreat
open Go.RowKit Go.Maps
set_option linter.unusedVariables false

/-- The head of a page is right: length, sum, LSN, count. -/
structure HeadOk (L : List Nat) : Prop where
  len : L.length = 512
  sum : leV (L.take 4) = crcSum (L.drop 4)
  lsn : leV ((L.drop 4).take 8) ≤ 9223372036854775807
  cnt : L.getD 17 0 ≤ 100

/-- These bytes are a page. -/
def IsPage (L : List Nat) (its : List (List Nat)) : Prop := HeadOk L ∧ PreFull L (L.getD 17 0) its

theorem its_exists (L : List Nat) : ∃ its, HeadOk L → Pre L (L.getD 17 0) its := by
  by_cases h : HeadOk L
  · obtain ⟨its, hp⟩ := pre_exists h.len h.cnt
    exact ⟨its, fun _ => hp⟩
  · exact ⟨[], fun h' => absurd h' h⟩

theorem pageParse_any (w : World) (L : List Nat) (v : Value) (hv : RB w w.heap.size v L) (its : List (List Nat)) (hP : HeadOk L → Pre L (L.getD 17 0) its) :
    Calls Tryz.prog 34 #[v] w fun e w' => Below w.heap.size w w' ∧ ((e = .returned (.tuple #[.pointer none, .int .i64 80]) ∧ ¬ IsPage L its) ∨ (IsPage L its ∧ ∃ p v' xs, e = .returned (.tuple #[.pointer (some ⟨p, 0, none⟩), .int .i64 0]) ∧ PageAt w' p w.heap.size v' xs (pgOf L its))) := by
  have hv0 := hv
  obtain ⟨hb, hl, A, c, rfl, hc, hc2, hx⟩ := hv
  by_cases hlen : L.length = 512
  · rcases hx with rfl | ⟨b, off, rfl, hbw, hcell⟩
    · simp at hlen
    · rw [hlen] at hv0 hc ⊢
      have h17 : L[17]? = some (L.getD 17 0) := by rw [List.getD, List.getElem?_eq_getElem (by omega)]; rfl
      by_cases hsum : leV (L.take 4) = crcSum (L.drop 4)
      · by_cases hlsn : leV ((L.drop 4).take 8) ≤ 9223372036854775807
        · by_cases hcnt : L.getD 17 0 ≤ 100
          · have HK : HeadOk L := ⟨hlen, hsum, hlsn, hcnt⟩
            refine (pageParse_pre w L hlen _ h17 hcnt its (hP HK) _ rfl hsum _ rfl hlsn b off c hc hc2 hbw hv0).mono ?_
            rintro e w' ⟨h1, h2⟩
            refine ⟨h1, ?_⟩
            rcases h2 with ⟨h2, h3⟩ | ⟨h2, h3⟩
            · exact .inl ⟨h2, fun h => h3 h.2⟩
            · exact .inr ⟨⟨HK, h2⟩, h3⟩
          · refine (parse_cnt w L hlen hsum hlsn _ h17 (by omega) b off c hc hc2 hbw hv0).mono ?_
            rintro e w' ⟨h1, h2⟩
            exact ⟨h1, .inl ⟨h2, fun h => hcnt h.1.cnt⟩⟩
        · refine (parse_lsn w L hlen hsum (by omega) b off c hc hc2 hbw hv0).mono ?_
          rintro e w' ⟨h1, h2⟩
          exact ⟨h1, .inl ⟨h2, fun h => hlsn h.1.lsn⟩⟩
      · refine (parse_sum w L hlen hsum b off c hc hc2 hbw hv0).mono ?_
        rintro e w' ⟨h1, h2⟩
        exact ⟨h1, .inl ⟨h2, fun h => hsum h.1.sum⟩⟩
  · refine (parse_len w A L.length c hlen hl).mono ?_
    rintro e w' ⟨h1, h2⟩
    exact ⟨h1, .inl ⟨h2, fun h => hlen h.1.len⟩⟩

end Go.Proofs.YtbagmmncjmbboaaGreat

/-
  The walk of page's Parse at the bytes of a page, once more: its items lie in memory laid since.
-/
namespace Go.Proofs.YtbagmmncjmbboaaGreat
open Go.RowKit Go.Maps
set_option linter.unusedVariables false

theorem ItemsIn.snoc {Q : Nat → Prop} {xs : List Sl} {L : List (List Nat)} {y : Sl} {it : List Nat} (h : ItemsIn Q xs L) (hl : xs.length = L.length) (hy : Off (fun k => ¬ Q k) (slV y) it) : ItemsIn Q (xs ++ [y]) (L ++ [it]) := fun j x l hx hl' => by
  by_cases hj : j < xs.length
  · rw [List.getElem?_append_left hj] at hx
    rw [List.getElem?_append_left (by omega)] at hl'
    exact h j x l hx hl'
  · rw [List.getElem?_append_right (by omega)] at hx
    rw [List.getElem?_append_right (by omega)] at hl'
    have hj0 : j - xs.length = 0 := by
      have := (List.getElem?_eq_some_iff.1 hx).1
      simp at this; omega
    rw [hj0] at hx
    rw [← hl, hj0] at hl'
    simp at hx hl'
    subst hx hl'
    exact hy

set_option maxRecDepth 100000 in
set_option maxHeartbeats 2000000 in
theorem pageParse_in (w : World) (m : PG) (hm : m.Ok) (hf : m.Fit) (b o c : Nat) (hc : 512 ≤ c) (hc2 : c ≤ 9223372036854775807) (hb : b < w.heap.size) (hv : RB w w.heap.size (.slice (some ⟨b, o, none⟩) 512 c) (pageL m)) :
    Calls Tryz.prog 34 #[.slice (some ⟨b, o, none⟩) 512 c] w fun e w' => ∃ p v' xs, e = .returned (.tuple #[.pointer (some ⟨p, 0, none⟩), .int .i64 0]) ∧ PageAt w' p w.heap.size v' xs m ∧ Below w.heap.size w w' ∧ ItemsIn (fun k => w.heap.size ≤ k) xs m.items := by
  have HM := Lib.hid hm
  have HF := Lib.hid hf
  have HV := Lib.hid hv
  have hlen := pageL_len hf
  obtain ⟨L, hL⟩ : ∃ L, L = pageL m := ⟨_, rfl⟩
  rw [← hL] at hlen hv HV
  have HL := Lib.hid hL
  have hnum := hm.num
  obtain ⟨n, hn⟩ : ∃ n, n = m.items.length := ⟨_, rfl⟩
  rw [← hn] at hnum
  have HN := Lib.hid hn
  obtain ⟨ls, hls⟩ : ∃ ls : Nat, m.lsn = (ls : Int) := ⟨m.lsn.toNat, by have := hm.lsn; omega⟩
  have hls2 : ls ≤ 9223372036854775807 := by have := hm.lsn; omega
  obtain ⟨kd, hkd⟩ : ∃ kd, kd = m.kind := ⟨_, rfl⟩
  obtain ⟨ex, hexx⟩ : ∃ ex, ex = m.extra := ⟨_, rfl⟩
  have hk := hm.kind
  have hex := hm.extra
  rw [← hkd] at hk
  rw [← hexx] at hex
  have HLS := Lib.hid hls
  have HKD := Lib.hid hkd
  have HEX := Lib.hid hexx
  obtain ⟨cs, hcs⟩ : ∃ cs, cs = crcSum m.body := ⟨_, rfl⟩
  have hblt : ∀ x ∈ m.body, x < 256 := fun x hx => hv.1 x (by rw [hL]; unfold pageL; exact List.mem_append_right _ hx)
  have hcs32 : cs < 4294967296 := by rw [hcs]; exact crcSum_lt _ hblt
  have HCS : Hid (cs = crcSum m.body) := Lib.hid hcs
  have hucs : IntKind.u64.wrap (cs : Int) = (cs : Int) := by rw [IntKind.wrap_u64]; omega
  -- the parts, in the words of the walk
  have R0 : Hid (RB w w.heap.size (.slice (some ⟨b, o, none⟩) 4 c) (L.take 4)) := by
    have := hv.sub (lo := 0) (m := 4) (c' := c) (by omega) (by omega) hc2
    rw [List.drop_zero, Nat.add_zero] at this; exact this
  have R1 : Hid (RB w w.heap.size (.slice (some ⟨b, o + 4, none⟩) 508 (c - 4)) m.body) := by
    have := hv.sub (lo := 4) (m := 508) (c' := c - 4) (by omega) (by omega) (by omega)
    rw [List.take_of_length_le (by rw [List.length_drop]; omega), hL, (pg_sum m).2] at this; exact this
  have E0 : Hid (leV (L.take 4) = cs) := by show _ = _; rw [hL, (pg_sum m).1, leV_digits_of (by omega), hcs]
  have hbd : ∀ k, k ≤ n → 18 + 2 * k + sumTo m.items k ≤ 512 := fun k hk => hf.at_ (by rw [← hn]; exact hk)
  have HBD := Lib.hid hbd
  clear hm hf hv hL hn hls hkd hexx hcs hblt hbd
  go_enter Tryz.func34, Tryz.ntmps34
  go_wp2
  go_step3
  go_wp2_with fail
  obtain ⟨W1, hW1⟩ : ∃ W1, W1 = w.alloc (.cells #[.int .i64 0, .int .u8 0, .int .u32 0, .slice none 0 0] 122) := ⟨_, rfl⟩
  rw [← hW1]
  obtain ⟨p, hp⟩ : ∃ p, p = w.heap.size := ⟨_, rfl⟩
  have hP1 : PageAt W1 p p (.slice none 0 0) [] ⟨0, 0, 0, []⟩ := by
    rw [hW1, hp]
    exact ⟨⟨by simp, by simp, by simp, by simp, by simp⟩, Blk.new _ _ _, OK.nil _ _, rfl, by simp, by simp [Value.ownBlock], Nat.le_refl _⟩
  have hw1 : Below p w W1 := by rw [hW1, hp]; exact (Below.refl _ _).alloc (Nat.le_refl _) _
  rw [← hp]
  have hbp : b < p := by omega
  have HP1 := Lib.hid hP1
  have HW1 := Lib.hid hw1
  have HP := Lib.hid hp
  have RA : Hid (RB W1.drew p (.slice (some ⟨b, o, none⟩) 4 c) (L.take 4)) := by show RB _ _ _ _; rw [HP.out]; exact (R0.out.below (by rw [← HP.out]; exact HW1.out)).drew
  have RA2 : Hid (RB (W1.drew.alloc (.cells #[.slice (some ⟨b, o + 4, none⟩) 508 (c - 4)] 22)) p (.slice (some ⟨b, o, none⟩) 4 c) (L.take 4)) := RA.out.alloc (Nat.le_of_lt HP1.out.lt) _
  have RS : Hid (RP (W1.drew.alloc (.cells #[.slice (some ⟨b, o + 4, none⟩) 508 (c - 4)] 22)) p W1.heap.size 0 [m.body]) := RP.one rfl (Below.refl _ _).drew (by rw [HP.out]; exact R1.out.below (by rw [← HP.out]; exact HW1.out)) (Nat.le_of_lt HP1.out.lt)
  have hL4 : (L.take 4).length ≤ 8 := by rw [List.length_take]; omega
  have hc4 : (4 : Int) ≤ (c : Int) := by omega
  have hc4n : ¬ c = 4 := by omega
  clear hW1 hP1 hw1 hp
  go_region_held3 (fun _ => True) (trivial)
    (first
      | (go_at_call 72; refine (leGet_v (B := p) (by first | exact RA.out | exact RA2.out) hL4 E0.out).mono ?_; rintro e7 w7 ⟨rfl, rfl⟩)
      | (go_at_call 68; refine (sum_one RS.out HCS.out).mono ?_; rintro e7 w7 ⟨rfl, rfl⟩))
  all_goals (
    obtain ⟨W2, hW2, hP2, hw2, hr2⟩ : ∃ W2, W2 = (W1.alloc (.cells #[.slice (some ⟨b, o + 4, none⟩) 508 (c - 4)] 22)).drew ∧ PageAt W2 p p (.slice none 0 0) [] ⟨0, 0, 0, []⟩ ∧ Below p w W2 ∧ RB W2 p (.slice (some ⟨b, o, none⟩) 512 c) L :=
      ⟨_, rfl, (HP1.out.alloc _).below (Below.refl _ _).drew, (HW1.out.alloc (Nat.le_of_lt HP1.out.lt) _).drew, by
        have h1 : RB w p (.slice (some ⟨b, o, none⟩) 512 c) L := by rw [HP.out]; exact HV.out
        exact ((h1.below HW1.out).alloc (Nat.le_of_lt HP1.out.lt) _).drew⟩
    rw [← hW2]
    have R5 : Hid (RB W2 p (.slice (some ⟨b, o + 4, none⟩) 8 (c - 4)) ((L.drop 4).take 8)) := hr2.sub (by omega) (by omega) (by omega)
    have E5 : Hid (leV ((L.drop 4).take 8) = ls) := by show _ = _; rw [HL.out, pg_lsn, HLS.out, Int.toNat_natCast, leV_digits_of (by omega)]
    have hl8 : ((L.drop 4).take 8).length ≤ 8 := by rw [List.length_take]; omega
    have hgt : decide ((9223372036854775807 : Int) < (ls : Int)) = false := by simp; omega
    have hgt2 : ¬ (9223372036854775807 : Int) < (ls : Int) := by omega
    have hn100 : decide ((100 : Int) < (n : Int)) = false := by simp; omega
    have hn100b : ¬ (100 : Int) < (n : Int) := by omega
    have e17 : L[17]? = some n := by rw [HL.out, pg_count, ← HN.out]
    have k17 : W2.cell? ⟨b, o + 17, none⟩ = some (.int .u8 (n : Int)) := by
      obtain ⟨_, _, A, c0, e, _, _, h5⟩ := hr2
      injection e with e _ _
      rcases h5 with h5 | ⟨b', off, e', _, hx⟩
      · rw [h5] at e17; cases e17
      · rw [← e] at e'
        injection e' with e'
        injection e' with e4 e5
        subst e4 e5
        exact hx 17 n e17
    have hc12 : (12 : Int) ≤ (c : Int) := by omega
    have HP2 := Lib.hid hP2
    have HW2 := Lib.hid hw2
    have HR2 := Lib.hid hr2
    clear hW2 hP2 hw2 hr2 RA RA2 RS hL4 e17
    go_wp2_with fail
    refine (leGet_v R5.out hl8 E5.out).mono ?_
    rintro e7 w7 ⟨rfl, hw7⟩
    subst w7
    go_wp2_with fail
    refine (clone_any _ _ L (HR2.out.more (Nat.le_of_lt HP2.out.lt))).mono ?_
    rintro e8 w3 ⟨v3, rfl, ho3, hb3⟩
    obtain ⟨g, cap, rfl, hg1, hg2, hg3, hg4, -⟩ := ho3.form (by omega)
    rw [hlen] at ho3 hg3
    have hR3 : RB w3 w3.heap.size (.slice (some ⟨g, 0, none⟩) 512 cap) L := ho3.rbn
    have HR3 := Lib.hid hR3
    have HW3 : Hid (Below p w w3) := HW2.out.trans (hb3.mono (Nat.le_of_lt HP2.out.lt))
    have HP3 := Lib.hid (HP2.out.below hb3)
    have hgp : p < g := by have := HP2.out.lt; omega
    have hR7 : RB w3 w3.heap.size (.slice (some ⟨g, 4, none⟩) 8 (cap - 4)) ((L.drop 4).take 8) := by have := hR3.sub (lo := 4) (m := 8) (c' := cap - 4) (by omega) (by omega) (by omega); rw [Nat.zero_add] at this; exact this
    have hR9 : RB w3 w3.heap.size (.slice (some ⟨g, 13, none⟩) 4 (cap - 13)) ((L.drop 13).take 4) := by have := hR3.sub (lo := 13) (m := 4) (c' := cap - 13) (by omega) (by omega) (by omega); rw [Nat.zero_add] at this; exact this
    have HO3 : Hid (OB w3 W2.heap.size (.slice (some ⟨g, 0, none⟩) 512 cap) L) := Lib.hid ho3
    have kcell : ∀ (i x : Nat), L[i]? = some x → w3.cell? ⟨g, i, none⟩ = some (.int .u8 (x : Int)) := fun i x hx => by
      obtain ⟨_, _, A, c0, e, _, _, h5⟩ := hR3
      injection e with e _ _
      rcases h5 with h5 | ⟨b', off, e', _, hx'⟩
      · rw [h5] at hx; cases hx
      · rw [← e] at e'
        injection e' with e'
        injection e' with e4 e5
        subst e4 e5
        have := hx' i x hx
        rw [Nat.zero_add] at this; exact this
    have k12 : w3.cell? ⟨g, 12, none⟩ = some (.int .u8 (kd : Int)) := kcell 12 kd (by rw [HL.out, pg_kind, ← HKD.out])
    have kg17 : w3.cell? ⟨g, 17, none⟩ = some (.int .u8 (n : Int)) := kcell 17 n (by rw [HL.out, pg_count, ← HN.out])
    have HKC := Lib.hid kcell
    have E9 : Hid (leV ((L.drop 13).take 4) = ex) := by show _ = _; rw [HL.out, pg_extra, ← HEX.out, leV_digits_of (by omega)]
    have hl4 : ((L.drop 13).take 4).length ≤ 8 := by rw [List.length_take]; omega
    have hcap4 : (12 : Int) ≤ (cap : Int) := by omega
    have hcap17 : (17 : Int) ≤ (cap : Int) := by omega
    have hn4 : ¬ cap = 4 := by omega
    have hn13 : ¬ cap = 13 := by omega
    have hwl : IntKind.i64.wrap (ls : Int) = (ls : Int) := by rw [IntKind.wrap_i64]; omega
    have hwe : IntKind.u32.wrap (ex : Int) = (ex : Int) := by rw [IntKind.wrap_u32]; omega
    have q0 : w3.cell? ⟨p, 0, none⟩ = some (.int .i64 0) := HP3.out.blk.cell 0
    have q0f := HP3.out.blk.frozen 0
    have q1 : w3.cell? ⟨p, 1, none⟩ = some (.int .u8 0) := HP3.out.blk.cell 1
    have q1f := HP3.out.blk.frozen 1
    have q2 : w3.cell? ⟨p, 2, none⟩ = some (.int .u32 0) := HP3.out.blk.cell 2
    have q2f := HP3.out.blk.frozen 2
    have hgp1 : ¬ g = p := by omega
    have hgp2 : ¬ p = g := by omega
    have R7 := Lib.hid hR7
    have R9 := Lib.hid hR9
    clear hR3 ho3 hb3 hR7 hR9 kcell k17 hgt hgt2 hg1
    go_wp2_with fail
    refine (leGet_v R7.out hl8 E5.out).mono ?_
    rintro e9 w9 ⟨rfl, hw9⟩
    subst w9
    obtain ⟨W4, hW4⟩ : ∃ W4, W4 = w3.setCell ⟨p, 0, none⟩ (.int .i64 (ls : Int)) := ⟨_, rfl⟩
    obtain ⟨W5, hW5⟩ : ∃ W5, W5 = W4.setCell ⟨p, 1, none⟩ (.int .u8 (kd : Int)) := ⟨_, rfl⟩
    have hpw3 : p < w3.heap.size := HP3.out.lt
    have hb4 : Blk W4 p 122 #[.int .i64 (ls : Int), .int .u8 ((0 : Nat) : Int), .int .u32 ((0 : Nat) : Int), .slice none 0 0] := by rw [hW4]; exact HP3.out.blk.set_ 0 (.int .i64 (ls : Int))
    have hb5 : Blk W5 p 122 #[.int .i64 (ls : Int), .int .u8 (kd : Int), .int .u32 ((0 : Nat) : Int), .slice none 0 0] := by rw [hW5]; exact hb4.set_ 1 (.int .u8 (kd : Int))
    have hm4 : Mod (fun q => q = p) w3 W4 := by rw [hW4]; exact mod_set
    have hm5 : Mod (fun q => q = p) w3 W5 := by rw [hW5]; exact hm4.trans' mod_set
    have hgl := (HO3.out.lt g rfl).2
    have R9b : Hid (RB ((w3.setCell ⟨p, 0, none⟩ (.int .i64 (ls : Int))).setCell ⟨p, 1, none⟩ (.int .u8 (kd : Int))) ((w3.setCell ⟨p, 0, none⟩ (.int .i64 (ls : Int))).setCell ⟨p, 1, none⟩ (.int .u8 (kd : Int))).heap.size (.slice (some ⟨g, 13, none⟩) 4 (cap - 13)) ((L.drop 13).take 4)) := by
      have := R9.out.mod hm5 (.inr fun b' e he => by injection e with e; simp at e; omega)
      rw [hW5, hW4] at this
      exact this
    have HM5 := Lib.hid hm5
    have HB5 := Lib.hid hb5
    have HW4 := Lib.hid hW4
    have HW5 := Lib.hid hW5
    clear hW4 hW5 hb4 hb5 hm4 hm5
    go_wp2_with fail
    refine (leGet_v R9b.out hl4 E9.out).mono ?_
    rintro e10 w10 ⟨rfl, hw10⟩
    subst w10
    have hwn : IntKind.i64.wrap (n : Int) = (n : Int) := by rw [IntKind.wrap_i64]; omega
    have k17c : (((w3.setCell ⟨p, 0, none⟩ (.int .i64 (ls : Int))).setCell ⟨p, 1, none⟩ (.int .u8 (kd : Int))).setCell ⟨p, 2, none⟩ (.int .u32 (ex : Int))).cell? ⟨g, 17, none⟩ = some (.int .u8 (n : Int)) := by
      have hm : Mod (fun q => q = p) w3 (((w3.setCell ⟨p, 0, none⟩ (.int .i64 (ls : Int))).setCell ⟨p, 1, none⟩ (.int .u8 (kd : Int))).setCell ⟨p, 2, none⟩ (.int .u32 (ex : Int))) := (mod_set.trans' mod_set).trans' mod_set
      exact (hm.cell hgl hgp1 17).trans kg17
    have hcap18 : (17 : Int) < (cap : Int) := by omega
    go_wp2_with fail
    obtain ⟨W6, hW6, hP6, hR6, hw6⟩ : ∃ W6, W6 = ((w3.setCell ⟨p, 0, none⟩ (.int .i64 (ls : Int))).setCell ⟨p, 1, none⟩ (.int .u8 (kd : Int))).setCell ⟨p, 2, none⟩ (.int .u32 (ex : Int)) ∧ PageAt W6 p p (.slice none 0 0) [] (m.first 0) ∧ RB W6 W6.heap.size (.slice (some ⟨g, 0, none⟩) 512 cap) L ∧ Below p w W6 := by
      have hm : Mod (fun q => q = p) w3 (((w3.setCell ⟨p, 0, none⟩ (.int .i64 (ls : Int))).setCell ⟨p, 1, none⟩ (.int .u8 (kd : Int))).setCell ⟨p, 2, none⟩ (.int .u32 (ex : Int))) := (mod_set.trans' mod_set).trans' mod_set
      refine ⟨_, rfl, ⟨HM.out.first 0, ?_, OK.nil _ _, rfl, fun j x l hx => by simp at hx, by simp [Value.ownBlock], Nat.le_refl _⟩, HR3.out.mod hm (.inr fun b' e he => by injection e with e; simp at e; omega), HW3.out.trans (hm.below (Nat.le_of_lt HP3.out.lt) (fun k e => Nat.le_of_eq e.symm))⟩
      have h0 := ((HP3.out.blk.set_ 0 (.int .i64 (ls : Int))).set_ 1 (.int .u8 (kd : Int))).set_ 2 (.int .u32 (ex : Int))
      unfold PG.first
      dsimp only
      rw [HLS.out, ← HKD.out, ← HEX.out]
      exact h0
    rw [← hW6]
    have HP6 := Lib.hid hP6
    have HR6 := Lib.hid hR6
    have HW6 := Lib.hid hw6
    clear hW6 hP6 hR6 hw6 q0 q0f q1 q1f q2 q2f k12 kg17 k17c hwl hwe hcap4 hcap17 hcap18 hn4 hn13
    go_loopw [7, 65] (fun bg i wr => ∃ (k e : Nat) (A : Option Addr) (cr : Nat) (xs : List Sl), k ≤ n ∧ i = .int .i64 k ∧ bg = .int .i64 e ∧ Hid (e = 512 - sumTo m.items k) ∧ Hid (PageAt wr p p (.slice A k cr) xs (m.first k)) ∧ Hid (RB wr wr.heap.size (.slice (some ⟨g, 0, none⟩) 512 cap) L) ∧ Hid (Below p w wr) ∧ Hid ((Value.slice A k cr).ownBlock ≠ some g) ∧ Hid (ItemsIn (fun q => q = g) xs (m.items.take k))) (fun bg i wr => n - (intOf i).toNat)
    case atStart => exact ⟨0, 512, none, 0, [], Nat.zero_le _, rfl, rfl, rfl, HP6, HR6, HW6, by simp [Value.ownBlock]; exact Lib.hid trivial, Lib.hid (fun j x l hx => by simp at hx)⟩
    case round =>
      obtain ⟨k, e, A, cr, xs, hkn, rfl, rfl, HE, HPG, HRR, HWW, HNG, HII⟩ := hrel
      have hee := HE.out
      by_cases hlt : k < n
      · have hki : k < m.items.length := by rw [← HN.out]; exact hlt
        obtain ⟨it, hit⟩ : ∃ it, it = m.items[k] := ⟨_, rfl⟩
        have hs := sumTo_succ hki
        rw [← hit] at hs
        have h1 := HBD.out (k + 1) (by omega)
        have hnn := HBD.out n (Nat.le_refl _)
        have hk0 := HBD.out k (by omega)
        have hmono : sumTo m.items (k + 1) ≤ sumTo m.items n := by
          have := sumTo_mono (L := m.items) (k := k + 1)
          rw [← sumTo_all, ← HN.out] at this; exact this
        have hit200 : it.length ≤ 200 := by rw [hit]; exact HM.out.item _ (List.getElem_mem _)
        obtain ⟨e', he'⟩ : ∃ e', e' = 512 - sumTo m.items (k + 1) := ⟨_, rfl⟩
        have hitl : e - e' = it.length := by omega
        have he512 : e' ≤ 512 := by omega
        have hee' : e' ≤ e := by omega
        have R16 : Hid (RB wr wr.heap.size (.slice (some ⟨g, 18 + 2 * k, none⟩) 2 (cap - (18 + 2 * k))) ((L.drop (18 + 2 * k)).take 2)) := by
          have h3 := HRR.out.sub (lo := 18 + 2 * k) (m := 2) (c' := cap - (18 + 2 * k)) (by omega) (by omega) (by omega)
          rw [Nat.zero_add] at h3
          exact h3
        have E16 : Hid (leV ((L.drop (18 + 2 * k)).take 2) = e') := by show _ = _; rw [HL.out, pg_slot hki, ← he', leV_digits_of (by omega)]
        have hl2 : ((L.drop (18 + 2 * k)).take 2).length ≤ 8 := by rw [List.length_take]; omega
        have hsl := slB_lh (b := g) (o := 0) (n := 512) (cap := cap) (lo := 18 + 2 * k) (hi := 18 + 2 * (k + 1)) (i := 18 + 2 * (k : Int)) (j := 18 + 2 * ((k : Int) + 1)) (by omega) (by omega) (by omega) (by omega)
        rw [show 18 + 2 * (k + 1) - (18 + 2 * k) = 2 by omega, if_neg (by omega), Nat.zero_add] at hsl
        have hwk : IntKind.i64.wrap ((k : Int) + 1) = (k : Int) + 1 := by rw [IntKind.wrap_i64]; omega
        have hwe1 : IntKind.i64.wrap (e' : Int) = (e' : Int) := by rw [IntKind.wrap_i64]; omega
        have hws : IntKind.i64.wrap ((e : Int) - (e' : Int)) = (e : Int) - (e' : Int) := by rw [IntKind.wrap_i64]; omega
        have d1 : decide ((e : Int) < (e' : Int)) = false := by simp; omega
        have d2 : decide ((e' : Int) < 18 + 2 * (n : Int)) = false := by simp; omega
        have d3 : decide ((200 : Int) < (e : Int) - (e' : Int)) = false := by simp; omega
        have hsl3 := slB_lh (b := g) (o := 0) (n := 512) (cap := cap) (lo := e') (hi := e) (i := (e' : Int)) (j := (e : Int)) rfl rfl hee' (by omega)
        obtain ⟨of, hof⟩ : ∃ of, of = if cap = e' then 0 else 0 + e' := ⟨_, rfl⟩
        rw [← hof] at hsl3
        have hrx : RB wr wr.heap.size (.slice (some ⟨g, of, none⟩) (e - e') (cap - e')) it := by
          by_cases hce : cap = e'
          · have : it = [] := List.eq_nil_of_length_eq_zero (by omega)
            subst this
            exact ⟨by simp, by simp, some ⟨g, of, none⟩, cap - e', by rw [hitl], by simp, by omega, .inl rfl⟩
          · have h3 := HRR.out.sub (lo := e') (m := e - e') (c' := cap - e') (by omega) (by omega) (by omega)
            have hpi := pg_item HF.out hki
            rw [← HL.out, ← he', ← hit, ← hitl] at hpi
            rw [hpi] at h3
            rw [hof, if_neg hce]; exact h3
        have HRX := Lib.hid hrx
        have HIT : Hid (m.items[k]? = some it) := by show _ = _; rw [List.getElem?_eq_getElem hki, hit]
        have HE' := Lib.hid he'
        have cg : wr.cell? ⟨p, 3, none⟩ = some (.slice A k cr) := HPG.out.blk.cell 3
        have cga : (wr.alloc (.cells #[.slice (some ⟨g, of, none⟩) (e - e') (cap - e')] 22)).cell? ⟨p, 3, none⟩ = some (.slice A k cr) := ((HPG.out.alloc _).blk.cell 3)
        have hn1 : (0 : Int) ≤ (n : Int) ∧ (n : Int) ≤ 1000000 := by omega
        clear hs h1 hnn hk0 hmono hit he' hrx hof hit200 hee hitl
        go_wp2_with (first
          | (go_at_call 67; refine (slotAt_any _ _ (by omega)).mono ?_; rintro e11 w11 ⟨rfl, rfl⟩)
          | (go_at_call 72; refine (leGet_v R16.out hl2 E16.out).mono ?_; rintro e12 w12 ⟨rfl, hw12⟩; subst w12))
        have HPGd : Hid (PageAt wr.drew p p (.slice A k cr) xs (m.first k)) := HPG.out.below (Below.refl _ _).drew
        have HRXd : Hid (RB wr.drew wr.drew.heap.size (slV ((some ⟨g, of, none⟩, e - e', cap - e') : Sl)) it) := HRX.out.drew
        have HOFd : Hid (Off (fun q => q = p ∨ (Value.slice A k cr).ownBlock = some q) (slV ((some ⟨g, of, none⟩, e - e', cap - e') : Sl)) it) := .inr fun b' hb' e5 => by
          injection hb' with hb'
          simp at hb'
          subst hb'
          rcases e5 with e5 | e5
          · exact hgp1 e5
          · exact HNG.out e5
        clear d1 d2 d3 hws hwe1 hwk hsl hl2 R16 E16 hn1
        go_region_law (first
          | (refine app_armD (w := wr) (x := ((some ⟨g, of, none⟩, e - e', cap - e') : Sl)) HPG.out HM.out HN.out hlt HIT.out HRX.out HOFd.out rfl (.tmp 97) (.tmp 102) rfl rfl rfl ?_; intro A' c' w' k3 f3 HALL))
        all_goals (
          have hall := HALL.out
          go_wp2_with fail
          go_roundw
          case rel =>
            refine ⟨k + 1, e', A', c', _, by omega, by go_num, rfl, HE', hall.1, HRR.out.drew.mod hall.2.1 (.inr fun b' hb' e5 => ?_), ?_, ?_, ?_⟩
            · injection hb' with hb'
              simp at hb'
              subst hb'
              rcases e5 with e5 | e5
              · exact hgp1 e5
              · exact HNG.out e5
            · exact HWW.out.drew.trans (hall.2.1.below (Nat.le_of_lt HPG.out.lt) (fun q e5 => by
                rcases e5 with e5 | e5
                · exact Nat.le_of_eq e5.symm
                · exact (HPG.out.row.lt q e5).1))
            · intro e5
              rcases hall.2.2 with h6 | h6
              · rw [h6] at e5; exact HNG.out e5
              · have h7 := h6 g e5
                have h8 : g < wr.heap.size := by
                  obtain ⟨_, _, A9, c9, e9, _, _, h9⟩ := HRR.out
                  injection e9 with e9 _ _
                  rcases h9 with h9 | ⟨b', off, e10, hb', _⟩
                  · rw [h9] at hlen; simp at hlen
                  · rw [← e9] at e10; injection e10 with e10; injection e10 with e10; omega
                have h7' : wr.heap.size ≤ g := h7
                omega
            · have hki' : k < m.items.length := by rw [← HN.out]; exact hlt
              rw [List.take_succ_eq_append_getElem hki']
              exact HII.out.snoc (by rw [HPG.out.len]; rfl) (.inr fun b' hb' e5 => by injection hb' with hb'; exact e5 hb'.symm)
          case measure => simp [intOf]; omega)
      · obtain rfl : k = n := by omega
        have hk0 := HBD.out k (Nat.le_refl _)
        have hn1 : (0 : Int) ≤ (k : Int) ∧ (k : Int) ≤ 1000000 := by omega
        have hsl := slB_lh (b := g) (o := 0) (n := 512) (cap := cap) (lo := 18 + 2 * k) (hi := e) (i := 18 + 2 * (k : Int)) (j := (e : Int)) (by omega) rfl (by omega) (by omega)
        have hcn : ¬ cap = 18 + 2 * k := by omega
        rw [if_neg hcn, Nat.zero_add] at hsl
        obtain ⟨z, hz⟩ : ∃ z, e - (18 + 2 * k) = z := ⟨_, rfl⟩
        rw [hz] at hsl
        have hgap : ∀ j, j < z → wr.cell? ⟨g, 18 + 2 * k + j, none⟩ = some (.int .u8 0) := fun j hj => by
          have h3 := pg_gap HF.out (j := 18 + 2 * k + j) (by rw [← HN.out]; omega) (by rw [← HN.out]; omega)
          rw [← HL.out] at h3
          obtain ⟨_, _, A9, c9, e9, _, _, h9⟩ := HRR.out
          injection e9 with e9 _ _
          rcases h9 with h9 | ⟨b', off, e10, hb', hx9⟩
          · rw [h9] at hlen; simp at hlen
          · rw [← e9] at e10
            injection e10 with e10
            injection e10 with e10 e11
            subst e10 e11
            have := hx9 _ 0 h3
            rw [Nat.zero_add] at this
            exact this
        have HGAP := Lib.hid hgap
        have hz512 : z ≤ 512 := by omega
        clear hgap hk0 hee
        go_wp2_with (first
          | (go_at_call 67; refine (slotAt_any _ _ (by omega)).mono ?_; rintro e11 w11 ⟨rfl, rfl⟩))
        have hfirst : m.first k = m := by
          unfold PG.first
          rw [HN.out, List.take_length]
        have hfin : PageAt wr p w.heap.size (.slice A k cr) xs m := by
          have h5 := HPG.out
          rw [hfirst] at h5
          rw [← HP.out]; exact h5
        have hbf : Below w.heap.size w wr := by rw [← HP.out]; exact HWW.out
        have HFIN := Lib.hid hfin
        have HBF := Lib.hid hbf
        clear hfirst hfin hbf hsl
        go_loopw [113] (fun i wq => ∃ j : Nat, j ≤ z ∧ i = .int .i64 j ∧ wq = wr) (fun i wq => z - (intOf i).toNat)
        case atStart => exact ⟨0, Nat.zero_le _, rfl, rfl⟩
        case round =>
          obtain ⟨j, hj, rfl, rfl⟩ := hrel
          by_cases hjz : j < z
          · have hcj := HGAP.out j hjz
            have hji : (j : Int) < (z : Int) := by omega
            go_wp2_with fail
            go_roundw
            case rel => exact ⟨j + 1, by omega, by go_num, by first | rfl | trivial⟩
            case measure => simp [intOf]; omega
          · obtain rfl : j = z := by omega
            go_wp2_with fail
            try rw [Exit.noGoto_ret]
            go_ret2
            exact ⟨p, _, xs, by first | rfl | trivial, HFIN.out, HBF.out, by have h5 := HII.out; rw [HN.out, List.take_length] at h5; exact h5.mono fun q e5 => by have e5 : q = g := e5; have := HP.out; omega⟩)

end Go.Proofs.YtbagmmncjmbboaaGreat

/-
  Whole sectors compared; the walk of cache's read: the page that the disk has.
-/
namespace Go.Proofs.YtbagmmncjmbboaaGreat
open Go.RowKit Go.Maps
set_option linter.unusedVariables false

theorem secC_get {L : List Nat} {i : Nat} (hi : i < L.length) : (secC L).toArray[i]? = some (.int .u8 (L[i] : Nat)) := by
  simp [secC, hi, bcell]

set_option maxRecDepth 100000 in
theorem run_eqItems_u8 (w : World) (d : Nat) (xs ys : List Nat) : ∀ is : List Nat, (∀ i ∈ is, i < xs.length ∧ i < ys.length) →
    (Op.eqItems (d + 1) 5 1 (secC xs).toArray (secC ys).toArray is).run Tryz.prog w = .ok (decide (∀ i ∈ is, xs[i]? = ys[i]?)) w
  | [], _ => by simp [Op.eqItems]
  | i :: is, h => by
    obtain ⟨h1, h2⟩ := h i (List.mem_cons_self ..)
    have ih := run_eqItems_u8 w d xs ys is (fun j hj => h j (List.mem_cons_of_mem _ hj))
    have p1 := run_part_plain (P := Tryz.prog) w (e := 5) (by kernel_rfl) (secC_get h1)
    have p2 := run_part_plain (P := Tryz.prog) w (e := 5) (by kernel_rfl) (secC_get h2)
    have p3 := run_equalIn_int (P := Tryz.prog) w d 5 .u8 .u8 (xs[i] : Int) (ys[i] : Int) Tryz.underlying5
    simp only [Op.eqItems, Sem.run_bind, Nat.mul_one, p1, p2, p3, Result.andThen_ok]
    by_cases he : xs[i] = ys[i]
    · have e1 : ((xs[i] : Int) == (ys[i] : Int)) = true := by simp [he]
      rw [e1]
      simp only [Bool.not_true, Bool.false_eq_true, if_false, ih]
      refine congrArg (fun b => Result.ok b w) ?_
      simp [List.getElem?_eq_getElem h1, List.getElem?_eq_getElem h2, he]
    · have e1 : ((xs[i] : Int) == (ys[i] : Int)) = false := by simp; omega
      rw [e1]
      simp only [Bool.not_false, if_true, Sem.run_pure]
      refine congrArg (fun b => Result.ok b w) ?_
      simp [List.getElem?_eq_getElem h1, List.getElem?_eq_getElem h2, he]

set_option maxRecDepth 100000 in
theorem run_eq512 (w : World) (L L' : List Nat) (h : L.length = 512) (h' : L'.length = 512) :
    (Op.equalIn 10000 123 (.agg (secC L).toArray) (.agg (secC L').toArray)).run Tryz.prog w = .ok (decide (L = L')) w := by
  obtain ⟨i, hi, -⟩ : ∃ i, Tryz.prog.info? 123 = some i ∧ True := by
    have : ((Tryz.prog.info? 123).isSome) = true := by kernel_rfl
    obtain ⟨i, hi⟩ := Option.isSome_iff_exists.1 this
    exact ⟨i, hi, trivial⟩
  obtain ⟨i5, hi5, -⟩ : ∃ i, Tryz.prog.info? 5 = some i ∧ True := by
    have : ((Tryz.prog.info? 5).isSome) = true := by kernel_rfl
    obtain ⟨i, hi⟩ := Option.isSome_iff_exists.1 this
    exact ⟨i, hi, trivial⟩
  have hc : Tryz.prog.cellsOf 5 = 1 := by kernel_rfl
  have h1 := run_equalIn_array (P := Tryz.prog) w 9999 (t := 123) (e := 5) (n := 512) (secC L).toArray (secC L').toArray Tryz.underlying123 hi5
  rw [hc] at h1
  rw [show (10000 : Nat) = 9999 + 1 from rfl, h1, run_eqItems_u8 w 9998 L L' (List.range 512) (fun i hi => by rw [List.mem_range] at hi; omega)]
  refine congrArg (fun b => Result.ok b w) (decide_eq_decide.2 ?_)
  constructor
  · intro hall
    refine List.ext_getElem? fun j => ?_
    by_cases hj : j < 512
    · exact hall j (List.mem_range.2 hj)
    · rw [List.getElem?_eq_none (by omega), List.getElem?_eq_none (by omega)]
  · rintro rfl i _
    rfl

section
variable {ops : Array Oper} {rest : List Oper} {o : Oper} {a : Act} {w : World} {Q : Exit → Act → World → Prop}

set_option maxRecDepth 100000 in
theorem wpList_build512 (hg : o.guard = none) (hop : o.op = .build 123 #[]) (h : wpList Tryz.prog ops Q rest (a.put o.dst (.agg (secC sec0).toArray)) w) : wpList Tryz.prog ops Q (o :: rest) a w := by
  have hrun : (Instr.build 123 #[]).run Tryz.prog w = .ok (.agg (secC sec0).toArray) w := by kernel_rfl
  refine wpList_plain hg fun K hK => ?_
  unfold Oper.wp
  simp [execOp, hop, hrun, Result.andThen]
  exact hK _ _ h

set_option maxRecDepth 100000 in
theorem wpList_eq512 (hg : o.guard = none) (x y : Tmp) (hop : o.op = .binOp .eql 123 (.tmp x) (.tmp y) 123) (L L' : List Nat) (hl : L.length = 512) (hl' : L'.length = 512) (hx : a.eval (.tmp x) = .agg (secC L).toArray) (hy : a.eval (.tmp y) = .agg (secC L').toArray)
    (h : wpList Tryz.prog ops Q rest (a.put o.dst (.bool (decide (L = L')))) w) : wpList Tryz.prog ops Q (o :: rest) a w := by
  have hrun := run_eq512 w L L' hl hl'
  have hex : (execOp a.eval o).run Tryz.prog w = .ok (.value (.bool (decide (L = L')))) w := by
    obtain ⟨dst, op, ty, pos, af, gd⟩ := o
    dsimp only at hop
    subst hop
    simp only [execOp, hx, hy]
    go_simp
  refine wpList_plain hg fun K hK => ?_
  unfold Oper.wp
  rw [hex]
  exact hK _ _ h
end
end Go.Proofs.YtbagmmncjmbboaaGreat

/-
  The walk of cache's read: the page that the disk has.
-/
namespace Go.Proofs.YtbagmmncjmbboaaGreat
open Go.RowKit Go.Maps
set_option linter.unusedVariables false

/-- The page that a sector's bytes are: bytes 0 are an empty one. -/
def PageOf (L : List Nat) (m : PG) : Prop := (L = sec0 ∧ m = PG.new 0 0) ∨ (L ≠ sec0 ∧ ∃ its, IsPage L its ∧ Pre L (L.getD 17 0) its ∧ m = pgOf L its)
def PoolReadOut (w : World) (re : Int) (L : List Nat) (e : Ending) (w' : World) : Prop :=
  Below w.heap.size w w' ∧ ((re ≠ 0 ∧ e = .returned (.tuple #[.pointer none, .int .i64 re])) ∨ (re = 0 ∧ (∀ m, ¬ PageOf L m) ∧ e = .returned (.tuple #[.pointer none, .int .i64 80])) ∨
    (re = 0 ∧ ∃ m p' v' xs', PageOf L m ∧ e = .returned (.tuple #[.pointer (some ⟨p', 0, none⟩), .int .i64 0]) ∧ PageAt w' p' w.heap.size v' xs' m ∧ ItemsIn (fun k => w.heap.size ≤ k) xs' m.items))

theorem run_array512 (b : Nat) (W : World) : (Instr.arrayAt 123 (.slice (some ⟨b, 0, none⟩) 512 512)).run Tryz.prog W = .ok (.pointer (some ⟨b, 0, none⟩)) W := by
  unfold Instr.arrayAt
  simp [run_underlying Tryz.underlying123]

theorem PageAt.base' {w : World} {p B B' : Nat} {v : Value} {xs : List Sl} {m : PG} (h : PageAt w p B v xs m) (hB : B' ≤ B) : PageAt w p B' v xs m :=
  ⟨h.ok, h.blk, h.row.base hB, h.len, h.item, h.far, Nat.le_trans hB h.base⟩

theorem isPage_pgC {L : List Nat} {its : List (List Nat)} (h : IsPage L its) (hb : ∀ x ∈ L, x < 256) (hp : Pre L (L.getD 17 0) its) : pageL (pgOf L its) = L ∧ (pgOf L its).Fit ∧ (pgOf L its).Ok := by
  have hl := h.1.len
  have h17 : L[17]? = some (L.getD 17 0) := by rw [List.getD, List.getElem?_eq_getElem (by omega)]; rfl
  obtain ⟨h1, h2⟩ := pre_full hl hb h.1.sum h17 hp.toPre0 h.2.1 h.2.2
  exact ⟨h1, h2, pgOf_ok hl hb h.1.cnt h.1.lsn hp.toPre0⟩

theorem pre_agree {L : List Nat} {n : Nat} {its its2 : List (List Nat)} (hp : Pre L n its) (hp2 : Pre L n its2) : ∀ k, k ≤ its.length → k ≤ its2.length → its.take k = its2.take k := by
  intro k
  induction k with
  | zero => intro _ _; rfl
  | succ k ih =>
    intro hk hk2
    have ihk := ih (by omega) (by omega)
    have hs1 : sumTo its k = sumTo its2 k := by unfold sumTo; rw [ihk]
    have a1 := hp.toPre0.slot k (by omega)
    have a2 := hp2.toPre0.slot k (by omega)
    have b1 := hp.toPre0.item k (by omega)
    have b2 := hp2.toPre0.item k (by omega)
    have f1 := hp.toPre0.fit
    have f2 := hp2.toPre0.fit
    have m1 : sumTo its (k + 1) ≤ (its.map List.length).sum := sumTo_mono
    have m2 : sumTo its2 (k + 1) ≤ (its2.map List.length).sum := sumTo_mono
    have s1 := sumTo_succ (L := its) (k := k) (by omega)
    have s2 := sumTo_succ (L := its2) (k := k) (by omega)
    have hsum : sumTo its (k + 1) = sumTo its2 (k + 1) := by omega
    have hln : its[k].length = its2[k].length := by omega
    have hit : its[k] = its2[k] := by
      rw [hsum, hln] at b1
      exact b1.symm.trans b2
    rw [List.take_succ_eq_append_getElem (by omega), List.take_succ_eq_append_getElem (by omega), ihk, hit]

theorem pre_unique {L : List Nat} {n : Nat} {its its2 : List (List Nat)} (hp : Pre L n its) (hp2 : Pre L n its2) (hf : its2.length = n) : its = its2 := by
  have hl1 := hp.toPre0.len
  have hge : its.length = n := by
    rcases Nat.lt_or_ge its.length n with hlt | hge
    · exfalso
      have hag := pre_agree hp hp2 its.length (Nat.le_refl _) (by omega)
      rw [List.take_length] at hag
      have a2 := hp2.toPre0.slot its.length (by omega)
      have f2 := hp2.toPre0.fit
      have m2 : sumTo its2 (its.length + 1) ≤ (its2.map List.length).sum := sumTo_mono
      have s2 := sumTo_succ (L := its2) (k := its.length) (by omega)
      have h200 : its2[its.length].length ≤ 200 := hp2.toPre0.small _ (List.getElem_mem _)
      have he : endOf its = 512 - sumTo its2 its.length := by unfold endOf sumTo; rw [← hag]
      rcases hp.stop with h | h
      · omega
      · rw [he] at h
        omega
    · omega
  have := pre_agree hp hp2 n (by omega) (by omega)
  rw [List.take_of_length_le (by omega), List.take_of_length_le (by omega)] at this
  exact this

set_option maxRecDepth 100000 in
set_option maxHeartbeats 4000000 in
theorem poolRead_any (w : World) (q p sb mb : Nat) (pl : Option Nat) (s : DS) (base n i : Nat) (h : DiskAt w p sb mb pl s) (hi : i = base + n) (hi6 : i ≤ 1000000) (c0 : w.cell? ⟨q, 0, none⟩ = some (.pointer (some ⟨p, 0, none⟩))) (c2 : w.cell? ⟨q, 2, none⟩ = some (.int .i64 (base : Int))) :
    Calls Tryz.prog 118 #[.pointer (some ⟨q, 0, none⟩), .int .i64 (n : Int)] w (PoolReadOut w (s.readE (i : Int)) (s.has i)) := by
  have HD := Lib.hid h
  have HI := Lib.hid hi
  have hw : IntKind.i64.wrap ((base : Int) + (n : Int)) = (i : Int) := by rw [IntKind.wrap_i64]; omega
  obtain ⟨re, hre⟩ : ∃ re, re = s.readE (i : Int) := ⟨_, rfl⟩
  obtain ⟨L, hL⟩ : ∃ L, L = s.has i := ⟨_, rfl⟩
  rw [← hre, ← hL]
  have HRE := Lib.hid hre
  have HL := Lib.hid hL
  clear h hi hre hL
  go_enter Tryz.func118, Tryz.ntmps118
  go_upto_region 1 with fail
  go_cut [6, 7] from 8 (fun x y wx => ∃ A1 n1 c1, x = .slice A1 n1 c1 ∧ y = .int .i64 re ∧ Hid (Below w.heap.size w wx) ∧ Hid ((re = 0 ∧ ∃ b, A1 = some ⟨b, 0, none⟩ ∧ n1 = 512 ∧ c1 = 512 ∧ w.heap.size ≤ b ∧ Secs wx b [L]) ∨ re ≠ 0))
  case first =>
    go_region_law (first
      | (go_simp; go_at_call 28; refine (Read_any w.drew p sb mb pl s (show DiskAt w.drew p sb mb pl s from HD.out.below (Below.refl _ _).drew) (i : Int)).mono ?_; rintro e w1 ⟨v1, rfl, hb1, hv1⟩; rw [← HRE.out, Int.toNat_natCast, ← HL.out] at hv1; rw [← HRE.out]; obtain ⟨A1, n1, c1, hve⟩ : ∃ A1 n1 c1, v1 = .slice A1 n1 c1 := (by rcases hv1 with ⟨-, b, rfl, -, -⟩ | ⟨-, rfl⟩; exact ⟨_, _, _, rfl⟩; exact ⟨_, _, _, rfl⟩); subst hve; have HB1 : Hid (Below w.heap.size w w1) := ⟨hb1.os, hb1.tape, hb1.output, hb1.size, hb1.block⟩; have HV1 := Lib.hid hv1; clear hb1 hv1))
    all_goals (
      go_wp2_with fail
      go_meet
      refine ⟨A1, n1, c1, rfl, rfl, HB1, Lib.hid ?_⟩
      rcases HV1.out with ⟨h0, b, e1, hlb, hs⟩ | ⟨h0, -⟩
      · injection e1 with e1 e2 e3
        exact .inl ⟨h0, b, e1, e2, e3, hlb, hs⟩
      · exact .inr h0)
  case rest =>
  obtain ⟨A1, n1, c1, rfl, rfl, HB1, HV1⟩ := hcut
  by_cases h0 : re = 0
  · subst h0
    obtain ⟨b, hA, hn1, hc1, hlb, hs⟩ : ∃ b, A1 = some ⟨b, 0, none⟩ ∧ n1 = 512 ∧ c1 = 512 ∧ w.heap.size ≤ b ∧ Secs wc b [L] := by
      rcases HV1.out with ⟨-, h⟩ | h
      · exact h
      · exact absurd rfl h
    subst hA hn1 hc1
    have hsec := hs.ok L (by simp)
    have HS := Lib.hid hs
    have HRNG : Hid (wc.rangeAt b 0 (secC L)) := Lib.hid (by have := hs.range (i := 0) (l := L) rfl; rw [Nat.zero_mul] at this; exact this)
    have hL5 : L.length = 512 := hsec.1
    have HL5 := Lib.hid hL5
    have HR : Hid (RB wc wc.heap.size (.slice (some ⟨b, 0, none⟩) 512 512) L) := Lib.hid (hs.rb hs.lt)
    have HBYT : Hid (∀ x ∈ L, x < 256) := Lib.hid hsec.2
    have hz := HB1.out.size
    have hAA := run_array512 b
    clear hs hsec hL5 HV1
    by_cases hblank : L = sec0
    · have hdec : decide (L = sec0) = true := by simpa using hblank
      have HBL := Lib.hid hblank
      clear hblank
      go_wp2_with (first
        | (refine wpList_load_mid rfl 123 _ rfl b 0 rfl (secC L) _ HRNG.out Tryz.underlying123 rfl (by rw [secC_len, HL5.out]; kernel_rfl) ?_)
        | (refine wpList_build512 rfl rfl ?_)
        | (refine wpList_eq512 rfl _ _ rfl L sec0 HL5.out sec0_ok.1 rfl rfl ?_; rw [hdec])
        | (go_at_call 63; refine (pageNew_any wc 0 0 (by omega)).mono ?_; rintro e w2 ⟨rfl, hp2, hb2⟩; have HP2 := Lib.hid hp2; have HB2 := Lib.hid hb2; clear hp2 hb2))
      go_ret2
      refine ⟨HB1.out.trans (HB2.out.mono hz), .inr (.inr ⟨rfl, PG.new 0 0, _, _, _, .inl ⟨HBL.out, rfl⟩, rfl, HP2.out.base' hz, fun j x l hx => by simp at hx⟩)⟩
    · have hdec : decide (L = sec0) = false := by simpa using hblank
      have HBL := Lib.hid hblank
      obtain ⟨its, hpre⟩ := its_exists L
      have HPRE := Lib.hid hpre
      clear hblank hpre
      by_cases hI : IsPage L its
      · obtain ⟨hpl, hfit, hok⟩ := isPage_pgC hI HBYT.out (HPRE.out hI.1)
        have HPL := Lib.hid hpl
        have HFIT := Lib.hid hfit
        have HOK := Lib.hid hok
        have HIS := Lib.hid hI
        clear hpl hfit hok hI
        go_wp2_with (first
          | (refine wpList_load_mid rfl 123 _ rfl b 0 rfl (secC L) _ HRNG.out Tryz.underlying123 rfl (by rw [secC_len, HL5.out]; kernel_rfl) ?_)
          | (refine wpList_build512 rfl rfl ?_)
          | (refine wpList_eq512 rfl _ _ rfl L sec0 HL5.out sec0_ok.1 rfl rfl ?_; rw [hdec])
          | (go_at_call 34; refine (pageParse_in wc (pgOf L its) HOK.out HFIT.out b 0 512 (by omega) (by omega) HS.out.lt (by rw [HPL.out]; exact HR.out)).mono ?_; rintro e w2 ⟨p2, v2, xs2, rfl, hp2, hb2, hin2⟩; have HP2 := Lib.hid hp2; have HB2 := Lib.hid hb2; have HIN2 := Lib.hid hin2; clear hp2 hb2 hin2))
        go_ret2
        exact ⟨HB1.out.trans (HB2.out.mono hz), .inr (.inr ⟨rfl, pgOf L its, p2, v2, xs2, .inr ⟨HBL.out, its, HIS.out, HPRE.out HIS.out.1, rfl⟩, rfl, HP2.out.base' hz, HIN2.out.mono (fun k hk => Nat.le_trans hz hk)⟩)⟩
      · have HNI := Lib.hid hI
        clear hI
        go_wp2_with (first
          | (refine wpList_load_mid rfl 123 _ rfl b 0 rfl (secC L) _ HRNG.out Tryz.underlying123 rfl (by rw [secC_len, HL5.out]; kernel_rfl) ?_)
          | (refine wpList_build512 rfl rfl ?_)
          | (refine wpList_eq512 rfl _ _ rfl L sec0 HL5.out sec0_ok.1 rfl rfl ?_; rw [hdec])
          | (go_at_call 34; refine (pageParse_any wc L _ HR.out its HPRE.out).mono ?_; rintro e w2 ⟨hb2, h2⟩; obtain rfl : e = .returned (.tuple #[.pointer none, .int .i64 80]) := (by rcases h2 with ⟨h, -⟩ | ⟨h, -⟩; (exact h); (exact absurd h HNI.out)); have HB2 := Lib.hid hb2; clear hb2 h2))
        go_ret2
        refine ⟨HB1.out.trans (HB2.out.mono hz), .inr (.inl ⟨rfl, fun m hm => ?_, rfl⟩)⟩
        rcases hm with ⟨h, -⟩ | ⟨-, its2, h2, hp2, -⟩
        · exact HBL.out h
        · exact HNI.out (by rw [pre_unique (HPRE.out h2.1) hp2 h2.2.1]; exact h2)
  · have h0b : (re == 0) = false := by simpa using h0
    have h0c : (re != 0) = true := by simpa using h0
    have HNE := Lib.hid h0
    clear h0
    go_wp2_with fail
    go_ret2
    exact ⟨HB1.out, .inl ⟨HNE.out, rfl⟩⟩
end Go.Proofs.YtbagmmncjmbboaaGreat
