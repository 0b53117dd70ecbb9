/-
  The walk of page's Parse at bytes whose head is wrong: it refuses them.
-/
import Derived.Test.YtdghanhpeekbhaaZQ2
namespace Go.Proofs.Ytdghanhpeekbhaa
open Go.RowKit Go.Maps
set_option linter.unusedVariables false

set_option maxRecDepth 100000 in
set_option maxHeartbeats 4000000 in
theorem parse_len (w : World) (A : Option Addr) (n c : Nat) (hbad : n ≠ 512) (hn : n ≤ 140737488355328) :
    Calls Try.prog 7 #[.slice A n c] w fun e w' => Below w.heap.size w w' ∧ e = .returned (.tuple #[.pointer none, .int .i64 80]) := by
  have hne : ((n : Int) == 512) = false := by simpa using (by omega : ¬ (n : Int) = 512)
  have hne2 : ((n : Int) != 512) = true := by simpa using hne
  go_enter Try.func7, Try.ntmps7
  go_wp2
  refine wp_scope_jumps 0 (NoneJ w True) (fun _ _ => 0) rfl ?first ?pass
  case pass =>
    rintro a' w' ⟨⟨tm, rfl, hsz⟩, hnf, hbl⟩
    go_wp2
    simp only [Exit.jump]
    refine bodyPost_ret (v := .tuple #[.pointer none, .int .i64 80]) ?_ rfl ⟨hbl, rfl⟩
    simp only [results, Try.results7]
    have h2 : 2 < tm.size := by omega
    have h3 : 3 < tm.size := by omega
    go_simp
  case first =>
    go_wp2_with fail
    have HBF : Hid (∀ q, Below w.heap.size w ((w.alloc (.cells #[.int .i64 0, .int .u8 0, .int .u32 0, .slice none 0 0] 62)).drewN q)) := Lib.hid fun q => ((Below.refl _ w).alloc (Nat.le_refl _) _).trans (((Mod.refl (fun k => w.heap.size ≤ k) _).drewN q).below (by simp) (fun k h => h))
    go_quiet (fail)
    go_wp2_with fail
    (go_step3; exact ⟨rfl, ⟨_, rfl, rfl⟩, trivial, HBF.out _⟩)

set_option maxRecDepth 100000 in
set_option maxHeartbeats 4000000 in
theorem parse_sum (w : World) (L : List Nat) (hlen : L.length = 512) (hbad : leV (L.take 4) ≠ crcSum (L.drop 4)) (b o c : Nat) (hc : 512 ≤ c) (hc2 : c ≤ 9223372036854775807) (hb : b < w.heap.size) (hv : RB w w.heap.size (.slice (some ⟨b, o, none⟩) 512 c) L) :
    Calls Try.prog 7 #[.slice (some ⟨b, o, none⟩) 512 c] w fun e w' => Below w.heap.size w w' ∧ e = .returned (.tuple #[.pointer none, .int .i64 80]) := by
  obtain ⟨cs, hcs⟩ : ∃ cs, cs = crcSum (L.drop 4) := ⟨_, rfl⟩
  obtain ⟨c4, hsum⟩ : ∃ c4, leV (L.take 4) = c4 := ⟨_, rfl⟩
  obtain ⟨ls, hls⟩ : ∃ ls, leV ((L.drop 4).take 8) = ls := ⟨_, rfl⟩
  obtain ⟨n, h17⟩ : ∃ n, L[17]? = some n := ⟨_, List.getElem?_eq_getElem (by omega)⟩
  have hls64 : ls < 18446744073709551616 := by
    have h1 := leV_lt ((L.drop 4).take 8) (fun x hx => hv.1 x (List.mem_of_mem_drop (List.mem_of_mem_take hx)))
    have h2 : ((L.drop 4).take 8).length = 8 := by rw [List.length_take, List.length_drop]; omega
    rw [h2, hls] at h1
    exact h1
  have hn256 : n < 256 := hv.1 n (List.mem_of_getElem? h17)
  have HV := Lib.hid hv
  have HLS8 := Lib.hid hls
  have HCS := Lib.hid hcs
  have H17 := Lib.hid h17
  have hcs32 : cs < 4294967296 := by rw [hcs]; exact crcSum_lt _ (fun x hx => hv.1 x (List.mem_of_mem_drop hx))
  have hc432 : c4 < 4294967296 := by
    have h1 := leV_lt (L.take 4) (fun x hx => hv.1 x (List.mem_of_mem_take hx))
    have h2 : (L.take 4).length = 4 := by rw [List.length_take]; omega
    rw [h2, hsum] at h1
    exact h1
  have hucs : IntKind.u64.wrap (cs : Int) = (cs : Int) := by rw [IntKind.wrap_u64]; omega
  have R0 : Hid (RB w w.heap.size (.slice (some ⟨b, o, none⟩) 4 c) (L.take 4)) := by
    have := hv.sub (lo := 0) (m := 4) (c' := c) (by omega) (by omega) hc2
    rw [List.drop_zero, Nat.add_zero] at this; exact this
  have R1 : Hid (RB w w.heap.size (.slice (some ⟨b, o + 4, none⟩) 508 (c - 4)) (L.drop 4)) := by
    have := hv.sub (lo := 4) (m := 508) (c' := c - 4) (by omega) (by omega) (by omega)
    rw [List.take_of_length_le (by rw [List.length_drop]; omega)] at this; exact this
  have E0 : Hid (leV (L.take 4) = c4) := hsum
  have hne : ((c4 : Int) == (cs : Int)) = false := by
    have : c4 ≠ cs := by rw [← hsum, hcs]; exact hbad
    simpa using (by omega : ¬ (c4 : Int) = (cs : Int))
  have hne2 : ((c4 : Int) != (cs : Int)) = true := by simpa using hne
  clear hv hcs hls h17 hsum hbad
  go_enter Try.func7, Try.ntmps7
  go_wp2
  refine wp_scope_jumps 0 (NoneJ w True) (fun _ _ => 0) rfl ?first ?pass
  case pass =>
    rintro a' w' ⟨⟨tm, rfl, hsz⟩, hnf, hbl⟩
    go_wp2
    simp only [Exit.jump]
    refine bodyPost_ret (v := .tuple #[.pointer none, .int .i64 80]) ?_ rfl ⟨hbl, rfl⟩
    simp only [results, Try.results7]
    have h2 : 2 < tm.size := by omega
    have h3 : 3 < tm.size := by omega
    go_simp
  case first =>
    go_wp2_with fail
    obtain ⟨W1, hW1⟩ : ∃ W1, W1 = w.alloc (.cells #[.int .i64 0, .int .u8 0, .int .u32 0, .slice none 0 0] 62) := ⟨_, rfl⟩
    rw [← hW1]
    obtain ⟨p, hp⟩ : ∃ p, p = w.heap.size := ⟨_, rfl⟩
    have hP1 : PageAt W1 p p (.slice none 0 0) [] ⟨0, 0, 0, []⟩ := by
      rw [hW1, hp]
      exact ⟨⟨by simp, by simp, by simp, by simp, by simp⟩, Blk.new _ _ _, OK.nil _ _, rfl, by simp, by simp [Value.ownBlock], Nat.le_refl _⟩
    have hw1 : Below p w W1 := by rw [hW1, hp]; exact (Below.refl _ _).alloc (Nat.le_refl _) _
    rw [← hp]
    have hbp : b < p := by omega
    have HP1 := Lib.hid hP1
    have HW1 := Lib.hid hw1
    have HP := Lib.hid hp
    have RA : Hid (RB W1.drew p (.slice (some ⟨b, o, none⟩) 4 c) (L.take 4)) := by show RB _ _ _ _; rw [HP.out]; exact (R0.out.below (by rw [← HP.out]; exact HW1.out)).drew
    have RA2 : Hid (RB (W1.drew.alloc (.cells #[.slice (some ⟨b, o + 4, none⟩) 508 (c - 4)] 22)) p (.slice (some ⟨b, o, none⟩) 4 c) (L.take 4)) := RA.out.alloc (Nat.le_of_lt HP1.out.lt) _
    have RS : Hid (RP (W1.drew.alloc (.cells #[.slice (some ⟨b, o + 4, none⟩) 508 (c - 4)] 22)) p W1.heap.size 0 [L.drop 4]) := RP.one rfl (Below.refl _ _).drew (by rw [HP.out]; exact R1.out.below (by rw [← HP.out]; exact HW1.out)) (Nat.le_of_lt HP1.out.lt)
    have hL4 : (L.take 4).length ≤ 8 := by rw [List.length_take]; omega
    have hc4 : (4 : Int) ≤ (c : Int) := by omega
    have hc4n : ¬ c = 4 := by omega
    clear hW1 hP1 hw1 hp
    go_region_held3 (fun _ => True) (trivial)
      (first
        | (go_at_call 27; refine (leGet_v (B := p) (by first | exact RA.out | exact RA2.out) hL4 E0.out).mono ?_; rintro e7 w7 ⟨rfl, rfl⟩)
        | (go_at_call 28; refine (sum_one RS.out HCS.out).mono ?_; rintro e7 w7 ⟨rfl, rfl⟩))
    all_goals (
      have HBF : Hid (Below w.heap.size w (W1.alloc (.cells #[.slice (some ⟨b, o + 4, none⟩) 508 (c - 4)] 22)).drew) := Lib.hid (by rw [← HP.out]; exact (HW1.out.alloc (Nat.le_of_lt HP1.out.lt) _).drew)
      clear RA RA2 RS
      go_wp2_with fail
      (go_step3; exact ⟨rfl, ⟨_, rfl, rfl⟩, trivial, HBF.out⟩))

set_option maxRecDepth 100000 in
set_option maxHeartbeats 4000000 in
theorem parse_lsn (w : World) (L : List Nat) (hlen : L.length = 512) (hok : leV (L.take 4) = crcSum (L.drop 4)) (hbad : 9223372036854775807 < leV ((L.drop 4).take 8)) (b o c : Nat) (hc : 512 ≤ c) (hc2 : c ≤ 9223372036854775807) (hb : b < w.heap.size) (hv : RB w w.heap.size (.slice (some ⟨b, o, none⟩) 512 c) L) :
    Calls Try.prog 7 #[.slice (some ⟨b, o, none⟩) 512 c] w fun e w' => Below w.heap.size w w' ∧ e = .returned (.tuple #[.pointer none, .int .i64 80]) := by
  obtain ⟨cs, hcs⟩ : ∃ cs, cs = crcSum (L.drop 4) := ⟨_, rfl⟩
  obtain ⟨c4, hsum⟩ : ∃ c4, leV (L.take 4) = c4 := ⟨_, rfl⟩
  obtain ⟨ls, hls⟩ : ∃ ls, leV ((L.drop 4).take 8) = ls := ⟨_, rfl⟩
  obtain ⟨n, h17⟩ : ∃ n, L[17]? = some n := ⟨_, List.getElem?_eq_getElem (by omega)⟩
  have hls64 : ls < 18446744073709551616 := by
    have h1 := leV_lt ((L.drop 4).take 8) (fun x hx => hv.1 x (List.mem_of_mem_drop (List.mem_of_mem_take hx)))
    have h2 : ((L.drop 4).take 8).length = 8 := by rw [List.length_take, List.length_drop]; omega
    rw [h2, hls] at h1
    exact h1
  have hn256 : n < 256 := hv.1 n (List.mem_of_getElem? h17)
  have HV := Lib.hid hv
  have HLS8 := Lib.hid hls
  have HCS := Lib.hid hcs
  have H17 := Lib.hid h17
  have hcs32 : cs < 4294967296 := by rw [hcs]; exact crcSum_lt _ (fun x hx => hv.1 x (List.mem_of_mem_drop hx))
  have hc432 : c4 < 4294967296 := by
    have h1 := leV_lt (L.take 4) (fun x hx => hv.1 x (List.mem_of_mem_take hx))
    have h2 : (L.take 4).length = 4 := by rw [List.length_take]; omega
    rw [h2, hsum] at h1
    exact h1
  have hucs : IntKind.u64.wrap (cs : Int) = (cs : Int) := by rw [IntKind.wrap_u64]; omega
  have R0 : Hid (RB w w.heap.size (.slice (some ⟨b, o, none⟩) 4 c) (L.take 4)) := by
    have := hv.sub (lo := 0) (m := 4) (c' := c) (by omega) (by omega) hc2
    rw [List.drop_zero, Nat.add_zero] at this; exact this
  have R1 : Hid (RB w w.heap.size (.slice (some ⟨b, o + 4, none⟩) 508 (c - 4)) (L.drop 4)) := by
    have := hv.sub (lo := 4) (m := 508) (c' := c - 4) (by omega) (by omega) (by omega)
    rw [List.take_of_length_le (by rw [List.length_drop]; omega)] at this; exact this
  have hgt : (9223372036854775807 : Int) < (ls : Int) := by rw [← hls]; omega
  have E0 : Hid (leV (L.take 4) = cs) := by show _ = _; rw [hcs]; exact hok
  clear hbad hv hcs hls h17 hsum hok
  go_enter Try.func7, Try.ntmps7
  go_wp2
  refine wp_scope_jumps 0 (NoneJ w True) (fun _ _ => 0) rfl ?first ?pass
  case pass =>
    rintro a' w' ⟨⟨tm, rfl, hsz⟩, hnf, hbl⟩
    go_wp2
    simp only [Exit.jump]
    refine bodyPost_ret (v := .tuple #[.pointer none, .int .i64 80]) ?_ rfl ⟨hbl, rfl⟩
    simp only [results, Try.results7]
    have h2 : 2 < tm.size := by omega
    have h3 : 3 < tm.size := by omega
    go_simp
  case first =>
    go_wp2_with fail
    obtain ⟨W1, hW1⟩ : ∃ W1, W1 = w.alloc (.cells #[.int .i64 0, .int .u8 0, .int .u32 0, .slice none 0 0] 62) := ⟨_, rfl⟩
    rw [← hW1]
    obtain ⟨p, hp⟩ : ∃ p, p = w.heap.size := ⟨_, rfl⟩
    have hP1 : PageAt W1 p p (.slice none 0 0) [] ⟨0, 0, 0, []⟩ := by
      rw [hW1, hp]
      exact ⟨⟨by simp, by simp, by simp, by simp, by simp⟩, Blk.new _ _ _, OK.nil _ _, rfl, by simp, by simp [Value.ownBlock], Nat.le_refl _⟩
    have hw1 : Below p w W1 := by rw [hW1, hp]; exact (Below.refl _ _).alloc (Nat.le_refl _) _
    rw [← hp]
    have hbp : b < p := by omega
    have HP1 := Lib.hid hP1
    have HW1 := Lib.hid hw1
    have HP := Lib.hid hp
    have RA : Hid (RB W1.drew p (.slice (some ⟨b, o, none⟩) 4 c) (L.take 4)) := by show RB _ _ _ _; rw [HP.out]; exact (R0.out.below (by rw [← HP.out]; exact HW1.out)).drew
    have RA2 : Hid (RB (W1.drew.alloc (.cells #[.slice (some ⟨b, o + 4, none⟩) 508 (c - 4)] 22)) p (.slice (some ⟨b, o, none⟩) 4 c) (L.take 4)) := RA.out.alloc (Nat.le_of_lt HP1.out.lt) _
    have RS : Hid (RP (W1.drew.alloc (.cells #[.slice (some ⟨b, o + 4, none⟩) 508 (c - 4)] 22)) p W1.heap.size 0 [L.drop 4]) := RP.one rfl (Below.refl _ _).drew (by rw [HP.out]; exact R1.out.below (by rw [← HP.out]; exact HW1.out)) (Nat.le_of_lt HP1.out.lt)
    have hL4 : (L.take 4).length ≤ 8 := by rw [List.length_take]; omega
    have hc4 : (4 : Int) ≤ (c : Int) := by omega
    have hc4n : ¬ c = 4 := by omega
    clear hW1 hP1 hw1 hp
    go_region_held3 (fun _ => True) (trivial)
      (first
        | (go_at_call 27; refine (leGet_v (B := p) (by first | exact RA.out | exact RA2.out) hL4 E0.out).mono ?_; rintro e7 w7 ⟨rfl, rfl⟩)
        | (go_at_call 28; refine (sum_one RS.out HCS.out).mono ?_; rintro e7 w7 ⟨rfl, rfl⟩))
    all_goals (
      obtain ⟨W2, hW2, hP2, hw2, hr2⟩ : ∃ W2, W2 = (W1.alloc (.cells #[.slice (some ⟨b, o + 4, none⟩) 508 (c - 4)] 22)).drew ∧ PageAt W2 p p (.slice none 0 0) [] ⟨0, 0, 0, []⟩ ∧ Below p w W2 ∧ RB W2 p (.slice (some ⟨b, o, none⟩) 512 c) L :=
        ⟨_, rfl, (HP1.out.alloc _).below (Below.refl _ _).drew, (HW1.out.alloc (Nat.le_of_lt HP1.out.lt) _).drew, by
          have h1 : RB w p (.slice (some ⟨b, o, none⟩) 512 c) L := by rw [HP.out]; exact HV.out
          exact ((h1.below HW1.out).alloc (Nat.le_of_lt HP1.out.lt) _).drew⟩
      rw [← hW2]
      have R5 : Hid (RB W2 p (.slice (some ⟨b, o + 4, none⟩) 8 (c - 4)) ((L.drop 4).take 8)) := hr2.sub (by omega) (by omega) (by omega)
      have E5 : Hid (leV ((L.drop 4).take 8) = ls) := HLS8
      have hl8 : ((L.drop 4).take 8).length ≤ 8 := by rw [List.length_take]; omega
      have e17 : L[17]? = some n := H17.out
      have k17 : W2.cell? ⟨b, o + 17, none⟩ = some (.int .u8 (n : Int)) := by
        obtain ⟨_, _, A, c0, e, _, _, h5⟩ := hr2
        injection e with e _ _
        rcases h5 with h5 | ⟨b', off, e', _, hx⟩
        · rw [h5] at e17; cases e17
        · rw [← e] at e'
          injection e' with e'
          injection e' with e4 e5
          subst e4 e5
          exact hx 17 n e17
      have hc12 : (12 : Int) ≤ (c : Int) := by omega
      have HP2 := Lib.hid hP2
      have HW2 := Lib.hid hw2
      have HR2 := Lib.hid hr2
      have HBF : Hid (Below w.heap.size w W2) := Lib.hid (by rw [← HP.out]; exact hw2)
      clear hW2 hP2 hw2 hr2 RA RA2 RS hL4 e17
      go_wp2_with fail
      refine (leGet_v R5.out hl8 E5.out).mono ?_
      rintro e7 w7 ⟨rfl, hw7⟩
      subst w7
      go_wp2_with fail
      (go_step3; exact ⟨rfl, ⟨_, rfl, rfl⟩, trivial, HBF.out⟩))

set_option maxRecDepth 100000 in
set_option maxHeartbeats 4000000 in
theorem parse_cnt (w : World) (L : List Nat) (hlen : L.length = 512) (hok : leV (L.take 4) = crcSum (L.drop 4)) (hlsn : leV ((L.drop 4).take 8) ≤ 9223372036854775807) (nb : Nat) (h17b : L[17]? = some nb) (hbad : 100 < nb) (b o c : Nat) (hc : 512 ≤ c) (hc2 : c ≤ 9223372036854775807) (hb : b < w.heap.size) (hv : RB w w.heap.size (.slice (some ⟨b, o, none⟩) 512 c) L) :
    Calls Try.prog 7 #[.slice (some ⟨b, o, none⟩) 512 c] w fun e w' => Below w.heap.size w w' ∧ e = .returned (.tuple #[.pointer none, .int .i64 80]) := by
  obtain ⟨cs, hcs⟩ : ∃ cs, cs = crcSum (L.drop 4) := ⟨_, rfl⟩
  obtain ⟨c4, hsum⟩ : ∃ c4, leV (L.take 4) = c4 := ⟨_, rfl⟩
  obtain ⟨ls, hls⟩ : ∃ ls, leV ((L.drop 4).take 8) = ls := ⟨_, rfl⟩
  obtain ⟨n, h17⟩ : ∃ n, L[17]? = some n := ⟨_, List.getElem?_eq_getElem (by omega)⟩
  have hls64 : ls < 18446744073709551616 := by
    have h1 := leV_lt ((L.drop 4).take 8) (fun x hx => hv.1 x (List.mem_of_mem_drop (List.mem_of_mem_take hx)))
    have h2 : ((L.drop 4).take 8).length = 8 := by rw [List.length_take, List.length_drop]; omega
    rw [h2, hls] at h1
    exact h1
  have hn256 : n < 256 := hv.1 n (List.mem_of_getElem? h17)
  have HV := Lib.hid hv
  have HLS8 := Lib.hid hls
  have HCS := Lib.hid hcs
  have H17 := Lib.hid h17
  have hcs32 : cs < 4294967296 := by rw [hcs]; exact crcSum_lt _ (fun x hx => hv.1 x (List.mem_of_mem_drop hx))
  have hc432 : c4 < 4294967296 := by
    have h1 := leV_lt (L.take 4) (fun x hx => hv.1 x (List.mem_of_mem_take hx))
    have h2 : (L.take 4).length = 4 := by rw [List.length_take]; omega
    rw [h2, hsum] at h1
    exact h1
  have hucs : IntKind.u64.wrap (cs : Int) = (cs : Int) := by rw [IntKind.wrap_u64]; omega
  have R0 : Hid (RB w w.heap.size (.slice (some ⟨b, o, none⟩) 4 c) (L.take 4)) := by
    have := hv.sub (lo := 0) (m := 4) (c' := c) (by omega) (by omega) hc2
    rw [List.drop_zero, Nat.add_zero] at this; exact this
  have R1 : Hid (RB w w.heap.size (.slice (some ⟨b, o + 4, none⟩) 508 (c - 4)) (L.drop 4)) := by
    have := hv.sub (lo := 4) (m := 508) (c' := c - 4) (by omega) (by omega) (by omega)
    rw [List.take_of_length_le (by rw [List.length_drop]; omega)] at this; exact this
  have hgt : ¬ (9223372036854775807 : Int) < (ls : Int) := by rw [← hls]; omega
  have hcn : (100 : Int) < (n : Int) := by
    have : nb = n := by rw [h17] at h17b; injection h17b with h; exact h.symm
    omega
  clear h17b hbad hlsn
  have E0 : Hid (leV (L.take 4) = cs) := by show _ = _; rw [hcs]; exact hok
  clear hv hcs hls h17 hsum hok
  go_enter Try.func7, Try.ntmps7
  go_wp2
  refine wp_scope_jumps 0 (NoneJ w True) (fun _ _ => 0) rfl ?first ?pass
  case pass =>
    rintro a' w' ⟨⟨tm, rfl, hsz⟩, hnf, hbl⟩
    go_wp2
    simp only [Exit.jump]
    refine bodyPost_ret (v := .tuple #[.pointer none, .int .i64 80]) ?_ rfl ⟨hbl, rfl⟩
    simp only [results, Try.results7]
    have h2 : 2 < tm.size := by omega
    have h3 : 3 < tm.size := by omega
    go_simp
  case first =>
    go_wp2_with fail
    obtain ⟨W1, hW1⟩ : ∃ W1, W1 = w.alloc (.cells #[.int .i64 0, .int .u8 0, .int .u32 0, .slice none 0 0] 62) := ⟨_, rfl⟩
    rw [← hW1]
    obtain ⟨p, hp⟩ : ∃ p, p = w.heap.size := ⟨_, rfl⟩
    have hP1 : PageAt W1 p p (.slice none 0 0) [] ⟨0, 0, 0, []⟩ := by
      rw [hW1, hp]
      exact ⟨⟨by simp, by simp, by simp, by simp, by simp⟩, Blk.new _ _ _, OK.nil _ _, rfl, by simp, by simp [Value.ownBlock], Nat.le_refl _⟩
    have hw1 : Below p w W1 := by rw [hW1, hp]; exact (Below.refl _ _).alloc (Nat.le_refl _) _
    rw [← hp]
    have hbp : b < p := by omega
    have HP1 := Lib.hid hP1
    have HW1 := Lib.hid hw1
    have HP := Lib.hid hp
    have RA : Hid (RB W1.drew p (.slice (some ⟨b, o, none⟩) 4 c) (L.take 4)) := by show RB _ _ _ _; rw [HP.out]; exact (R0.out.below (by rw [← HP.out]; exact HW1.out)).drew
    have RA2 : Hid (RB (W1.drew.alloc (.cells #[.slice (some ⟨b, o + 4, none⟩) 508 (c - 4)] 22)) p (.slice (some ⟨b, o, none⟩) 4 c) (L.take 4)) := RA.out.alloc (Nat.le_of_lt HP1.out.lt) _
    have RS : Hid (RP (W1.drew.alloc (.cells #[.slice (some ⟨b, o + 4, none⟩) 508 (c - 4)] 22)) p W1.heap.size 0 [L.drop 4]) := RP.one rfl (Below.refl _ _).drew (by rw [HP.out]; exact R1.out.below (by rw [← HP.out]; exact HW1.out)) (Nat.le_of_lt HP1.out.lt)
    have hL4 : (L.take 4).length ≤ 8 := by rw [List.length_take]; omega
    have hc4 : (4 : Int) ≤ (c : Int) := by omega
    have hc4n : ¬ c = 4 := by omega
    clear hW1 hP1 hw1 hp
    go_region_held3 (fun _ => True) (trivial)
      (first
        | (go_at_call 27; refine (leGet_v (B := p) (by first | exact RA.out | exact RA2.out) hL4 E0.out).mono ?_; rintro e7 w7 ⟨rfl, rfl⟩)
        | (go_at_call 28; refine (sum_one RS.out HCS.out).mono ?_; rintro e7 w7 ⟨rfl, rfl⟩))
    all_goals (
      obtain ⟨W2, hW2, hP2, hw2, hr2⟩ : ∃ W2, W2 = (W1.alloc (.cells #[.slice (some ⟨b, o + 4, none⟩) 508 (c - 4)] 22)).drew ∧ PageAt W2 p p (.slice none 0 0) [] ⟨0, 0, 0, []⟩ ∧ Below p w W2 ∧ RB W2 p (.slice (some ⟨b, o, none⟩) 512 c) L :=
        ⟨_, rfl, (HP1.out.alloc _).below (Below.refl _ _).drew, (HW1.out.alloc (Nat.le_of_lt HP1.out.lt) _).drew, by
          have h1 : RB w p (.slice (some ⟨b, o, none⟩) 512 c) L := by rw [HP.out]; exact HV.out
          exact ((h1.below HW1.out).alloc (Nat.le_of_lt HP1.out.lt) _).drew⟩
      rw [← hW2]
      have R5 : Hid (RB W2 p (.slice (some ⟨b, o + 4, none⟩) 8 (c - 4)) ((L.drop 4).take 8)) := hr2.sub (by omega) (by omega) (by omega)
      have E5 : Hid (leV ((L.drop 4).take 8) = ls) := HLS8
      have hl8 : ((L.drop 4).take 8).length ≤ 8 := by rw [List.length_take]; omega
      have e17 : L[17]? = some n := H17.out
      have k17 : W2.cell? ⟨b, o + 17, none⟩ = some (.int .u8 (n : Int)) := by
        obtain ⟨_, _, A, c0, e, _, _, h5⟩ := hr2
        injection e with e _ _
        rcases h5 with h5 | ⟨b', off, e', _, hx⟩
        · rw [h5] at e17; cases e17
        · rw [← e] at e'
          injection e' with e'
          injection e' with e4 e5
          subst e4 e5
          exact hx 17 n e17
      have hc12 : (12 : Int) ≤ (c : Int) := by omega
      have HP2 := Lib.hid hP2
      have HW2 := Lib.hid hw2
      have HR2 := Lib.hid hr2
      have HBF : Hid (Below w.heap.size w W2) := Lib.hid (by rw [← HP.out]; exact hw2)
      clear hW2 hP2 hw2 hr2 RA RA2 RS hL4 e17
      go_wp2_with fail
      refine (leGet_v R5.out hl8 E5.out).mono ?_
      rintro e7 w7 ⟨rfl, hw7⟩
      subst w7
      go_wp2_with fail
      (go_step3; exact ⟨rfl, ⟨_, rfl, rfl⟩, trivial, HBF.out⟩))
end Go.Proofs.Ytdghanhpeekbhaa

/-
  page's Parse at any bytes: what it says, in plain words.
-/
namespace Go.Proofs.Ytdghanhpeekbhaa
open Go.RowKit Go.Maps
set_option linter.unusedVariables false

/-- The head of a page is right: length, sum, LSN, count. -/
structure HeadOk (L : List Nat) : Prop where
  len : L.length = 512
  sum : leV (L.take 4) = crcSum (L.drop 4)
  lsn : leV ((L.drop 4).take 8) ≤ 9223372036854775807
  cnt : L.getD 17 0 ≤ 100

/-- These bytes are a page. -/
def IsPage (L : List Nat) (its : List (List Nat)) : Prop := HeadOk L ∧ PreFull L (L.getD 17 0) its

theorem its_exists (L : List Nat) : ∃ its, HeadOk L → Pre L (L.getD 17 0) its := by
  by_cases h : HeadOk L
  · obtain ⟨its, hp⟩ := pre_exists h.len h.cnt
    exact ⟨its, fun _ => hp⟩
  · exact ⟨[], fun h' => absurd h' h⟩

theorem pageParse_any (w : World) (L : List Nat) (v : Value) (hv : RB w w.heap.size v L) (its : List (List Nat)) (hP : HeadOk L → Pre L (L.getD 17 0) its) :
    Calls Try.prog 7 #[v] w fun e w' => Below w.heap.size w w' ∧ ((e = .returned (.tuple #[.pointer none, .int .i64 80]) ∧ ¬ IsPage L its) ∨ (IsPage L its ∧ ∃ p v' xs, e = .returned (.tuple #[.pointer (some ⟨p, 0, none⟩), .int .i64 0]) ∧ PageAt w' p w.heap.size v' xs (pgOf L its))) := by
  have hv0 := hv
  obtain ⟨hb, hl, A, c, rfl, hc, hc2, hx⟩ := hv
  by_cases hlen : L.length = 512
  · rcases hx with rfl | ⟨b, off, rfl, hbw, hcell⟩
    · simp at hlen
    · rw [hlen] at hv0 hc ⊢
      have h17 : L[17]? = some (L.getD 17 0) := by rw [List.getD, List.getElem?_eq_getElem (by omega)]; rfl
      by_cases hsum : leV (L.take 4) = crcSum (L.drop 4)
      · by_cases hlsn : leV ((L.drop 4).take 8) ≤ 9223372036854775807
        · by_cases hcnt : L.getD 17 0 ≤ 100
          · have HK : HeadOk L := ⟨hlen, hsum, hlsn, hcnt⟩
            refine (pageParse_pre w L hlen _ h17 hcnt its (hP HK) _ rfl hsum _ rfl hlsn b off c hc hc2 hbw hv0).mono ?_
            rintro e w' ⟨h1, h2⟩
            refine ⟨h1, ?_⟩
            rcases h2 with ⟨h2, h3⟩ | ⟨h2, h3⟩
            · exact .inl ⟨h2, fun h => h3 h.2⟩
            · exact .inr ⟨⟨HK, h2⟩, h3⟩
          · refine (parse_cnt w L hlen hsum hlsn _ h17 (by omega) b off c hc hc2 hbw hv0).mono ?_
            rintro e w' ⟨h1, h2⟩
            exact ⟨h1, .inl ⟨h2, fun h => hcnt h.1.cnt⟩⟩
        · refine (parse_lsn w L hlen hsum (by omega) b off c hc hc2 hbw hv0).mono ?_
          rintro e w' ⟨h1, h2⟩
          exact ⟨h1, .inl ⟨h2, fun h => hlsn h.1.lsn⟩⟩
      · refine (parse_sum w L hlen hsum b off c hc hc2 hbw hv0).mono ?_
        rintro e w' ⟨h1, h2⟩
        exact ⟨h1, .inl ⟨h2, fun h => hsum h.1.sum⟩⟩
  · refine (parse_len w A L.length c hlen hl).mono ?_
    rintro e w' ⟨h1, h2⟩
    exact ⟨h1, .inl ⟨h2, fun h => hlen h.1.len⟩⟩
end Go.Proofs.Ytdghanhpeekbhaa
