/-
  The walk of page's Parse at the bytes of a page, once more: its items lie in memory laid since.
-/
import Derived.Test.YtdghanhpeekbhaaZJ14
namespace Go.Proofs.Ytdghanhpeekbhaa
open Go.RowKit Go.Maps
set_option linter.unusedVariables false

theorem ItemsIn.snoc {Q : Nat → Prop} {xs : List Sl} {L : List (List Nat)} {y : Sl} {it : List Nat} (h : ItemsIn Q xs L) (hl : xs.length = L.length) (hy : Off (fun k => ¬ Q k) (slV y) it) : ItemsIn Q (xs ++ [y]) (L ++ [it]) := fun j x l hx hl' => by
  by_cases hj : j < xs.length
  · rw [List.getElem?_append_left hj] at hx
    rw [List.getElem?_append_left (by omega)] at hl'
    exact h j x l hx hl'
  · rw [List.getElem?_append_right (by omega)] at hx
    rw [List.getElem?_append_right (by omega)] at hl'
    have hj0 : j - xs.length = 0 := by
      have := (List.getElem?_eq_some_iff.1 hx).1
      simp at this; omega
    rw [hj0] at hx
    rw [← hl, hj0] at hl'
    simp at hx hl'
    subst hx hl'
    exact hy

set_option maxRecDepth 100000 in
set_option maxHeartbeats 2000000 in
theorem pageParse_in (w : World) (m : PG) (hm : m.Ok) (hf : m.Fit) (b o c : Nat) (hc : 512 ≤ c) (hc2 : c ≤ 9223372036854775807) (hb : b < w.heap.size) (hv : RB w w.heap.size (.slice (some ⟨b, o, none⟩) 512 c) (pageL m)) :
    Calls Try.prog 7 #[.slice (some ⟨b, o, none⟩) 512 c] w fun e w' => ∃ p v' xs, e = .returned (.tuple #[.pointer (some ⟨p, 0, none⟩), .int .i64 0]) ∧ PageAt w' p w.heap.size v' xs m ∧ Below w.heap.size w w' ∧ ItemsIn (fun k => w.heap.size ≤ k) xs m.items := by
  have HM := Lib.hid hm
  have HF := Lib.hid hf
  have HV := Lib.hid hv
  have hlen := pageL_len hf
  obtain ⟨L, hL⟩ : ∃ L, L = pageL m := ⟨_, rfl⟩
  rw [← hL] at hlen hv HV
  have HL := Lib.hid hL
  have hnum := hm.num
  obtain ⟨n, hn⟩ : ∃ n, n = m.items.length := ⟨_, rfl⟩
  rw [← hn] at hnum
  have HN := Lib.hid hn
  obtain ⟨ls, hls⟩ : ∃ ls : Nat, m.lsn = (ls : Int) := ⟨m.lsn.toNat, by have := hm.lsn; omega⟩
  have hls2 : ls ≤ 9223372036854775807 := by have := hm.lsn; omega
  obtain ⟨kd, hkd⟩ : ∃ kd, kd = m.kind := ⟨_, rfl⟩
  obtain ⟨ex, hexx⟩ : ∃ ex, ex = m.extra := ⟨_, rfl⟩
  have hk := hm.kind
  have hex := hm.extra
  rw [← hkd] at hk
  rw [← hexx] at hex
  have HLS := Lib.hid hls
  have HKD := Lib.hid hkd
  have HEX := Lib.hid hexx
  obtain ⟨cs, hcs⟩ : ∃ cs, cs = crcSum m.body := ⟨_, rfl⟩
  have hblt : ∀ x ∈ m.body, x < 256 := fun x hx => hv.1 x (by rw [hL]; unfold pageL; exact List.mem_append_right _ hx)
  have hcs32 : cs < 4294967296 := by rw [hcs]; exact crcSum_lt _ hblt
  have HCS : Hid (cs = crcSum m.body) := Lib.hid hcs
  have hucs : IntKind.u64.wrap (cs : Int) = (cs : Int) := by rw [IntKind.wrap_u64]; omega
  -- the parts, in the words of the walk
  have R0 : Hid (RB w w.heap.size (.slice (some ⟨b, o, none⟩) 4 c) (L.take 4)) := by
    have := hv.sub (lo := 0) (m := 4) (c' := c) (by omega) (by omega) hc2
    rw [List.drop_zero, Nat.add_zero] at this; exact this
  have R1 : Hid (RB w w.heap.size (.slice (some ⟨b, o + 4, none⟩) 508 (c - 4)) m.body) := by
    have := hv.sub (lo := 4) (m := 508) (c' := c - 4) (by omega) (by omega) (by omega)
    rw [List.take_of_length_le (by rw [List.length_drop]; omega), hL, (pg_sum m).2] at this; exact this
  have E0 : Hid (leV (L.take 4) = cs) := by show _ = _; rw [hL, (pg_sum m).1, leV_digits_of (by omega), hcs]
  have hbd : ∀ k, k ≤ n → 18 + 2 * k + sumTo m.items k ≤ 512 := fun k hk => hf.at_ (by rw [← hn]; exact hk)
  have HBD := Lib.hid hbd
  clear hm hf hv hL hn hls hkd hexx hcs hblt hbd
  go_enter Try.func7, Try.ntmps7
  go_wp2
  go_step3
  go_wp2_with fail
  obtain ⟨W1, hW1⟩ : ∃ W1, W1 = w.alloc (.cells #[.int .i64 0, .int .u8 0, .int .u32 0, .slice none 0 0] 62) := ⟨_, rfl⟩
  rw [← hW1]
  obtain ⟨p, hp⟩ : ∃ p, p = w.heap.size := ⟨_, rfl⟩
  have hP1 : PageAt W1 p p (.slice none 0 0) [] ⟨0, 0, 0, []⟩ := by
    rw [hW1, hp]
    exact ⟨⟨by simp, by simp, by simp, by simp, by simp⟩, Blk.new _ _ _, OK.nil _ _, rfl, by simp, by simp [Value.ownBlock], Nat.le_refl _⟩
  have hw1 : Below p w W1 := by rw [hW1, hp]; exact (Below.refl _ _).alloc (Nat.le_refl _) _
  rw [← hp]
  have hbp : b < p := by omega
  have HP1 := Lib.hid hP1
  have HW1 := Lib.hid hw1
  have HP := Lib.hid hp
  have RA : Hid (RB W1.drew p (.slice (some ⟨b, o, none⟩) 4 c) (L.take 4)) := by show RB _ _ _ _; rw [HP.out]; exact (R0.out.below (by rw [← HP.out]; exact HW1.out)).drew
  have RA2 : Hid (RB (W1.drew.alloc (.cells #[.slice (some ⟨b, o + 4, none⟩) 508 (c - 4)] 22)) p (.slice (some ⟨b, o, none⟩) 4 c) (L.take 4)) := RA.out.alloc (Nat.le_of_lt HP1.out.lt) _
  have RS : Hid (RP (W1.drew.alloc (.cells #[.slice (some ⟨b, o + 4, none⟩) 508 (c - 4)] 22)) p W1.heap.size 0 [m.body]) := RP.one rfl (Below.refl _ _).drew (by rw [HP.out]; exact R1.out.below (by rw [← HP.out]; exact HW1.out)) (Nat.le_of_lt HP1.out.lt)
  have hL4 : (L.take 4).length ≤ 8 := by rw [List.length_take]; omega
  have hc4 : (4 : Int) ≤ (c : Int) := by omega
  have hc4n : ¬ c = 4 := by omega
  clear hW1 hP1 hw1 hp
  go_region_held3 (fun _ => True) (trivial)
    (first
      | (go_at_call 27; refine (leGet_v (B := p) (by first | exact RA.out | exact RA2.out) hL4 E0.out).mono ?_; rintro e7 w7 ⟨rfl, rfl⟩)
      | (go_at_call 28; refine (sum_one RS.out HCS.out).mono ?_; rintro e7 w7 ⟨rfl, rfl⟩))
  all_goals (
    obtain ⟨W2, hW2, hP2, hw2, hr2⟩ : ∃ W2, W2 = (W1.alloc (.cells #[.slice (some ⟨b, o + 4, none⟩) 508 (c - 4)] 22)).drew ∧ PageAt W2 p p (.slice none 0 0) [] ⟨0, 0, 0, []⟩ ∧ Below p w W2 ∧ RB W2 p (.slice (some ⟨b, o, none⟩) 512 c) L :=
      ⟨_, rfl, (HP1.out.alloc _).below (Below.refl _ _).drew, (HW1.out.alloc (Nat.le_of_lt HP1.out.lt) _).drew, by
        have h1 : RB w p (.slice (some ⟨b, o, none⟩) 512 c) L := by rw [HP.out]; exact HV.out
        exact ((h1.below HW1.out).alloc (Nat.le_of_lt HP1.out.lt) _).drew⟩
    rw [← hW2]
    have R5 : Hid (RB W2 p (.slice (some ⟨b, o + 4, none⟩) 8 (c - 4)) ((L.drop 4).take 8)) := hr2.sub (by omega) (by omega) (by omega)
    have E5 : Hid (leV ((L.drop 4).take 8) = ls) := by show _ = _; rw [HL.out, pg_lsn, HLS.out, Int.toNat_natCast, leV_digits_of (by omega)]
    have hl8 : ((L.drop 4).take 8).length ≤ 8 := by rw [List.length_take]; omega
    have hgt : decide ((9223372036854775807 : Int) < (ls : Int)) = false := by simp; omega
    have hgt2 : ¬ (9223372036854775807 : Int) < (ls : Int) := by omega
    have hn100 : decide ((100 : Int) < (n : Int)) = false := by simp; omega
    have hn100b : ¬ (100 : Int) < (n : Int) := by omega
    have e17 : L[17]? = some n := by rw [HL.out, pg_count, ← HN.out]
    have k17 : W2.cell? ⟨b, o + 17, none⟩ = some (.int .u8 (n : Int)) := by
      obtain ⟨_, _, A, c0, e, _, _, h5⟩ := hr2
      injection e with e _ _
      rcases h5 with h5 | ⟨b', off, e', _, hx⟩
      · rw [h5] at e17; cases e17
      · rw [← e] at e'
        injection e' with e'
        injection e' with e4 e5
        subst e4 e5
        exact hx 17 n e17
    have hc12 : (12 : Int) ≤ (c : Int) := by omega
    have HP2 := Lib.hid hP2
    have HW2 := Lib.hid hw2
    have HR2 := Lib.hid hr2
    clear hW2 hP2 hw2 hr2 RA RA2 RS hL4 e17
    go_wp2_with fail
    refine (leGet_v R5.out hl8 E5.out).mono ?_
    rintro e7 w7 ⟨rfl, hw7⟩
    subst w7
    go_wp2_with fail
    refine (clone_any _ _ L (HR2.out.more (Nat.le_of_lt HP2.out.lt))).mono ?_
    rintro e8 w3 ⟨v3, rfl, ho3, hb3⟩
    obtain ⟨g, cap, rfl, hg1, hg2, hg3, hg4, -⟩ := ho3.form (by omega)
    rw [hlen] at ho3 hg3
    have hR3 : RB w3 w3.heap.size (.slice (some ⟨g, 0, none⟩) 512 cap) L := ho3.rbn
    have HR3 := Lib.hid hR3
    have HW3 : Hid (Below p w w3) := HW2.out.trans (hb3.mono (Nat.le_of_lt HP2.out.lt))
    have HP3 := Lib.hid (HP2.out.below hb3)
    have hgp : p < g := by have := HP2.out.lt; omega
    have hR7 : RB w3 w3.heap.size (.slice (some ⟨g, 4, none⟩) 8 (cap - 4)) ((L.drop 4).take 8) := by have := hR3.sub (lo := 4) (m := 8) (c' := cap - 4) (by omega) (by omega) (by omega); rw [Nat.zero_add] at this; exact this
    have hR9 : RB w3 w3.heap.size (.slice (some ⟨g, 13, none⟩) 4 (cap - 13)) ((L.drop 13).take 4) := by have := hR3.sub (lo := 13) (m := 4) (c' := cap - 13) (by omega) (by omega) (by omega); rw [Nat.zero_add] at this; exact this
    have HO3 : Hid (OB w3 W2.heap.size (.slice (some ⟨g, 0, none⟩) 512 cap) L) := Lib.hid ho3
    have kcell : ∀ (i x : Nat), L[i]? = some x → w3.cell? ⟨g, i, none⟩ = some (.int .u8 (x : Int)) := fun i x hx => by
      obtain ⟨_, _, A, c0, e, _, _, h5⟩ := hR3
      injection e with e _ _
      rcases h5 with h5 | ⟨b', off, e', _, hx'⟩
      · rw [h5] at hx; cases hx
      · rw [← e] at e'
        injection e' with e'
        injection e' with e4 e5
        subst e4 e5
        have := hx' i x hx
        rw [Nat.zero_add] at this; exact this
    have k12 : w3.cell? ⟨g, 12, none⟩ = some (.int .u8 (kd : Int)) := kcell 12 kd (by rw [HL.out, pg_kind, ← HKD.out])
    have kg17 : w3.cell? ⟨g, 17, none⟩ = some (.int .u8 (n : Int)) := kcell 17 n (by rw [HL.out, pg_count, ← HN.out])
    have HKC := Lib.hid kcell
    have E9 : Hid (leV ((L.drop 13).take 4) = ex) := by show _ = _; rw [HL.out, pg_extra, ← HEX.out, leV_digits_of (by omega)]
    have hl4 : ((L.drop 13).take 4).length ≤ 8 := by rw [List.length_take]; omega
    have hcap4 : (12 : Int) ≤ (cap : Int) := by omega
    have hcap17 : (17 : Int) ≤ (cap : Int) := by omega
    have hn4 : ¬ cap = 4 := by omega
    have hn13 : ¬ cap = 13 := by omega
    have hwl : IntKind.i64.wrap (ls : Int) = (ls : Int) := by rw [IntKind.wrap_i64]; omega
    have hwe : IntKind.u32.wrap (ex : Int) = (ex : Int) := by rw [IntKind.wrap_u32]; omega
    have q0 : w3.cell? ⟨p, 0, none⟩ = some (.int .i64 0) := HP3.out.blk.cell 0
    have q0f := HP3.out.blk.frozen 0
    have q1 : w3.cell? ⟨p, 1, none⟩ = some (.int .u8 0) := HP3.out.blk.cell 1
    have q1f := HP3.out.blk.frozen 1
    have q2 : w3.cell? ⟨p, 2, none⟩ = some (.int .u32 0) := HP3.out.blk.cell 2
    have q2f := HP3.out.blk.frozen 2
    have hgp1 : ¬ g = p := by omega
    have hgp2 : ¬ p = g := by omega
    have R7 := Lib.hid hR7
    have R9 := Lib.hid hR9
    clear hR3 ho3 hb3 hR7 hR9 kcell k17 hgt hgt2 hg1
    go_wp2_with fail
    refine (leGet_v R7.out hl8 E5.out).mono ?_
    rintro e9 w9 ⟨rfl, hw9⟩
    subst w9
    obtain ⟨W4, hW4⟩ : ∃ W4, W4 = w3.setCell ⟨p, 0, none⟩ (.int .i64 (ls : Int)) := ⟨_, rfl⟩
    obtain ⟨W5, hW5⟩ : ∃ W5, W5 = W4.setCell ⟨p, 1, none⟩ (.int .u8 (kd : Int)) := ⟨_, rfl⟩
    have hpw3 : p < w3.heap.size := HP3.out.lt
    have hb4 : Blk W4 p 62 #[.int .i64 (ls : Int), .int .u8 ((0 : Nat) : Int), .int .u32 ((0 : Nat) : Int), .slice none 0 0] := by rw [hW4]; exact HP3.out.blk.set_ 0 (.int .i64 (ls : Int))
    have hb5 : Blk W5 p 62 #[.int .i64 (ls : Int), .int .u8 (kd : Int), .int .u32 ((0 : Nat) : Int), .slice none 0 0] := by rw [hW5]; exact hb4.set_ 1 (.int .u8 (kd : Int))
    have hm4 : Mod (fun q => q = p) w3 W4 := by rw [hW4]; exact mod_set
    have hm5 : Mod (fun q => q = p) w3 W5 := by rw [hW5]; exact hm4.trans' mod_set
    have hgl := (HO3.out.lt g rfl).2
    have R9b : Hid (RB ((w3.setCell ⟨p, 0, none⟩ (.int .i64 (ls : Int))).setCell ⟨p, 1, none⟩ (.int .u8 (kd : Int))) ((w3.setCell ⟨p, 0, none⟩ (.int .i64 (ls : Int))).setCell ⟨p, 1, none⟩ (.int .u8 (kd : Int))).heap.size (.slice (some ⟨g, 13, none⟩) 4 (cap - 13)) ((L.drop 13).take 4)) := by
      have := R9.out.mod hm5 (.inr fun b' e he => by injection e with e; simp at e; omega)
      rw [hW5, hW4] at this
      exact this
    have HM5 := Lib.hid hm5
    have HB5 := Lib.hid hb5
    have HW4 := Lib.hid hW4
    have HW5 := Lib.hid hW5
    clear hW4 hW5 hb4 hb5 hm4 hm5
    go_wp2_with fail
    refine (leGet_v R9b.out hl4 E9.out).mono ?_
    rintro e10 w10 ⟨rfl, hw10⟩
    subst w10
    have hwn : IntKind.i64.wrap (n : Int) = (n : Int) := by rw [IntKind.wrap_i64]; omega
    have k17c : (((w3.setCell ⟨p, 0, none⟩ (.int .i64 (ls : Int))).setCell ⟨p, 1, none⟩ (.int .u8 (kd : Int))).setCell ⟨p, 2, none⟩ (.int .u32 (ex : Int))).cell? ⟨g, 17, none⟩ = some (.int .u8 (n : Int)) := by
      have hm : Mod (fun q => q = p) w3 (((w3.setCell ⟨p, 0, none⟩ (.int .i64 (ls : Int))).setCell ⟨p, 1, none⟩ (.int .u8 (kd : Int))).setCell ⟨p, 2, none⟩ (.int .u32 (ex : Int))) := (mod_set.trans' mod_set).trans' mod_set
      exact (hm.cell hgl hgp1 17).trans kg17
    have hcap18 : (17 : Int) < (cap : Int) := by omega
    go_wp2_with fail
    obtain ⟨W6, hW6, hP6, hR6, hw6⟩ : ∃ W6, W6 = ((w3.setCell ⟨p, 0, none⟩ (.int .i64 (ls : Int))).setCell ⟨p, 1, none⟩ (.int .u8 (kd : Int))).setCell ⟨p, 2, none⟩ (.int .u32 (ex : Int)) ∧ PageAt W6 p p (.slice none 0 0) [] (m.first 0) ∧ RB W6 W6.heap.size (.slice (some ⟨g, 0, none⟩) 512 cap) L ∧ Below p w W6 := by
      have hm : Mod (fun q => q = p) w3 (((w3.setCell ⟨p, 0, none⟩ (.int .i64 (ls : Int))).setCell ⟨p, 1, none⟩ (.int .u8 (kd : Int))).setCell ⟨p, 2, none⟩ (.int .u32 (ex : Int))) := (mod_set.trans' mod_set).trans' mod_set
      refine ⟨_, rfl, ⟨HM.out.first 0, ?_, OK.nil _ _, rfl, fun j x l hx => by simp at hx, by simp [Value.ownBlock], Nat.le_refl _⟩, HR3.out.mod hm (.inr fun b' e he => by injection e with e; simp at e; omega), HW3.out.trans (hm.below (Nat.le_of_lt HP3.out.lt) (fun k e => Nat.le_of_eq e.symm))⟩
      have h0 := ((HP3.out.blk.set_ 0 (.int .i64 (ls : Int))).set_ 1 (.int .u8 (kd : Int))).set_ 2 (.int .u32 (ex : Int))
      unfold PG.first
      dsimp only
      rw [HLS.out, ← HKD.out, ← HEX.out]
      exact h0
    rw [← hW6]
    have HP6 := Lib.hid hP6
    have HR6 := Lib.hid hR6
    have HW6 := Lib.hid hw6
    clear hW6 hP6 hR6 hw6 q0 q0f q1 q1f q2 q2f k12 kg17 k17c hwl hwe hcap4 hcap17 hcap18 hn4 hn13
    go_loopw [7, 65] (fun bg i wr => ∃ (k e : Nat) (A : Option Addr) (cr : Nat) (xs : List Sl), k ≤ n ∧ i = .int .i64 k ∧ bg = .int .i64 e ∧ Hid (e = 512 - sumTo m.items k) ∧ Hid (PageAt wr p p (.slice A k cr) xs (m.first k)) ∧ Hid (RB wr wr.heap.size (.slice (some ⟨g, 0, none⟩) 512 cap) L) ∧ Hid (Below p w wr) ∧ Hid ((Value.slice A k cr).ownBlock ≠ some g) ∧ Hid (ItemsIn (fun q => q = g) xs (m.items.take k))) (fun bg i wr => n - (intOf i).toNat)
    case atStart => exact ⟨0, 512, none, 0, [], Nat.zero_le _, rfl, rfl, rfl, HP6, HR6, HW6, by simp [Value.ownBlock]; exact Lib.hid trivial, Lib.hid (fun j x l hx => by simp at hx)⟩
    case round =>
      obtain ⟨k, e, A, cr, xs, hkn, rfl, rfl, HE, HPG, HRR, HWW, HNG, HII⟩ := hrel
      have hee := HE.out
      by_cases hlt : k < n
      · have hki : k < m.items.length := by rw [← HN.out]; exact hlt
        obtain ⟨it, hit⟩ : ∃ it, it = m.items[k] := ⟨_, rfl⟩
        have hs := sumTo_succ hki
        rw [← hit] at hs
        have h1 := HBD.out (k + 1) (by omega)
        have hnn := HBD.out n (Nat.le_refl _)
        have hk0 := HBD.out k (by omega)
        have hmono : sumTo m.items (k + 1) ≤ sumTo m.items n := by
          have := sumTo_mono (L := m.items) (k := k + 1)
          rw [← sumTo_all, ← HN.out] at this; exact this
        have hit200 : it.length ≤ 200 := by rw [hit]; exact HM.out.item _ (List.getElem_mem _)
        obtain ⟨e', he'⟩ : ∃ e', e' = 512 - sumTo m.items (k + 1) := ⟨_, rfl⟩
        have hitl : e - e' = it.length := by omega
        have he512 : e' ≤ 512 := by omega
        have hee' : e' ≤ e := by omega
        have R16 : Hid (RB wr wr.heap.size (.slice (some ⟨g, 18 + 2 * k, none⟩) 2 (cap - (18 + 2 * k))) ((L.drop (18 + 2 * k)).take 2)) := by
          have h3 := HRR.out.sub (lo := 18 + 2 * k) (m := 2) (c' := cap - (18 + 2 * k)) (by omega) (by omega) (by omega)
          rw [Nat.zero_add] at h3
          exact h3
        have E16 : Hid (leV ((L.drop (18 + 2 * k)).take 2) = e') := by show _ = _; rw [HL.out, pg_slot hki, ← he', leV_digits_of (by omega)]
        have hl2 : ((L.drop (18 + 2 * k)).take 2).length ≤ 8 := by rw [List.length_take]; omega
        have hsl := slB_lh (b := g) (o := 0) (n := 512) (cap := cap) (lo := 18 + 2 * k) (hi := 18 + 2 * (k + 1)) (i := 18 + 2 * (k : Int)) (j := 18 + 2 * ((k : Int) + 1)) (by omega) (by omega) (by omega) (by omega)
        rw [show 18 + 2 * (k + 1) - (18 + 2 * k) = 2 by omega, if_neg (by omega), Nat.zero_add] at hsl
        have hwk : IntKind.i64.wrap ((k : Int) + 1) = (k : Int) + 1 := by rw [IntKind.wrap_i64]; omega
        have hwe1 : IntKind.i64.wrap (e' : Int) = (e' : Int) := by rw [IntKind.wrap_i64]; omega
        have hws : IntKind.i64.wrap ((e : Int) - (e' : Int)) = (e : Int) - (e' : Int) := by rw [IntKind.wrap_i64]; omega
        have d1 : decide ((e : Int) < (e' : Int)) = false := by simp; omega
        have d2 : decide ((e' : Int) < 18 + 2 * (n : Int)) = false := by simp; omega
        have d3 : decide ((200 : Int) < (e : Int) - (e' : Int)) = false := by simp; omega
        have hsl3 := slB_lh (b := g) (o := 0) (n := 512) (cap := cap) (lo := e') (hi := e) (i := (e' : Int)) (j := (e : Int)) rfl rfl hee' (by omega)
        obtain ⟨of, hof⟩ : ∃ of, of = if cap = e' then 0 else 0 + e' := ⟨_, rfl⟩
        rw [← hof] at hsl3
        have hrx : RB wr wr.heap.size (.slice (some ⟨g, of, none⟩) (e - e') (cap - e')) it := by
          by_cases hce : cap = e'
          · have : it = [] := List.eq_nil_of_length_eq_zero (by omega)
            subst this
            exact ⟨by simp, by simp, some ⟨g, of, none⟩, cap - e', by rw [hitl], by simp, by omega, .inl rfl⟩
          · have h3 := HRR.out.sub (lo := e') (m := e - e') (c' := cap - e') (by omega) (by omega) (by omega)
            have hpi := pg_item HF.out hki
            rw [← HL.out, ← he', ← hit, ← hitl] at hpi
            rw [hpi] at h3
            rw [hof, if_neg hce]; exact h3
        have HRX := Lib.hid hrx
        have HIT : Hid (m.items[k]? = some it) := by show _ = _; rw [List.getElem?_eq_getElem hki, hit]
        have HE' := Lib.hid he'
        have cg : wr.cell? ⟨p, 3, none⟩ = some (.slice A k cr) := HPG.out.blk.cell 3
        have cga : (wr.alloc (.cells #[.slice (some ⟨g, of, none⟩) (e - e') (cap - e')] 22)).cell? ⟨p, 3, none⟩ = some (.slice A k cr) := ((HPG.out.alloc _).blk.cell 3)
        have hn1 : (0 : Int) ≤ (n : Int) ∧ (n : Int) ≤ 1000000 := by omega
        clear hs h1 hnn hk0 hmono hit he' hrx hof hit200 hee hitl
        go_wp2_with (first
          | (go_at_call 30; refine (slotAt_any _ _ (by omega)).mono ?_; rintro e11 w11 ⟨rfl, rfl⟩)
          | (go_at_call 27; refine (leGet_v R16.out hl2 E16.out).mono ?_; rintro e12 w12 ⟨rfl, hw12⟩; subst w12))
        have HPGd : Hid (PageAt wr.drew p p (.slice A k cr) xs (m.first k)) := HPG.out.below (Below.refl _ _).drew
        have HRXd : Hid (RB wr.drew wr.drew.heap.size (slV ((some ⟨g, of, none⟩, e - e', cap - e') : Sl)) it) := HRX.out.drew
        have HOFd : Hid (Off (fun q => q = p ∨ (Value.slice A k cr).ownBlock = some q) (slV ((some ⟨g, of, none⟩, e - e', cap - e') : Sl)) it) := .inr fun b' hb' e5 => by
          injection hb' with hb'
          simp at hb'
          subst hb'
          rcases e5 with e5 | e5
          · exact hgp1 e5
          · exact HNG.out e5
        clear d1 d2 d3 hws hwe1 hwk hsl hl2 R16 E16 hn1
        go_region_law (first
          | (refine app_armD (w := wr) (x := ((some ⟨g, of, none⟩, e - e', cap - e') : Sl)) HPG.out HM.out HN.out hlt HIT.out HRX.out HOFd.out rfl (.tmp 97) (.tmp 102) rfl rfl rfl ?_; intro A' c' w' k3 f3 HALL))
        all_goals (
          have hall := HALL.out
          go_wp2_with fail
          go_roundw
          case rel =>
            refine ⟨k + 1, e', A', c', _, by omega, by go_num, rfl, HE', hall.1, HRR.out.drew.mod hall.2.1 (.inr fun b' hb' e5 => ?_), ?_, ?_, ?_⟩
            · injection hb' with hb'
              simp at hb'
              subst hb'
              rcases e5 with e5 | e5
              · exact hgp1 e5
              · exact HNG.out e5
            · exact HWW.out.drew.trans (hall.2.1.below (Nat.le_of_lt HPG.out.lt) (fun q e5 => by
                rcases e5 with e5 | e5
                · exact Nat.le_of_eq e5.symm
                · exact (HPG.out.row.lt q e5).1))
            · intro e5
              rcases hall.2.2 with h6 | h6
              · rw [h6] at e5; exact HNG.out e5
              · have h7 := h6 g e5
                have h8 : g < wr.heap.size := by
                  obtain ⟨_, _, A9, c9, e9, _, _, h9⟩ := HRR.out
                  injection e9 with e9 _ _
                  rcases h9 with h9 | ⟨b', off, e10, hb', _⟩
                  · rw [h9] at hlen; simp at hlen
                  · rw [← e9] at e10; injection e10 with e10; injection e10 with e10; omega
                have h7' : wr.heap.size ≤ g := h7
                omega
            · have hki' : k < m.items.length := by rw [← HN.out]; exact hlt
              rw [List.take_succ_eq_append_getElem hki']
              exact HII.out.snoc (by rw [HPG.out.len]; rfl) (.inr fun b' hb' e5 => by injection hb' with hb'; exact e5 hb'.symm)
          case measure => simp [intOf]; omega)
      · obtain rfl : k = n := by omega
        have hk0 := HBD.out k (Nat.le_refl _)
        have hn1 : (0 : Int) ≤ (k : Int) ∧ (k : Int) ≤ 1000000 := by omega
        have hsl := slB_lh (b := g) (o := 0) (n := 512) (cap := cap) (lo := 18 + 2 * k) (hi := e) (i := 18 + 2 * (k : Int)) (j := (e : Int)) (by omega) rfl (by omega) (by omega)
        have hcn : ¬ cap = 18 + 2 * k := by omega
        rw [if_neg hcn, Nat.zero_add] at hsl
        obtain ⟨z, hz⟩ : ∃ z, e - (18 + 2 * k) = z := ⟨_, rfl⟩
        rw [hz] at hsl
        have hgap : ∀ j, j < z → wr.cell? ⟨g, 18 + 2 * k + j, none⟩ = some (.int .u8 0) := fun j hj => by
          have h3 := pg_gap HF.out (j := 18 + 2 * k + j) (by rw [← HN.out]; omega) (by rw [← HN.out]; omega)
          rw [← HL.out] at h3
          obtain ⟨_, _, A9, c9, e9, _, _, h9⟩ := HRR.out
          injection e9 with e9 _ _
          rcases h9 with h9 | ⟨b', off, e10, hb', hx9⟩
          · rw [h9] at hlen; simp at hlen
          · rw [← e9] at e10
            injection e10 with e10
            injection e10 with e10 e11
            subst e10 e11
            have := hx9 _ 0 h3
            rw [Nat.zero_add] at this
            exact this
        have HGAP := Lib.hid hgap
        have hz512 : z ≤ 512 := by omega
        clear hgap hk0 hee
        go_wp2_with (first
          | (go_at_call 30; refine (slotAt_any _ _ (by omega)).mono ?_; rintro e11 w11 ⟨rfl, rfl⟩))
        have hfirst : m.first k = m := by
          unfold PG.first
          rw [HN.out, List.take_length]
        have hfin : PageAt wr p w.heap.size (.slice A k cr) xs m := by
          have h5 := HPG.out
          rw [hfirst] at h5
          rw [← HP.out]; exact h5
        have hbf : Below w.heap.size w wr := by rw [← HP.out]; exact HWW.out
        have HFIN := Lib.hid hfin
        have HBF := Lib.hid hbf
        clear hfirst hfin hbf hsl
        go_loopw [113] (fun i wq => ∃ j : Nat, j ≤ z ∧ i = .int .i64 j ∧ wq = wr) (fun i wq => z - (intOf i).toNat)
        case atStart => exact ⟨0, Nat.zero_le _, rfl, rfl⟩
        case round =>
          obtain ⟨j, hj, rfl, rfl⟩ := hrel
          by_cases hjz : j < z
          · have hcj := HGAP.out j hjz
            have hji : (j : Int) < (z : Int) := by omega
            go_wp2_with fail
            go_roundw
            case rel => exact ⟨j + 1, by omega, by go_num, by first | rfl | trivial⟩
            case measure => simp [intOf]; omega
          · obtain rfl : j = z := by omega
            go_wp2_with fail
            try rw [Exit.noGoto_ret]
            go_ret2
            exact ⟨p, _, xs, by first | rfl | trivial, HFIN.out, HBF.out, by have h5 := HII.out; rw [HN.out, List.take_length] at h5; exact h5.mono fun q e5 => by have e5 : q = g := e5; have := HP.out; omega⟩)
end Go.Proofs.Ytdghanhpeekbhaa
