/-
  The walk of page's Bytes.
-/
import Derived.Test.YtdghanhpeekbhaaZJ7
namespace Go.Proofs.Ytdghanhpeekbhaa
open Go.RowKit Go.Maps
set_option linter.unusedVariables false

set_option maxRecDepth 100000 in
set_option maxHeartbeats 400000 in
theorem pageBytes_any (w : World) (p B : Nat) (v : Value) (xs : List Sl) (m : PG) (h : PageAt w p B v xs m) (hf : m.Fit) :
    Calls Try.prog 13 #[.pointer (some ⟨p, 0, none⟩)] w fun e w' => ∃ g, e = .returned (.slice (some ⟨g, 0, none⟩) 512 512) ∧ w.heap.size ≤ g ∧ BB w' g 74 (pageL m) ∧ Below w.heap.size w w' := by
  have H := Lib.hid h
  have HF := Lib.hid hf
  have hplt := h.lt
  have hnum := h.ok.num
  obtain ⟨ls, hls⟩ : ∃ ls : Nat, m.lsn = (ls : Int) := ⟨m.lsn.toNat, by have := h.ok.lsn; omega⟩
  have hls2 : ls ≤ 9223372036854775807 := by have := h.ok.lsn; omega
  obtain ⟨n, hn⟩ : ∃ n, n = m.items.length := ⟨_, rfl⟩
  rw [← hn] at hnum
  have HN := Lib.hid hn
  have HLS := Lib.hid hls
  have hk := h.ok.kind
  have hex := h.ok.extra
  obtain ⟨kd, hkd⟩ : ∃ kd, kd = m.kind := ⟨_, rfl⟩
  obtain ⟨ex, hexx⟩ : ∃ ex, ex = m.extra := ⟨_, rfl⟩
  rw [← hkd] at hk
  rw [← hexx] at hex
  have hv : ∃ A c, v = .slice A n c := by rw [hn]; exact h.open_
  obtain ⟨A, c, rfl⟩ := hv
  have hb0 : Blk w p 62 #[.int .i64 (ls : Int), .int .u8 (kd : Int), .int .u32 (ex : Int), .slice A n c] := by rw [hkd, hexx, ← hls]; exact h.blk
  have HB0 := Lib.hid hb0
  have HKD := Lib.hid hkd
  have HEX := Lib.hid hexx
  have hcv : IntKind.u64.wrap (ls : Int) = (ls : Int) := by rw [IntKind.wrap_u64]; omega
  have hcv2 : IntKind.u64.wrap (ex : Int) = (ex : Int) := by rw [IntKind.wrap_u64]; omega
  have hcv3 : IntKind.u8.wrap (n : Int) = (n : Int) := by rw [IntKind.wrap_u8]; omega
  obtain ⟨g, hg⟩ : ∃ g, g = w.heap.size := ⟨_, rfl⟩
  have HG := Lib.hid hg
  have hpg : p < g := by omega
  clear h hf hn hls hkd hexx hb0 hg
  go_enter Try.func13, Try.ntmps13
  go_wp2_with (first | (refine wpList_allocA g HG.out.symm ?_; intro w1 hb1 hw1 hz1; rw [← HG.out] at hw1 hz1; have HB1 := Lib.hid hb1; have HW1 := Lib.hid hw1; clear hb1 hw1))
  obtain ⟨W2, hW, HB2, HW2, hz2⟩ : ∃ W2, W2 = w1.drew ∧ Hid (BB W2 g 74 sec0) ∧ Hid (Below g w W2) ∧ W2.heap.size = g + 1 := ⟨_, rfl, ⟨HB1.out.blk.drew, HB1.out.lt, HB1.out.len⟩, HW1.out.drew, hz1⟩
  have c20 : W2.cell? ⟨p, 0, none⟩ = some (.int .i64 (ls : Int)) := (HW2.out.cell (p := ⟨p, 0, none⟩) hpg).trans (HB0.out.cell 0)
  refine still_tail_at 6 W2 hW (by kernel_rfl) (by kernel_rfl) ?_
  clear hW HB1 HW1 hz1
  simp only [List.take_succ_cons, List.take_zero, List.drop_succ_cons, List.drop_zero]
  iterate 6 still_step
  refine wpStill_nil ?_
  go_wp2_with fail
  refine (lePut_at HB2.out (by rw [sec0_ok.1]; omega) (by omega) (by omega) (by omega) (by omega)).mono ?_
  rintro e W3 ⟨rfl, hb3, hm3, hz3⟩
  have HW3 := Lib.hid (below_mod HW2.out (Nat.le_of_lt HB2.out.size) hm3)
  rw [head_1 _ (digits_len _ _)] at hb3
  obtain ⟨X1, hX1⟩ : ∃ X1, X1 = List.replicate 4 0 ++ digits ls 8 := ⟨_, rfl⟩
  have hX1l : X1.length = 12 := by rw [hX1, List.length_append, digits_len, List.length_replicate]
  rw [← hX1] at hb3
  have hl3 : (X1 ++ List.replicate 500 0 ++ []).length = 512 := by rw [List.append_nil, List.length_append, List.length_replicate, hX1l]
  obtain ⟨y12, k12⟩ : ∃ y, W3.cell? ⟨g, 12, none⟩ = some y := ⟨_, hb3.cell (i := 12) (by omega)⟩
  have f12 := hb3.blk.frozen 12
  have c31 : W3.cell? ⟨p, 1, none⟩ = some (.int .u8 (kd : Int)) := (HW3.out.cell (p := ⟨p, 1, none⟩) hpg).trans (HB0.out.cell 1)
  have hb4 := hb3.set_ (i := 12) (y := kd) (by omega) hk
  rw [head_2 hX1l (by omega)] at hb4
  have HW4 := Lib.hid (below_mod HW3.out (Nat.le_of_lt hb3.size) (mod_set (i := 12) (u := .int .u8 (kd : Int))))
  have HB4 := Lib.hid hb4
  have HX1 := Lib.hid hX1
  clear hb3 hm3 hX1 hb4 c20 hz2 hz3 hl3
  go_wp2_with fail
  obtain ⟨W5, hW, hb5, hw5⟩ : ∃ W5, W5 = (W3.setCell ⟨g, 12, none⟩ (.int .u8 (kd : Int))).drew ∧ BB W5 g 74 ((X1 ++ [kd]) ++ List.replicate (500 - 1) 0 ++ []) ∧ Below g w W5 := ⟨_, rfl, HB4.out.drew, HW4.out.drew⟩
  have c52 : W5.cell? ⟨p, 2, none⟩ = some (.int .u32 (ex : Int)) := (hw5.cell (p := ⟨p, 2, none⟩) hpg).trans (HB0.out.cell 2)
  have HB5 := Lib.hid hb5
  have HW5 := Lib.hid hw5
  refine still_tail_at 6 W5 hW (by kernel_rfl) (by kernel_rfl) ?_
  clear hW HB4 HW4 hb5 hw5 k12 f12 c31
  simp only [List.take_succ_cons, List.take_zero, List.drop_succ_cons, List.drop_zero]
  iterate 6 still_step
  refine wpStill_nil ?_
  go_wp2_with fail
  have hl5 : ((X1 ++ [kd]) ++ List.replicate (500 - 1) 0 ++ []).length = 512 := by rw [List.append_nil, List.length_append, List.length_append, List.length_replicate, List.length_singleton, hX1l]
  refine (lePut_at HB5.out (by omega) (by omega) (by omega) (by omega) (by omega)).mono ?_
  rintro e W6 ⟨rfl, hb6, hm6, hz6⟩
  have HW6 := Lib.hid (below_mod HW5.out (Nat.le_of_lt HB5.out.size) hm6)
  have hX2l : (X1 ++ [kd]).length = 13 := by simp [hX1l]
  rw [head_3 hX2l (by rw [digits_len]; omega), digits_len] at hb6
  have hX3l : (X1 ++ [kd] ++ digits ex 4).length = 17 := by rw [List.length_append, hX2l, digits_len]
  have hl6 : ((X1 ++ [kd] ++ digits ex 4) ++ List.replicate (500 - 1 - 4) 0 ++ []).length = 512 := by rw [List.append_nil, List.length_append, List.length_replicate, hX3l]
  obtain ⟨y17, k17⟩ : ∃ y, W6.cell? ⟨g, 17, none⟩ = some y := ⟨_, hb6.cell (i := 17) (by omega)⟩
  have f17 := hb6.blk.frozen 17
  have c63 : W6.cell? ⟨p, 3, none⟩ = some (.slice A n c) := (HW6.out.cell (p := ⟨p, 3, none⟩) hpg).trans (HB0.out.cell 3)
  have hb7 := hb6.set_ (i := 17) (y := n) (by omega) (by omega)
  rw [head_2 hX3l (by omega)] at hb7
  have hw7 := below_mod HW6.out (Nat.le_of_lt hb6.size) (mod_set (i := 17) (u := .int .u8 (n : Int)))
  have c73 : (W6.setCell ⟨g, 17, none⟩ (.int .u8 (n : Int))).cell? ⟨p, 3, none⟩ = some (.slice A n c) := (hw7.cell (p := ⟨p, 3, none⟩) hpg).trans (HB0.out.cell 3)
  have hbm : BB (W6.setCell ⟨g, 17, none⟩ (.int .u8 (n : Int))) g 74 (List.replicate 4 0 ++ m.mid 0) := by
    rw [mid_zero]
    unfold PG.head
    rw [HLS.out, Int.toNat_natCast, ← HKD.out, ← HEX.out, ← HN.out]
    rw [HX1.out] at hb7
    simp only [List.append_assoc] at hb7 ⊢
    exact hb7
  have HBM := Lib.hid hbm
  have HW7 := Lib.hid hw7
  clear hb6 hm6 hb7 hw7 c52 hbm hz6 hX1l hX2l hX3l HX1 hl5 hl6
  go_wp2_with fail
  clear k17 f17 c63 c73 hcv hcv2 hcv3
  have HP : Hid (∀ k, k ≤ n → 18 + 2 * k + sumTo m.items k ≤ 512) := fun k hk => HF.out.at_ (by rw [← HN.out]; exact hk)
  go_loopw [4, 38] (fun bg i wr => ∃ (k e : Nat), k ≤ n ∧ i = .int .i64 k ∧ bg = .int .i64 e ∧ Hid (e = 512 - sumTo m.items k) ∧ Hid (BB wr g 74 (List.replicate 4 0 ++ m.mid k)) ∧ Hid (Below g w wr)) (fun bg i wr => n - (intOf i).toNat)
  case atStart => exact ⟨0, 512, Nat.zero_le _, rfl, rfl, rfl, HBM, HW7⟩
  case round =>
    obtain ⟨k, e, hkn, rfl, rfl, HE, HB, HW⟩ := hrel
    by_cases hlt : k < n
    · have hki : k < m.items.length := by rw [← HN.out]; exact hlt
      obtain ⟨b, o, ⟨c', e1⟩, hb, x, hx, hcx, hrx⟩ := H.out.at_ hki
      rw [← HN.out] at e1
      injection e1 with e1 e2 e3
      subst e1 e3
      obtain ⟨x0, x1, x2⟩ := x
      obtain ⟨A4, c4, e4, -, -, -, -⟩ := hrx.open_
      have hq1 : x1 = m.items[k].length := by injection e4
      have hs := sumTo_succ hki
      have h1 := HP.out (k + 1) (by omega)
      have hk0 := HP.out k (by omega)
      obtain ⟨e', he'⟩ : ∃ e', e' = 512 - sumTo m.items (k + 1) := ⟨_, rfl⟩
      have hee := HE.out
      have hsub : (e : Int) - (x1 : Int) = (e' : Int) := by omega
      have hwe : IntKind.i64.wrap ((e : Int) - (x1 : Int)) = (e' : Int) := by rw [hsub, IntKind.wrap_i64]; omega
      have he512 : e' ≤ 512 := by omega
      have hew : 18 + 2 * (k + 1) ≤ e' := by omega
      have hq : x1 = e - e' := by omega
      have hx1 : x1 ≤ 512 - e' := by omega
      have c9 : wr.cell? ⟨b, o + k, none⟩ = some (.slice x0 x1 x2) := (HW.out.cell (p := ⟨b, o + k, none⟩) (by rw [HG.out]; exact hb)).trans hcx
      have hrb : RB wr g (.slice x0 x1 x2) m.items[k] := (by rw [HG.out]; exact hrx : RB w g (.slice x0 x1 x2) m.items[k]).below HW.out
      have HRB := Lib.hid hrb
      have HQ1 := Lib.hid hq1
      have hl : (List.replicate 4 0 ++ m.mid k).length = 512 := by rw [List.length_append, List.length_replicate, PG.mid_len HF.out (by omega)]
      have HL := Lib.hid hl
      have HE' := Lib.hid he'
      have HQ := Lib.hid hq
      clear hs h1 hk0 hee hsub hrx hcx hx e4 hq1 hrb hl he' hq e2
      obtain ⟨of, hof⟩ : ∃ of, of = if 512 = e' then 0 else e' := ⟨_, rfl⟩
      have hsl1 := sl512_l g e' he512
      rw [← hof] at hsl1
      have hsl2 := sl512_lh g (18 + 2 * k) (18 + 2 * (k + 1)) (18 + 2 * (k : Int)) (18 + 2 * ((k : Int) + 1)) (by omega) (by omega) (by omega) (by omega) (by omega)
      rw [show 18 + 2 * (k + 1) - (18 + 2 * k) = 2 by omega] at hsl2
      have hwk : IntKind.i64.wrap ((k : Int) + 1) = (k : Int) + 1 := by rw [IntKind.wrap_i64]; omega
      have hue : IntKind.u64.wrap (e' : Int) = (e' : Int) := by rw [IntKind.wrap_u64]; omega
      have hpat : putAt (List.replicate 4 0 ++ m.mid k) of m.items[k] = putAt (List.replicate 4 0 ++ m.mid k) e' m.items[k] := by
        rw [hof]
        split
        · rename_i h512
          have : m.items[k] = [] := List.eq_nil_of_length_eq_zero (by have := HQ1.out; have := HQ.out; have := HE.out; omega)
          rw [this, putAt_nil, putAt_nil]
        · rfl
      have HPAT := Lib.hid hpat
      have hoff : of + m.items[k].length ≤ 512 := by have := HQ1.out; have := HQ.out; have := HE.out; rw [hof]; split <;> omega
      have hdl : m.items[k].length ≤ 512 - e' := by have := HQ1.out; omega
      have HOFF := Lib.hid hoff
      have HDL := Lib.hid hdl
      clear hpat hof hoff hdl
      go_wp2_with (first
        | (refine wpList_copyB rfl (.tmp 48) (.tmp 49) rfl g g of _ _ _ _ m.items[k] _ rfl rfl HB.out HRB.out (by rw [HL.out]; exact HOFF.out) HDL.out ?_; intro wc uc hbc hmc hzc; have HBC := Lib.hid hbc; have HWC := Lib.hid (below_mod HW.out (Nat.le_of_lt HB.out.size) hmc); clear hbc hmc hzc)
        | (go_at_call 30; refine (slotAt_any _ _ (by omega)).mono ?_; rintro e5 w5 ⟨rfl, rfl⟩)
        | (go_at_call 37; refine (lePut_at HBC.out (by rw [putAt_len (by rw [HL.out]; exact HOFF.out), HL.out]; omega) (by omega) (by omega) (by omega) (by omega)).mono ?_; rintro e6 wd ⟨rfl, hbd, hmd, hzd⟩; have HBD := Lib.hid hbd; have HWD := Lib.hid (below_mod HWC.out (Nat.le_of_lt HBC.out.size) hmd); clear hbd hmd hzd))
      go_roundw
      case rel =>
        refine ⟨k + 1, e', by omega, by go_num, rfl, HE', ?_, HWD⟩
        have h1 := HBD.out
        rw [HPAT.out] at h1
        have h2 := pgMid_step HF.out (k := k) (by rw [← HN.out]; exact hlt)
        rw [← HE'.out] at h2
        rw [h2] at h1
        exact h1
      case measure => simp [intOf]; omega
    · obtain rfl : k = n := by omega
      have hl : (List.replicate 4 0 ++ m.mid k).length = 512 := by rw [List.length_append, List.length_replicate, PG.mid_len HF.out (by rw [HN.out]; exact Nat.le_refl _)]
      have HL := Lib.hid hl
      clear hl
      go_wp2_with fail
      have hbody : m.mid k = m.body := by unfold PG.body; rw [HN.out]
      rw [hbody] at HB HL
      obtain ⟨cs, hcs⟩ : ∃ cs, cs = crcSum m.body := ⟨_, rfl⟩
      have hblt : ∀ x ∈ m.body, x < 256 := fun x hx => HB.out.lt x (List.mem_append_right _ hx)
      have hcs32 : cs < 4294967296 := by rw [hcs]; exact crcSum_lt _ hblt
      have hucs : IntKind.u64.wrap (cs : Int) = (cs : Int) := by rw [IntKind.wrap_u64]; omega
      have hbl : m.body.length = 508 := by have := HL.out; rw [List.length_append, List.length_replicate] at this; omega
      have hrb : RB wr wr.heap.size (.slice (some ⟨g, 4, none⟩) 508 508) m.body := by
        have h1 := HB.out.rb (lo := 4) (m := 508) (c := 508) (by rw [HL.out]; omega) (by omega) (by omega) HB.out.size
        rw [List.drop_left' (by simp), List.take_of_length_le (by omega)] at h1
        exact h1
      have HRP : Hid (RP (wr.drew.alloc (.cells #[.slice (some ⟨g, 4, none⟩) 508 508] 22)) wr.heap.size wr.heap.size 0 [m.body]) := RP.one rfl (Below.refl _ _).drew hrb (Nat.le_refl _)
      have HCS := Lib.hid hcs
      have HB9 : Hid (BB (wr.drew.alloc (.cells #[.slice (some ⟨g, 4, none⟩) 508 508] 22)) g 74 (List.replicate 4 0 ++ m.body)) := HB.out.drew.alloc _
      have HW9 : Hid (Below g w (wr.drew.alloc (.cells #[.slice (some ⟨g, 4, none⟩) 508 508] 22))) := HW.out.drew.alloc (Nat.le_of_lt HB.out.size) _
      clear hbody hblt hrb hbl hcs
      go_region_law (first
        | (go_simp; go_at_call 28; refine (sum_one HRP.out HCS.out).mono ?_; rintro e7 w7 ⟨rfl, rfl⟩)
        | (go_simp; go_at_call 37; refine (lePut_at HB9.out (by rw [HL.out]; omega) (by omega) (by omega) (by omega) (by omega)).mono ?_; rintro e8 w8 ⟨rfl, hb8, hm8, hz8⟩))
      all_goals (
        have HB10 : Hid (BB w8 g 74 (pageL m)) := by
          show BB w8 g _ _
          unfold pageL
          rw [last_sum _ _ (digits_len _ _), HCS.out] at hb8
          exact hb8
        have HW10 := Lib.hid (below_mod HW9.out (Nat.le_of_lt HB9.out.size) hm8)
        clear hb8 hm8 hz8 hucs
        go_wp2_with fail
        go_ret
        exact ⟨g, rfl, by rw [HG.out]; exact Nat.le_refl _, HB10.out, by rw [← HG.out]; exact HW10.out⟩)
end Go.Proofs.Ytdghanhpeekbhaa
