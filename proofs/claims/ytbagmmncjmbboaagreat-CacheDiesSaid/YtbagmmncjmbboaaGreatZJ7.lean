/-
  A page's bytes in plain words; the walk of page's Bytes.
-/
import Derived.Test.YtbagmmncjmbboaaGreatZJ4
import Derived.Test.YtbagmmncjmbboaaGreatZC1
namespace Go.Proofs.YtbagmmncjmbboaaGreat
open Go.RowKit Go.Maps
set_option linter.unusedVariables false

def slotsL : List (List Nat) → Nat → List Nat
  | [], _ => []
  | x :: r, e => digits (e - x.length) 2 ++ slotsL r (e - x.length)

theorem slotsL_len : ∀ (l : List (List Nat)) (e : Nat), (slotsL l e).length = 2 * l.length
  | [], _ => rfl
  | x :: r, e => by simp only [slotsL]; rw [List.length_append, digits_len, slotsL_len r, List.length_cons]; omega

theorem slotsL_snoc (x : List Nat) : ∀ (l : List (List Nat)) (e : Nat), slotsL (l ++ [x]) e = slotsL l e ++ digits (e - (l.map List.length).sum - x.length) 2
  | [], e => by simp [slotsL]
  | y :: r, e => by
    rw [List.cons_append]
    simp only [slotsL]
    rw [slotsL_snoc x r, List.append_assoc, List.map_cons, List.sum_cons, Nat.sub_add_eq]

def tailL (l : List (List Nat)) : List Nat := l.reverse.flatten

theorem tailL_snoc (l : List (List Nat)) (x : List Nat) : tailL (l ++ [x]) = x ++ tailL l := by simp [tailL]

theorem tailL_len (l : List (List Nat)) : (tailL l).length = (l.map List.length).sum := by
  unfold tailL
  rw [List.length_flatten, List.map_reverse, List.sum_reverse]

def PG.head (m : PG) : List Nat := digits m.lsn.toNat 8 ++ [m.kind] ++ digits m.extra 4 ++ [m.items.length]

theorem PG.head_len (m : PG) : m.head.length = 14 := by simp [PG.head, digits_len]

def PG.mid (m : PG) (k : Nat) : List Nat := m.head ++ slotsL (m.items.take k) 512 ++ List.replicate (494 - 2 * k - sumTo m.items k) 0 ++ tailL (m.items.take k)

def PG.body (m : PG) : List Nat := m.mid m.items.length

def pageL (m : PG) : List Nat := digits (crcSum m.body) 4 ++ m.body

/-- Its items and slots have room in a sector. -/
def PG.Fit (m : PG) : Prop := 18 + 2 * m.items.length + (m.items.map List.length).sum ≤ 512

theorem sumTo_mono {L : List (List Nat)} {k : Nat} : sumTo L k ≤ (L.map List.length).sum := by
  have h := congrArg (fun l : List (List Nat) => (l.map List.length).sum) (List.take_append_drop k L)
  simp only [List.map_append, List.sum_append] at h
  unfold sumTo
  omega

theorem PG.Fit.at_ {m : PG} (h : m.Fit) {k : Nat} (hk : k ≤ m.items.length) : 18 + 2 * k + sumTo m.items k ≤ 512 := by
  have h1 := sumTo_mono (L := m.items) (k := k)
  unfold PG.Fit at h
  omega

theorem PG.mid_len {m : PG} (h : m.Fit) {k : Nat} (hk : k ≤ m.items.length) : (m.mid k).length = 508 := by
  have h1 := h.at_ hk
  unfold PG.mid
  have h2 : ((m.items.take k).map List.length).sum = sumTo m.items k := rfl
  have h3 : (m.items.take k).length = k := by rw [List.length_take]; omega
  rw [List.length_append, List.length_append, List.length_append, PG.head_len, slotsL_len, List.length_replicate, tailL_len, h2, h3]
  omega

/-- One item more is written. -/
theorem pgMid_step {m : PG} (h : m.Fit) {k : Nat} (hk : k < m.items.length) :
    putAt (putAt (List.replicate 4 0 ++ m.mid k) (512 - sumTo m.items (k + 1)) m.items[k]) (18 + 2 * k) (digits (512 - sumTo m.items (k + 1)) 2) = List.replicate 4 0 ++ m.mid (k + 1) := by
  have h1 := h.at_ (k := k + 1) (by omega)
  have hs := sumTo_succ hk
  obtain ⟨q, hq⟩ : ∃ q, q = m.items[k].length := ⟨_, rfl⟩
  have ht : m.items.take (k + 1) = m.items.take k ++ [m.items[k]] := List.take_succ_eq_append_getElem hk
  have h3 : (m.items.take k).length = k := by rw [List.length_take]; omega
  obtain ⟨X, hX⟩ : ∃ X, X = List.replicate 4 0 ++ m.head ++ slotsL (m.items.take k) 512 := ⟨_, rfl⟩
  have hXl : X.length = 18 + 2 * k := by rw [hX, List.length_append, List.length_append, List.length_replicate, PG.head_len, slotsL_len, h3]
  obtain ⟨z, hz⟩ : ∃ z, z = 494 - 2 * k - sumTo m.items k := ⟨_, rfl⟩
  have e1 : List.replicate 4 0 ++ m.mid k = X ++ List.replicate z 0 ++ tailL (m.items.take k) := by unfold PG.mid; rw [hX, hz]; simp only [List.append_assoc]
  have hd : 512 - sumTo m.items (k + 1) = X.length + (z - m.items[k].length) := by rw [hXl, hz]; omega
  rw [e1, hd, putAt_zeros_end (by omega), ← hd, ← hXl]
  rw [putAt_zeros (T := m.items[k] ++ tailL (m.items.take k)) (by rw [digits_len]; omega), digits_len]
  unfold PG.mid
  rw [ht, slotsL_snoc, tailL_snoc, hX]
  have e2 : ((m.items.take k).map List.length).sum = sumTo m.items k := rfl
  rw [e2, show 512 - sumTo m.items k - m.items[k].length = 512 - sumTo m.items (k + 1) by omega, show z - m.items[k].length - 2 = 494 - 2 * (k + 1) - sumTo m.items (k + 1) by omega]
  simp only [List.append_assoc]

theorem mid_zero (m : PG) : List.replicate 4 0 ++ m.mid 0 = List.replicate 4 0 ++ m.head ++ List.replicate 494 0 ++ [] := by
  have h0 : m.mid 0 = m.head ++ [] ++ List.replicate 494 0 ++ [] := rfl
  rw [h0]
  simp only [List.append_assoc, List.append_nil]

theorem head_1 (d : List Nat) (hd : d.length = 8) : putAt sec0 4 d = List.replicate 4 0 ++ d ++ List.replicate 500 0 ++ [] := by
  have e : sec0 = List.replicate 4 0 ++ List.replicate 508 0 ++ [] := by unfold sec0; rw [List.append_nil, ← zeros_split]
  rw [e]
  have := putAt_zeros (X := List.replicate 4 0) (d := d) (T := []) (z := 508) (by omega)
  rw [hd, List.length_replicate] at this
  exact this

theorem head_2 {X : List Nat} {n y : Nat} (hX : X.length = n) {z : Nat} (hz : 1 ≤ z) : (X ++ List.replicate z 0 ++ []).set n y = (X ++ [y]) ++ List.replicate (z - 1) 0 ++ [] := by
  subst hX; exact set_zeros hz

theorem head_3 {X d : List Nat} {n z : Nat} (hX : X.length = n) (hd : d.length ≤ z) : putAt (X ++ List.replicate z 0 ++ []) n d = (X ++ d) ++ List.replicate (z - d.length) 0 ++ [] := by
  subst hX; exact putAt_zeros hd

theorem last_sum (b d : List Nat) (hd : d.length = 4) : putAt (List.replicate 4 0 ++ b) 0 d = d ++ b := by
  have := putAt_mid (P := []) (M := List.replicate 4 0) (T := b) (d := d) (by simpa using hd)
  simpa using this

end Go.Proofs.YtbagmmncjmbboaaGreat

/-
  The walk of page's Bytes.
-/
namespace Go.Proofs.YtbagmmncjmbboaaGreat
open Go.RowKit Go.Maps
set_option linter.unusedVariables false

set_option maxRecDepth 100000 in
set_option maxHeartbeats 400000 in
theorem pageBytes_any (w : World) (p B : Nat) (v : Value) (xs : List Sl) (m : PG) (h : PageAt w p B v xs m) (hf : m.Fit) :
    Calls Tryz.prog 24 #[.pointer (some ⟨p, 0, none⟩)] w fun e w' => ∃ g, e = .returned (.slice (some ⟨g, 0, none⟩) 512 512) ∧ w.heap.size ≤ g ∧ BB w' g 123 (pageL m) ∧ Below w.heap.size w w' := by
  have H := Lib.hid h
  have HF := Lib.hid hf
  have hplt := h.lt
  have hnum := h.ok.num
  obtain ⟨ls, hls⟩ : ∃ ls : Nat, m.lsn = (ls : Int) := ⟨m.lsn.toNat, by have := h.ok.lsn; omega⟩
  have hls2 : ls ≤ 9223372036854775807 := by have := h.ok.lsn; omega
  obtain ⟨n, hn⟩ : ∃ n, n = m.items.length := ⟨_, rfl⟩
  rw [← hn] at hnum
  have HN := Lib.hid hn
  have HLS := Lib.hid hls
  have hk := h.ok.kind
  have hex := h.ok.extra
  obtain ⟨kd, hkd⟩ : ∃ kd, kd = m.kind := ⟨_, rfl⟩
  obtain ⟨ex, hexx⟩ : ∃ ex, ex = m.extra := ⟨_, rfl⟩
  rw [← hkd] at hk
  rw [← hexx] at hex
  have hv : ∃ A c, v = .slice A n c := by rw [hn]; exact h.open_
  obtain ⟨A, c, rfl⟩ := hv
  have hb0 : Blk w p 122 #[.int .i64 (ls : Int), .int .u8 (kd : Int), .int .u32 (ex : Int), .slice A n c] := by rw [hkd, hexx, ← hls]; exact h.blk
  have HB0 := Lib.hid hb0
  have HKD := Lib.hid hkd
  have HEX := Lib.hid hexx
  have hcv : IntKind.u64.wrap (ls : Int) = (ls : Int) := by rw [IntKind.wrap_u64]; omega
  have hcv2 : IntKind.u64.wrap (ex : Int) = (ex : Int) := by rw [IntKind.wrap_u64]; omega
  have hcv3 : IntKind.u8.wrap (n : Int) = (n : Int) := by rw [IntKind.wrap_u8]; omega
  obtain ⟨g, hg⟩ : ∃ g, g = w.heap.size := ⟨_, rfl⟩
  have HG := Lib.hid hg
  have hpg : p < g := by omega
  clear h hf hn hls hkd hexx hb0 hg
  go_enter Tryz.func24, Tryz.ntmps24
  go_wp2_with (first | (refine wpList_allocA g HG.out.symm ?_; intro w1 hb1 hw1 hz1; rw [← HG.out] at hw1 hz1; have HB1 := Lib.hid hb1; have HW1 := Lib.hid hw1; clear hb1 hw1))
  obtain ⟨W2, hW, HB2, HW2, hz2⟩ : ∃ W2, W2 = w1.drew ∧ Hid (BB W2 g 123 sec0) ∧ Hid (Below g w W2) ∧ W2.heap.size = g + 1 := ⟨_, rfl, ⟨HB1.out.blk.drew, HB1.out.lt, HB1.out.len⟩, HW1.out.drew, hz1⟩
  have c20 : W2.cell? ⟨p, 0, none⟩ = some (.int .i64 (ls : Int)) := (HW2.out.cell (p := ⟨p, 0, none⟩) hpg).trans (HB0.out.cell 0)
  refine still_tail_at 6 W2 hW (by kernel_rfl) (by kernel_rfl) ?_
  clear hW HB1 HW1 hz1
  simp only [List.take_succ_cons, List.take_zero, List.drop_succ_cons, List.drop_zero]
  iterate 6 still_step
  refine wpStill_nil ?_
  go_wp2_with fail
  refine (lePut_at HB2.out (by rw [sec0_ok.1]; omega) (by omega) (by omega) (by omega) (by omega)).mono ?_
  rintro e W3 ⟨rfl, hb3, hm3, hz3⟩
  have HW3 := Lib.hid (below_mod HW2.out (Nat.le_of_lt HB2.out.size) hm3)
  rw [head_1 _ (digits_len _ _)] at hb3
  obtain ⟨X1, hX1⟩ : ∃ X1, X1 = List.replicate 4 0 ++ digits ls 8 := ⟨_, rfl⟩
  have hX1l : X1.length = 12 := by rw [hX1, List.length_append, digits_len, List.length_replicate]
  rw [← hX1] at hb3
  have hl3 : (X1 ++ List.replicate 500 0 ++ []).length = 512 := by rw [List.append_nil, List.length_append, List.length_replicate, hX1l]
  obtain ⟨y12, k12⟩ : ∃ y, W3.cell? ⟨g, 12, none⟩ = some y := ⟨_, hb3.cell (i := 12) (by omega)⟩
  have f12 := hb3.blk.frozen 12
  have c31 : W3.cell? ⟨p, 1, none⟩ = some (.int .u8 (kd : Int)) := (HW3.out.cell (p := ⟨p, 1, none⟩) hpg).trans (HB0.out.cell 1)
  have hb4 := hb3.set_ (i := 12) (y := kd) (by omega) hk
  rw [head_2 hX1l (by omega)] at hb4
  have HW4 := Lib.hid (below_mod HW3.out (Nat.le_of_lt hb3.size) (mod_set (i := 12) (u := .int .u8 (kd : Int))))
  have HB4 := Lib.hid hb4
  have HX1 := Lib.hid hX1
  clear hb3 hm3 hX1 hb4 c20 hz2 hz3 hl3
  go_wp2_with fail
  obtain ⟨W5, hW, hb5, hw5⟩ : ∃ W5, W5 = (W3.setCell ⟨g, 12, none⟩ (.int .u8 (kd : Int))).drew ∧ BB W5 g 123 ((X1 ++ [kd]) ++ List.replicate (500 - 1) 0 ++ []) ∧ Below g w W5 := ⟨_, rfl, HB4.out.drew, HW4.out.drew⟩
  have c52 : W5.cell? ⟨p, 2, none⟩ = some (.int .u32 (ex : Int)) := (hw5.cell (p := ⟨p, 2, none⟩) hpg).trans (HB0.out.cell 2)
  have HB5 := Lib.hid hb5
  have HW5 := Lib.hid hw5
  refine still_tail_at 6 W5 hW (by kernel_rfl) (by kernel_rfl) ?_
  clear hW HB4 HW4 hb5 hw5 k12 f12 c31
  simp only [List.take_succ_cons, List.take_zero, List.drop_succ_cons, List.drop_zero]
  iterate 6 still_step
  refine wpStill_nil ?_
  go_wp2_with fail
  have hl5 : ((X1 ++ [kd]) ++ List.replicate (500 - 1) 0 ++ []).length = 512 := by rw [List.append_nil, List.length_append, List.length_append, List.length_replicate, List.length_singleton, hX1l]
  refine (lePut_at HB5.out (by omega) (by omega) (by omega) (by omega) (by omega)).mono ?_
  rintro e W6 ⟨rfl, hb6, hm6, hz6⟩
  have HW6 := Lib.hid (below_mod HW5.out (Nat.le_of_lt HB5.out.size) hm6)
  have hX2l : (X1 ++ [kd]).length = 13 := by simp [hX1l]
  rw [head_3 hX2l (by rw [digits_len]; omega), digits_len] at hb6
  have hX3l : (X1 ++ [kd] ++ digits ex 4).length = 17 := by rw [List.length_append, hX2l, digits_len]
  have hl6 : ((X1 ++ [kd] ++ digits ex 4) ++ List.replicate (500 - 1 - 4) 0 ++ []).length = 512 := by rw [List.append_nil, List.length_append, List.length_replicate, hX3l]
  obtain ⟨y17, k17⟩ : ∃ y, W6.cell? ⟨g, 17, none⟩ = some y := ⟨_, hb6.cell (i := 17) (by omega)⟩
  have f17 := hb6.blk.frozen 17
  have c63 : W6.cell? ⟨p, 3, none⟩ = some (.slice A n c) := (HW6.out.cell (p := ⟨p, 3, none⟩) hpg).trans (HB0.out.cell 3)
  have hb7 := hb6.set_ (i := 17) (y := n) (by omega) (by omega)
  rw [head_2 hX3l (by omega)] at hb7
  have hw7 := below_mod HW6.out (Nat.le_of_lt hb6.size) (mod_set (i := 17) (u := .int .u8 (n : Int)))
  have c73 : (W6.setCell ⟨g, 17, none⟩ (.int .u8 (n : Int))).cell? ⟨p, 3, none⟩ = some (.slice A n c) := (hw7.cell (p := ⟨p, 3, none⟩) hpg).trans (HB0.out.cell 3)
  have hbm : BB (W6.setCell ⟨g, 17, none⟩ (.int .u8 (n : Int))) g 123 (List.replicate 4 0 ++ m.mid 0) := by
    rw [mid_zero]
    unfold PG.head
    rw [HLS.out, Int.toNat_natCast, ← HKD.out, ← HEX.out, ← HN.out]
    rw [HX1.out] at hb7
    simp only [List.append_assoc] at hb7 ⊢
    exact hb7
  have HBM := Lib.hid hbm
  have HW7 := Lib.hid hw7
  clear hb6 hm6 hb7 hw7 c52 hbm hz6 hX1l hX2l hX3l HX1 hl5 hl6
  go_wp2_with fail
  clear k17 f17 c63 c73 hcv hcv2 hcv3
  have HP : Hid (∀ k, k ≤ n → 18 + 2 * k + sumTo m.items k ≤ 512) := fun k hk => HF.out.at_ (by rw [← HN.out]; exact hk)
  go_loopw [4, 38] (fun bg i wr => ∃ (k e : Nat), k ≤ n ∧ i = .int .i64 k ∧ bg = .int .i64 e ∧ Hid (e = 512 - sumTo m.items k) ∧ Hid (BB wr g 123 (List.replicate 4 0 ++ m.mid k)) ∧ Hid (Below g w wr)) (fun bg i wr => n - (intOf i).toNat)
  case atStart => exact ⟨0, 512, Nat.zero_le _, rfl, rfl, rfl, HBM, HW7⟩
  case round =>
    obtain ⟨k, e, hkn, rfl, rfl, HE, HB, HW⟩ := hrel
    by_cases hlt : k < n
    · have hki : k < m.items.length := by rw [← HN.out]; exact hlt
      obtain ⟨b, o, ⟨c', e1⟩, hb, x, hx, hcx, hrx⟩ := H.out.at_ hki
      rw [← HN.out] at e1
      injection e1 with e1 e2 e3
      subst e1 e3
      obtain ⟨x0, x1, x2⟩ := x
      obtain ⟨A4, c4, e4, -, -, -, -⟩ := hrx.open_
      have hq1 : x1 = m.items[k].length := by injection e4
      have hs := sumTo_succ hki
      have h1 := HP.out (k + 1) (by omega)
      have hk0 := HP.out k (by omega)
      obtain ⟨e', he'⟩ : ∃ e', e' = 512 - sumTo m.items (k + 1) := ⟨_, rfl⟩
      have hee := HE.out
      have hsub : (e : Int) - (x1 : Int) = (e' : Int) := by omega
      have hwe : IntKind.i64.wrap ((e : Int) - (x1 : Int)) = (e' : Int) := by rw [hsub, IntKind.wrap_i64]; omega
      have he512 : e' ≤ 512 := by omega
      have hew : 18 + 2 * (k + 1) ≤ e' := by omega
      have hq : x1 = e - e' := by omega
      have hx1 : x1 ≤ 512 - e' := by omega
      have c9 : wr.cell? ⟨b, o + k, none⟩ = some (.slice x0 x1 x2) := (HW.out.cell (p := ⟨b, o + k, none⟩) (by rw [HG.out]; exact hb)).trans hcx
      have hrb : RB wr g (.slice x0 x1 x2) m.items[k] := (by rw [HG.out]; exact hrx : RB w g (.slice x0 x1 x2) m.items[k]).below HW.out
      have HRB := Lib.hid hrb
      have HQ1 := Lib.hid hq1
      have hl : (List.replicate 4 0 ++ m.mid k).length = 512 := by rw [List.length_append, List.length_replicate, PG.mid_len HF.out (by omega)]
      have HL := Lib.hid hl
      have HE' := Lib.hid he'
      have HQ := Lib.hid hq
      clear hs h1 hk0 hee hsub hrx hcx hx e4 hq1 hrb hl he' hq e2
      obtain ⟨of, hof⟩ : ∃ of, of = if 512 = e' then 0 else e' := ⟨_, rfl⟩
      have hsl1 := sl512_l g e' he512
      rw [← hof] at hsl1
      have hsl2 := sl512_lh g (18 + 2 * k) (18 + 2 * (k + 1)) (18 + 2 * (k : Int)) (18 + 2 * ((k : Int) + 1)) (by omega) (by omega) (by omega) (by omega) (by omega)
      rw [show 18 + 2 * (k + 1) - (18 + 2 * k) = 2 by omega] at hsl2
      have hwk : IntKind.i64.wrap ((k : Int) + 1) = (k : Int) + 1 := by rw [IntKind.wrap_i64]; omega
      have hue : IntKind.u64.wrap (e' : Int) = (e' : Int) := by rw [IntKind.wrap_u64]; omega
      have hpat : putAt (List.replicate 4 0 ++ m.mid k) of m.items[k] = putAt (List.replicate 4 0 ++ m.mid k) e' m.items[k] := by
        rw [hof]
        split
        · rename_i h512
          have : m.items[k] = [] := List.eq_nil_of_length_eq_zero (by have := HQ1.out; have := HQ.out; have := HE.out; omega)
          rw [this, putAt_nil, putAt_nil]
        · rfl
      have HPAT := Lib.hid hpat
      have hoff : of + m.items[k].length ≤ 512 := by have := HQ1.out; have := HQ.out; have := HE.out; rw [hof]; split <;> omega
      have hdl : m.items[k].length ≤ 512 - e' := by have := HQ1.out; omega
      have HOFF := Lib.hid hoff
      have HDL := Lib.hid hdl
      clear hpat hof hoff hdl
      go_wp2_with (first
        | (refine wpList_copyB rfl (.tmp 48) (.tmp 49) rfl g g of _ _ _ _ m.items[k] _ rfl rfl HB.out HRB.out (by rw [HL.out]; exact HOFF.out) HDL.out ?_; intro wc uc hbc hmc hzc; have HBC := Lib.hid hbc; have HWC := Lib.hid (below_mod HW.out (Nat.le_of_lt HB.out.size) hmc); clear hbc hmc hzc)
        | (go_at_call 67; refine (slotAt_any _ _ (by omega)).mono ?_; rintro e5 w5 ⟨rfl, rfl⟩)
        | (go_at_call 66; refine (lePut_at HBC.out (by rw [putAt_len (by rw [HL.out]; exact HOFF.out), HL.out]; omega) (by omega) (by omega) (by omega) (by omega)).mono ?_; rintro e6 wd ⟨rfl, hbd, hmd, hzd⟩; have HBD := Lib.hid hbd; have HWD := Lib.hid (below_mod HWC.out (Nat.le_of_lt HBC.out.size) hmd); clear hbd hmd hzd))
      go_roundw
      case rel =>
        refine ⟨k + 1, e', by omega, by go_num, rfl, HE', ?_, HWD⟩
        have h1 := HBD.out
        rw [HPAT.out] at h1
        have h2 := pgMid_step HF.out (k := k) (by rw [← HN.out]; exact hlt)
        rw [← HE'.out] at h2
        rw [h2] at h1
        exact h1
      case measure => simp [intOf]; omega
    · obtain rfl : k = n := by omega
      have hl : (List.replicate 4 0 ++ m.mid k).length = 512 := by rw [List.length_append, List.length_replicate, PG.mid_len HF.out (by rw [HN.out]; exact Nat.le_refl _)]
      have HL := Lib.hid hl
      clear hl
      go_wp2_with fail
      have hbody : m.mid k = m.body := by unfold PG.body; rw [HN.out]
      rw [hbody] at HB HL
      obtain ⟨cs, hcs⟩ : ∃ cs, cs = crcSum m.body := ⟨_, rfl⟩
      have hblt : ∀ x ∈ m.body, x < 256 := fun x hx => HB.out.lt x (List.mem_append_right _ hx)
      have hcs32 : cs < 4294967296 := by rw [hcs]; exact crcSum_lt _ hblt
      have hucs : IntKind.u64.wrap (cs : Int) = (cs : Int) := by rw [IntKind.wrap_u64]; omega
      have hbl : m.body.length = 508 := by have := HL.out; rw [List.length_append, List.length_replicate] at this; omega
      have hrb : RB wr wr.heap.size (.slice (some ⟨g, 4, none⟩) 508 508) m.body := by
        have h1 := HB.out.rb (lo := 4) (m := 508) (c := 508) (by rw [HL.out]; omega) (by omega) (by omega) HB.out.size
        rw [List.drop_left' (by simp), List.take_of_length_le (by omega)] at h1
        exact h1
      have HRP : Hid (RP (wr.drew.alloc (.cells #[.slice (some ⟨g, 4, none⟩) 508 508] 22)) wr.heap.size wr.heap.size 0 [m.body]) := RP.one rfl (Below.refl _ _).drew hrb (Nat.le_refl _)
      have HCS := Lib.hid hcs
      have HB9 : Hid (BB (wr.drew.alloc (.cells #[.slice (some ⟨g, 4, none⟩) 508 508] 22)) g 123 (List.replicate 4 0 ++ m.body)) := HB.out.drew.alloc _
      have HW9 : Hid (Below g w (wr.drew.alloc (.cells #[.slice (some ⟨g, 4, none⟩) 508 508] 22))) := HW.out.drew.alloc (Nat.le_of_lt HB.out.size) _
      clear hbody hblt hrb hbl hcs
      go_region_law (first
        | (go_simp; go_at_call 68; refine (sum_one HRP.out HCS.out).mono ?_; rintro e7 w7 ⟨rfl, rfl⟩)
        | (go_simp; go_at_call 66; refine (lePut_at HB9.out (by rw [HL.out]; omega) (by omega) (by omega) (by omega) (by omega)).mono ?_; rintro e8 w8 ⟨rfl, hb8, hm8, hz8⟩))
      all_goals (
        have HB10 : Hid (BB w8 g 123 (pageL m)) := by
          show BB w8 g _ _
          unfold pageL
          rw [last_sum _ _ (digits_len _ _), HCS.out] at hb8
          exact hb8
        have HW10 := Lib.hid (below_mod HW9.out (Nat.le_of_lt HB9.out.size) hm8)
        clear hb8 hm8 hz8 hucs
        go_wp2_with fail
        go_ret
        exact ⟨g, rfl, by rw [HG.out]; exact Nat.le_refl _, HB10.out, by rw [← HG.out]; exact HW10.out⟩)

end Go.Proofs.YtbagmmncjmbboaaGreat

/-
  What stands where in a page's bytes.
-/
namespace Go.Proofs.YtbagmmncjmbboaaGreat
open Go.RowKit Go.Maps
set_option linter.unusedVariables false

section

variable {m : PG}

theorem pageL_len (hf : m.Fit) : (pageL m).length = 512 := by
  unfold pageL PG.body
  rw [List.length_append, digits_len, PG.mid_len hf (Nat.le_refl _)]

/-- The page's bytes: what stands ahead of the slots, the slots, what is free, the items. -/
theorem pageL_parts (m : PG) : pageL m = (digits (crcSum m.body) 4 ++ m.head ++ slotsL m.items 512) ++ List.replicate (494 - 2 * m.items.length - sumTo m.items m.items.length) 0 ++ tailL m.items := by
  unfold pageL
  conv => lhs; arg 2; unfold PG.body PG.mid
  rw [List.take_length]
  simp only [List.append_assoc]

theorem front_len (m : PG) : (digits (crcSum m.body) 4 ++ m.head ++ slotsL m.items 512).length = 18 + 2 * m.items.length := by
  rw [List.length_append, List.length_append, digits_len, PG.head_len, slotsL_len]

theorem pg_sum (m : PG) : (pageL m).take 4 = digits (crcSum m.body) 4 ∧ (pageL m).drop 4 = m.body := by
  unfold pageL
  exact ⟨List.take_left' (digits_len _ _), List.drop_left' (digits_len _ _)⟩

theorem pg_lsn (m : PG) : ((pageL m).drop 4).take 8 = digits m.lsn.toNat 8 := by
  rw [(pg_sum m).2]
  unfold PG.body PG.mid PG.head
  simp only [List.append_assoc]
  exact List.take_left' (digits_len _ _)

theorem pg_kind (m : PG) : (pageL m)[12]? = some m.kind := by
  unfold pageL PG.body PG.mid PG.head
  simp only [List.append_assoc]
  rw [List.getElem?_append_right (by rw [digits_len]; omega), digits_len, List.getElem?_append_right (by rw [digits_len]; omega), digits_len]
  rfl

theorem pg_extra (m : PG) : ((pageL m).drop 13).take 4 = digits m.extra 4 := by
  have e : pageL m = (digits (crcSum m.body) 4 ++ digits m.lsn.toNat 8 ++ [m.kind]) ++ digits m.extra 4 ++ ([m.items.length] ++ slotsL m.items 512 ++ List.replicate (494 - 2 * m.items.length - sumTo m.items m.items.length) 0 ++ tailL m.items) := by
    rw [pageL_parts]; unfold PG.head; simp only [List.append_assoc]
  rw [e]
  exact seg_mid (by rw [List.length_append, List.length_append, digits_len, digits_len]; rfl) (digits_len _ _)

theorem pg_count (m : PG) : (pageL m)[17]? = some m.items.length := by
  have e : pageL m = (digits (crcSum m.body) 4 ++ digits m.lsn.toNat 8 ++ [m.kind] ++ digits m.extra 4) ++ (m.items.length :: (slotsL m.items 512 ++ List.replicate (494 - 2 * m.items.length - sumTo m.items m.items.length) 0 ++ tailL m.items)) := by
    rw [pageL_parts]; unfold PG.head; simp only [List.append_assoc, List.cons_append, List.nil_append]
  have hl : (digits (crcSum m.body) 4 ++ digits m.lsn.toNat 8 ++ [m.kind] ++ digits m.extra 4).length = 17 := by
    rw [List.length_append, List.length_append, List.length_append, digits_len, digits_len, digits_len]; rfl
  rw [e, List.getElem?_append_right (by omega), hl]
  rfl

theorem items_split {k : Nat} (hk : k < m.items.length) : m.items = m.items.take k ++ [m.items[k]] ++ m.items.drop (k + 1) := by
  rw [List.append_assoc, List.singleton_append, ← List.drop_eq_getElem_cons hk, List.take_append_drop]

theorem slotsL_app : ∀ (a b : List (List Nat)) (e : Nat), slotsL (a ++ b) e = slotsL a e ++ slotsL b (e - (a.map List.length).sum)
  | [], b, e => by simp [slotsL]
  | x :: a, b, e => by
    rw [List.cons_append]
    simp only [slotsL]
    rw [slotsL_app a b, List.append_assoc, List.map_cons, List.sum_cons, Nat.sub_add_eq]

theorem pg_slot {k : Nat} (hk : k < m.items.length) : ((pageL m).drop (18 + 2 * k)).take 2 = digits (512 - sumTo m.items (k + 1)) 2 := by
  have hs : slotsL m.items 512 = slotsL (m.items.take k) 512 ++ digits (512 - sumTo m.items (k + 1)) 2 ++ slotsL (m.items.drop (k + 1)) (512 - sumTo m.items (k + 1)) := by
    have h := items_split hk
    have e1 : slotsL m.items 512 = slotsL (m.items.take (k + 1) ++ m.items.drop (k + 1)) 512 := by rw [List.take_append_drop]
    rw [e1, slotsL_app, List.take_succ_eq_append_getElem hk, slotsL_snoc, ← List.take_succ_eq_append_getElem hk]
    have e2 : ((m.items.take k).map List.length).sum = sumTo m.items k := rfl
    have e3 : ((m.items.take (k + 1)).map List.length).sum = sumTo m.items (k + 1) := rfl
    rw [e2, e3, Nat.sub_sub, ← sumTo_succ hk]
  have h3 : (m.items.take k).length = k := by rw [List.length_take]; omega
  have e : pageL m = (digits (crcSum m.body) 4 ++ m.head ++ slotsL (m.items.take k) 512) ++ digits (512 - sumTo m.items (k + 1)) 2 ++ (slotsL (m.items.drop (k + 1)) (512 - sumTo m.items (k + 1)) ++ List.replicate (494 - 2 * m.items.length - sumTo m.items m.items.length) 0 ++ tailL m.items) := by
    rw [pageL_parts, hs]; simp only [List.append_assoc]
  rw [e]
  exact seg_mid (by rw [List.length_append, List.length_append, digits_len, PG.head_len, slotsL_len, h3]) (digits_len _ _)

theorem tailL_app (a b : List (List Nat)) : tailL (a ++ b) = tailL b ++ tailL a := by unfold tailL; rw [List.reverse_append, List.flatten_append]

theorem pg_item (hf : m.Fit) {k : Nat} (hk : k < m.items.length) : ((pageL m).drop (512 - sumTo m.items (k + 1))).take m.items[k].length = m.items[k] := by
  have ht : tailL m.items = tailL (m.items.drop (k + 1)) ++ m.items[k] ++ tailL (m.items.take k) := by
    conv => lhs; rw [items_split hk]
    rw [tailL_app, tailL_snoc, List.append_assoc]
  have e : pageL m = ((digits (crcSum m.body) 4 ++ m.head ++ slotsL m.items 512) ++ List.replicate (494 - 2 * m.items.length - sumTo m.items m.items.length) 0 ++ tailL (m.items.drop (k + 1))) ++ m.items[k] ++ tailL (m.items.take k) := by
    rw [pageL_parts, ht]; simp only [List.append_assoc]
  have hl := pageL_len hf
  have hs := sumTo_succ hk
  have h1 := hf.at_ (k := k + 1) (by omega)
  have h2 : (tailL (m.items.take k)).length = sumTo m.items k := tailL_len _
  rw [e, List.length_append, List.length_append, h2] at hl
  rw [e]
  exact seg_mid (by omega) rfl

theorem pg_gap (hf : m.Fit) {j : Nat} (h1 : 18 + 2 * m.items.length ≤ j) (h2 : j < 512 - sumTo m.items m.items.length) : (pageL m)[j]? = some 0 := by
  have h3 := hf.at_ (Nat.le_refl m.items.length)
  rw [pageL_parts, List.getElem?_append_left (by rw [List.length_append, front_len, List.length_replicate]; omega), List.getElem?_append_right (by rw [front_len]; omega), front_len, List.getElem?_replicate, if_pos (by omega)]

end

end Go.Proofs.YtbagmmncjmbboaaGreat

/-
  The walk of page's Parse at the bytes of a page.
-/
namespace Go.Proofs.YtbagmmncjmbboaaGreat
open Go.RowKit Go.Maps
set_option linter.unusedVariables false

def PG.first (m : PG) (k : Nat) : PG := { m with items := m.items.take k }

theorem PG.Ok.first {m : PG} (h : m.Ok) (k : Nat) : (m.first k).Ok :=
  ⟨by unfold PG.first; rw [List.length_take]; have := h.num; omega, fun l hl => h.item l (List.mem_of_mem_take hl), h.lsn, h.kind, h.extra⟩

/-- One item more, a piece of a block of the call's own. -/
theorem app_arm {w : World} {p B k n : Nat} {A : Option Addr} {c : Nat} {xs : List Sl} {m : PG} (h : PageAt w p B (.slice A k c) xs (m.first k)) (hm : m.Ok) (hn : n = m.items.length) (hk : k < n) {x : Sl} {it : List Nat} (hit : m.items[k]? = some it) (hr : RB w w.heap.size (slV x) it) (hoff : Off (fun q => q = p ∨ (Value.slice A k c).ownBlock = some q) (slV x) it)
    {ops : Array Oper} {o : Oper} {a : Act} {K : Act → World → Prop} {Q : Exit → Act → World → Prop} {F : Prop} (hgd : o.guard = none) (s y : Operand)
    (ho : o.op = .call { callee := .builtin .append, args := #[s, y], argTypes := #[32, 32] })
    (hs : a.eval s = .slice A k c) (hy : a.eval y = .slice (some ⟨w.heap.size, 0, none⟩) 1 1)
    (hK : ∀ A' c' w', w'.cell? ⟨p, 3, none⟩ = some (.slice A k c) → w'.frozen? ⟨p, 3, none⟩ = false →
      Hid (PageAt (w'.setCell ⟨p, 3, none⟩ (.slice A' (k + 1) c')) p B (.slice A' (k + 1) c') (xs ++ [x]) (m.first (k + 1)) ∧ Mod (fun q => q = p ∨ (Value.slice A k c).ownBlock = some q) w (w'.setCell ⟨p, 3, none⟩ (.slice A' (k + 1) c')) ∧ ((Value.slice A' (k + 1) c').ownBlock = (Value.slice A k c).ownBlock ∨ ∀ b, (Value.slice A' (k + 1) c').ownBlock = some b → w.heap.size ≤ b)) → K (a.put o.dst (.slice A' (k + 1) c')) w') :
    if Region.wanted o (yielded ops a.tmps) = true then Oper.wp Tryz.prog o a (w.alloc (.cells #[slV x] 22)) K Q else F := by
  have hplt := h.lt
  have hk100 := hm.num
  have hxk : xs.length = k := by rw [h.len]; unfold PG.first; rw [List.length_take]; omega
  refine step_app1 (y := x) etSls encSl_len encSl_one hgd s y ho hs (h.row.alloc _) w.heap.size hy (by intro j u hu; rw [(Blk.new w _ _).cell j]; simpa [encSl] using hu) (by omega) (by have := h.base; simp; omega) ?_
  intro v' w' h1 h2 h3
  have hxl : (xs ++ [x]).length = k + 1 := by simp [hxk]
  obtain ⟨A', c', rfl, _, _, _, _⟩ := (h1.rk encSl_len (Nat.le_refl _)).open_
  rw [hxl] at h1 h3 ⊢
  have hm2 : Mod (fun q => (Value.slice A k c).ownBlock = some q) (w.alloc (.cells #[slV x] 22)) w' := (Mod.of_grown h2).mono (fun q _ e => e.symm)
  have hb3 := (h.blk.alloc (.cells #[slV x] 22)).mod hm2 (by intro e; exact h.far e)
  have hw1 : Mod (fun q => q = p ∨ (Value.slice A k c).ownBlock = some q) w (w.alloc (.cells #[slV x] 22)) := (Mod.refl _ _).alloc _
  have hw2 : Mod (fun q => q = p ∨ (Value.slice A k c).ownBlock = some q) w w' := hw1.trans hm2 (fun q _ e => .inr e)
  have hst : Mod (fun q => q = p) w' (w'.setCell ⟨p, 3, none⟩ (.slice A' (k + 1) c')) := (Mod.refl (fun q => q = p) w').setCell (p := ⟨p, 3, none⟩) (fun _ => rfl) _
  have hall := hw2.trans hst (fun q _ e => .inl e)
  have hnew : (Value.slice A' (k + 1) c').ownBlock = (Value.slice A k c).ownBlock ∨ ∀ b, (Value.slice A' (k + 1) c').ownBlock = some b → w.heap.size ≤ b := h3.imp id fun e b hb => by rw [e] at hb; injection hb with hb; simp at hb; omega
  have hnp : (Value.slice A' (k + 1) c').ownBlock ≠ some p := fun e => by
    rcases hnew with h4 | h4
    · rw [h4] at e; exact h.far e
    · have := h4 p e; omega
  have hkeep : ∀ (y : Sl) (l' : List Nat), RB w w.heap.size (slV y) l' → Off (fun q => q = p ∨ (Value.slice A k c).ownBlock = some q) (slV y) l' →
      RB (w'.setCell ⟨p, 3, none⟩ (.slice A' (k + 1) c')) (w'.setCell ⟨p, 3, none⟩ (.slice A' (k + 1) c')).heap.size (slV y) l' ∧ Off (fun q => q = p ∨ (Value.slice A' (k + 1) c').ownBlock = some q) (slV y) l' := fun y l' r1 r2 => by
    refine ⟨r1.mod hall r2, ?_⟩
    rcases r2 with r2 | r2
    · exact .inl r2
    · have r3 := RB.off (S := fun q => w.heap.size ≤ q) r1 (fun _ h h2 => by omega)
      rcases r3 with r3 | r3
      · exact .inl r3
      · refine .inr fun b hb e => ?_
        rcases e with e | e
        · exact r2 b hb (.inl e)
        · rcases hnew with h4 | h4
          · rw [h4] at e; exact r2 b hb (.inr e)
          · exact r3 b hb (h4 b e)
  have hkl : k < m.items.length := by omega
  have hit2 : m.items[k] = it := by rw [List.getElem?_eq_getElem hkl] at hit; injection hit
  have hfi : (m.first (k + 1)).items = m.items.take k ++ [it] := by unfold PG.first; dsimp only; rw [List.take_succ_eq_append_getElem hkl, hit2]
  refine hK A' c' w' (hb3.cell 3) (hb3.frozen 3) ⟨⟨hm.first _, hb3.set_ 3 _, h1.mod hst (fun b hb e => hnp (by rw [hb, e])), by rw [hxl, hfi]; simp; omega, fun j y l' hy' hl' => ?_, hnp, h.base⟩, hall, hnew⟩
  rw [hfi] at hl'
  have htl : (m.items.take k).length = k := by rw [List.length_take]; omega
  by_cases hj : j < k
  · rw [List.getElem?_append_left (by omega)] at hy' hl'
    obtain ⟨r1, r2⟩ := h.item j y l' hy' hl'
    exact hkeep y l' r1 r2
  · rw [List.getElem?_append_right (by omega)] at hy' hl'
    rw [hxk] at hy'
    rw [htl] at hl'
    have hj0 : j - k = 0 := by
      have := (List.getElem?_eq_some_iff.1 hy').1
      simp at this; omega
    rw [hj0] at hy' hl'
    simp at hy' hl'
    subst hy' hl'
    exact hkeep x it hr hoff

theorem app_armD {w : World} {p B k n : Nat} {A : Option Addr} {c : Nat} {xs : List Sl} {m : PG} (h : PageAt w p B (.slice A k c) xs (m.first k)) (hm : m.Ok) (hn : n = m.items.length) (hk : k < n) {x : Sl} {it : List Nat} (hit : m.items[k]? = some it) (hr : RB w w.heap.size (slV x) it) (hoff : Off (fun q => q = p ∨ (Value.slice A k c).ownBlock = some q) (slV x) it)
    {ops : Array Oper} {o : Oper} {a : Act} {K : Act → World → Prop} {Q : Exit → Act → World → Prop} {F : Prop} (hgd : o.guard = none) (s y : Operand)
    (ho : o.op = .call { callee := .builtin .append, args := #[s, y], argTypes := #[32, 32] })
    (hs : a.eval s = .slice A k c) (hy : a.eval y = .slice (some ⟨w.heap.size, 0, none⟩) 1 1)
    (hK : ∀ A' c' w', w'.cell? ⟨p, 3, none⟩ = some (.slice A k c) → w'.frozen? ⟨p, 3, none⟩ = false →
      Hid (PageAt (w'.setCell ⟨p, 3, none⟩ (.slice A' (k + 1) c')) p B (.slice A' (k + 1) c') (xs ++ [x]) (m.first (k + 1)) ∧ Mod (fun q => q = p ∨ (Value.slice A k c).ownBlock = some q) w.drew (w'.setCell ⟨p, 3, none⟩ (.slice A' (k + 1) c')) ∧ ((Value.slice A' (k + 1) c').ownBlock = (Value.slice A k c).ownBlock ∨ ∀ b, (Value.slice A' (k + 1) c').ownBlock = some b → w.heap.size ≤ b)) → K (a.put o.dst (.slice A' (k + 1) c')) w') :
    if Region.wanted o (yielded ops a.tmps) = true then Oper.wp Tryz.prog o a (w.alloc (.cells #[slV x] 22)).drew K Q else F :=
  app_arm (w := w.drew) (h.below (Below.refl _ _).drew) hm hn hk hit hr.drew hoff hgd s y ho hs hy hK

set_option maxRecDepth 100000 in
set_option maxHeartbeats 2000000 in
theorem pageParse_ok (w : World) (m : PG) (hm : m.Ok) (hf : m.Fit) (b o c : Nat) (hc : 512 ≤ c) (hc2 : c ≤ 9223372036854775807) (hb : b < w.heap.size) (hv : RB w w.heap.size (.slice (some ⟨b, o, none⟩) 512 c) (pageL m)) :
    Calls Tryz.prog 34 #[.slice (some ⟨b, o, none⟩) 512 c] w fun e w' => ∃ p v' xs, e = .returned (.tuple #[.pointer (some ⟨p, 0, none⟩), .int .i64 0]) ∧ PageAt w' p w.heap.size v' xs m ∧ Below w.heap.size w w' := by
  have HM := Lib.hid hm
  have HF := Lib.hid hf
  have HV := Lib.hid hv
  have hlen := pageL_len hf
  obtain ⟨L, hL⟩ : ∃ L, L = pageL m := ⟨_, rfl⟩
  rw [← hL] at hlen hv HV
  have HL := Lib.hid hL
  have hnum := hm.num
  obtain ⟨n, hn⟩ : ∃ n, n = m.items.length := ⟨_, rfl⟩
  rw [← hn] at hnum
  have HN := Lib.hid hn
  obtain ⟨ls, hls⟩ : ∃ ls : Nat, m.lsn = (ls : Int) := ⟨m.lsn.toNat, by have := hm.lsn; omega⟩
  have hls2 : ls ≤ 9223372036854775807 := by have := hm.lsn; omega
  obtain ⟨kd, hkd⟩ : ∃ kd, kd = m.kind := ⟨_, rfl⟩
  obtain ⟨ex, hexx⟩ : ∃ ex, ex = m.extra := ⟨_, rfl⟩
  have hk := hm.kind
  have hex := hm.extra
  rw [← hkd] at hk
  rw [← hexx] at hex
  have HLS := Lib.hid hls
  have HKD := Lib.hid hkd
  have HEX := Lib.hid hexx
  obtain ⟨cs, hcs⟩ : ∃ cs, cs = crcSum m.body := ⟨_, rfl⟩
  have hblt : ∀ x ∈ m.body, x < 256 := fun x hx => hv.1 x (by rw [hL]; unfold pageL; exact List.mem_append_right _ hx)
  have hcs32 : cs < 4294967296 := by rw [hcs]; exact crcSum_lt _ hblt
  have HCS : Hid (cs = crcSum m.body) := Lib.hid hcs
  have hucs : IntKind.u64.wrap (cs : Int) = (cs : Int) := by rw [IntKind.wrap_u64]; omega
  -- the parts, in the words of the walk
  have R0 : Hid (RB w w.heap.size (.slice (some ⟨b, o, none⟩) 4 c) (L.take 4)) := by
    have := hv.sub (lo := 0) (m := 4) (c' := c) (by omega) (by omega) hc2
    rw [List.drop_zero, Nat.add_zero] at this; exact this
  have R1 : Hid (RB w w.heap.size (.slice (some ⟨b, o + 4, none⟩) 508 (c - 4)) m.body) := by
    have := hv.sub (lo := 4) (m := 508) (c' := c - 4) (by omega) (by omega) (by omega)
    rw [List.take_of_length_le (by rw [List.length_drop]; omega), hL, (pg_sum m).2] at this; exact this
  have E0 : Hid (leV (L.take 4) = cs) := by show _ = _; rw [hL, (pg_sum m).1, leV_digits_of (by omega), hcs]
  have hbd : ∀ k, k ≤ n → 18 + 2 * k + sumTo m.items k ≤ 512 := fun k hk => hf.at_ (by rw [← hn]; exact hk)
  have HBD := Lib.hid hbd
  clear hm hf hv hL hn hls hkd hexx hcs hblt hbd
  go_enter Tryz.func34, Tryz.ntmps34
  go_wp2
  go_step3
  go_wp2_with fail
  obtain ⟨W1, hW1⟩ : ∃ W1, W1 = w.alloc (.cells #[.int .i64 0, .int .u8 0, .int .u32 0, .slice none 0 0] 122) := ⟨_, rfl⟩
  rw [← hW1]
  obtain ⟨p, hp⟩ : ∃ p, p = w.heap.size := ⟨_, rfl⟩
  have hP1 : PageAt W1 p p (.slice none 0 0) [] ⟨0, 0, 0, []⟩ := by
    rw [hW1, hp]
    exact ⟨⟨by simp, by simp, by simp, by simp, by simp⟩, Blk.new _ _ _, OK.nil _ _, rfl, by simp, by simp [Value.ownBlock], Nat.le_refl _⟩
  have hw1 : Below p w W1 := by rw [hW1, hp]; exact (Below.refl _ _).alloc (Nat.le_refl _) _
  rw [← hp]
  have hbp : b < p := by omega
  have HP1 := Lib.hid hP1
  have HW1 := Lib.hid hw1
  have HP := Lib.hid hp
  have RA : Hid (RB W1.drew p (.slice (some ⟨b, o, none⟩) 4 c) (L.take 4)) := by show RB _ _ _ _; rw [HP.out]; exact (R0.out.below (by rw [← HP.out]; exact HW1.out)).drew
  have RA2 : Hid (RB (W1.drew.alloc (.cells #[.slice (some ⟨b, o + 4, none⟩) 508 (c - 4)] 22)) p (.slice (some ⟨b, o, none⟩) 4 c) (L.take 4)) := RA.out.alloc (Nat.le_of_lt HP1.out.lt) _
  have RS : Hid (RP (W1.drew.alloc (.cells #[.slice (some ⟨b, o + 4, none⟩) 508 (c - 4)] 22)) p W1.heap.size 0 [m.body]) := RP.one rfl (Below.refl _ _).drew (by rw [HP.out]; exact R1.out.below (by rw [← HP.out]; exact HW1.out)) (Nat.le_of_lt HP1.out.lt)
  have hL4 : (L.take 4).length ≤ 8 := by rw [List.length_take]; omega
  have hc4 : (4 : Int) ≤ (c : Int) := by omega
  have hc4n : ¬ c = 4 := by omega
  clear hW1 hP1 hw1 hp
  go_region_held3 (fun _ => True) (trivial)
    (first
      | (go_at_call 72; refine (leGet_v (B := p) (by first | exact RA.out | exact RA2.out) hL4 E0.out).mono ?_; rintro e7 w7 ⟨rfl, rfl⟩)
      | (go_at_call 68; refine (sum_one RS.out HCS.out).mono ?_; rintro e7 w7 ⟨rfl, rfl⟩))
  all_goals (
    obtain ⟨W2, hW2, hP2, hw2, hr2⟩ : ∃ W2, W2 = (W1.alloc (.cells #[.slice (some ⟨b, o + 4, none⟩) 508 (c - 4)] 22)).drew ∧ PageAt W2 p p (.slice none 0 0) [] ⟨0, 0, 0, []⟩ ∧ Below p w W2 ∧ RB W2 p (.slice (some ⟨b, o, none⟩) 512 c) L :=
      ⟨_, rfl, (HP1.out.alloc _).below (Below.refl _ _).drew, (HW1.out.alloc (Nat.le_of_lt HP1.out.lt) _).drew, by
        have h1 : RB w p (.slice (some ⟨b, o, none⟩) 512 c) L := by rw [HP.out]; exact HV.out
        exact ((h1.below HW1.out).alloc (Nat.le_of_lt HP1.out.lt) _).drew⟩
    rw [← hW2]
    have R5 : Hid (RB W2 p (.slice (some ⟨b, o + 4, none⟩) 8 (c - 4)) ((L.drop 4).take 8)) := hr2.sub (by omega) (by omega) (by omega)
    have E5 : Hid (leV ((L.drop 4).take 8) = ls) := by show _ = _; rw [HL.out, pg_lsn, HLS.out, Int.toNat_natCast, leV_digits_of (by omega)]
    have hl8 : ((L.drop 4).take 8).length ≤ 8 := by rw [List.length_take]; omega
    have hgt : decide ((9223372036854775807 : Int) < (ls : Int)) = false := by simp; omega
    have hgt2 : ¬ (9223372036854775807 : Int) < (ls : Int) := by omega
    have hn100 : decide ((100 : Int) < (n : Int)) = false := by simp; omega
    have hn100b : ¬ (100 : Int) < (n : Int) := by omega
    have e17 : L[17]? = some n := by rw [HL.out, pg_count, ← HN.out]
    have k17 : W2.cell? ⟨b, o + 17, none⟩ = some (.int .u8 (n : Int)) := by
      obtain ⟨_, _, A, c0, e, _, _, h5⟩ := hr2
      injection e with e _ _
      rcases h5 with h5 | ⟨b', off, e', _, hx⟩
      · rw [h5] at e17; cases e17
      · rw [← e] at e'
        injection e' with e'
        injection e' with e4 e5
        subst e4 e5
        exact hx 17 n e17
    have hc12 : (12 : Int) ≤ (c : Int) := by omega
    have HP2 := Lib.hid hP2
    have HW2 := Lib.hid hw2
    have HR2 := Lib.hid hr2
    clear hW2 hP2 hw2 hr2 RA RA2 RS hL4 e17
    go_wp2_with fail
    refine (leGet_v R5.out hl8 E5.out).mono ?_
    rintro e7 w7 ⟨rfl, hw7⟩
    subst w7
    go_wp2_with fail
    refine (clone_any _ _ L (HR2.out.more (Nat.le_of_lt HP2.out.lt))).mono ?_
    rintro e8 w3 ⟨v3, rfl, ho3, hb3⟩
    obtain ⟨g, cap, rfl, hg1, hg2, hg3, hg4, -⟩ := ho3.form (by omega)
    rw [hlen] at ho3 hg3
    have hR3 : RB w3 w3.heap.size (.slice (some ⟨g, 0, none⟩) 512 cap) L := ho3.rbn
    have HR3 := Lib.hid hR3
    have HW3 : Hid (Below p w w3) := HW2.out.trans (hb3.mono (Nat.le_of_lt HP2.out.lt))
    have HP3 := Lib.hid (HP2.out.below hb3)
    have hgp : p < g := by have := HP2.out.lt; omega
    have hR7 : RB w3 w3.heap.size (.slice (some ⟨g, 4, none⟩) 8 (cap - 4)) ((L.drop 4).take 8) := by have := hR3.sub (lo := 4) (m := 8) (c' := cap - 4) (by omega) (by omega) (by omega); rw [Nat.zero_add] at this; exact this
    have hR9 : RB w3 w3.heap.size (.slice (some ⟨g, 13, none⟩) 4 (cap - 13)) ((L.drop 13).take 4) := by have := hR3.sub (lo := 13) (m := 4) (c' := cap - 13) (by omega) (by omega) (by omega); rw [Nat.zero_add] at this; exact this
    have HO3 : Hid (OB w3 W2.heap.size (.slice (some ⟨g, 0, none⟩) 512 cap) L) := Lib.hid ho3
    have kcell : ∀ (i x : Nat), L[i]? = some x → w3.cell? ⟨g, i, none⟩ = some (.int .u8 (x : Int)) := fun i x hx => by
      obtain ⟨_, _, A, c0, e, _, _, h5⟩ := hR3
      injection e with e _ _
      rcases h5 with h5 | ⟨b', off, e', _, hx'⟩
      · rw [h5] at hx; cases hx
      · rw [← e] at e'
        injection e' with e'
        injection e' with e4 e5
        subst e4 e5
        have := hx' i x hx
        rw [Nat.zero_add] at this; exact this
    have k12 : w3.cell? ⟨g, 12, none⟩ = some (.int .u8 (kd : Int)) := kcell 12 kd (by rw [HL.out, pg_kind, ← HKD.out])
    have kg17 : w3.cell? ⟨g, 17, none⟩ = some (.int .u8 (n : Int)) := kcell 17 n (by rw [HL.out, pg_count, ← HN.out])
    have HKC := Lib.hid kcell
    have E9 : Hid (leV ((L.drop 13).take 4) = ex) := by show _ = _; rw [HL.out, pg_extra, ← HEX.out, leV_digits_of (by omega)]
    have hl4 : ((L.drop 13).take 4).length ≤ 8 := by rw [List.length_take]; omega
    have hcap4 : (12 : Int) ≤ (cap : Int) := by omega
    have hcap17 : (17 : Int) ≤ (cap : Int) := by omega
    have hn4 : ¬ cap = 4 := by omega
    have hn13 : ¬ cap = 13 := by omega
    have hwl : IntKind.i64.wrap (ls : Int) = (ls : Int) := by rw [IntKind.wrap_i64]; omega
    have hwe : IntKind.u32.wrap (ex : Int) = (ex : Int) := by rw [IntKind.wrap_u32]; omega
    have q0 : w3.cell? ⟨p, 0, none⟩ = some (.int .i64 0) := HP3.out.blk.cell 0
    have q0f := HP3.out.blk.frozen 0
    have q1 : w3.cell? ⟨p, 1, none⟩ = some (.int .u8 0) := HP3.out.blk.cell 1
    have q1f := HP3.out.blk.frozen 1
    have q2 : w3.cell? ⟨p, 2, none⟩ = some (.int .u32 0) := HP3.out.blk.cell 2
    have q2f := HP3.out.blk.frozen 2
    have hgp1 : ¬ g = p := by omega
    have hgp2 : ¬ p = g := by omega
    have R7 := Lib.hid hR7
    have R9 := Lib.hid hR9
    clear hR3 ho3 hb3 hR7 hR9 kcell k17 hgt hgt2 hg1
    go_wp2_with fail
    refine (leGet_v R7.out hl8 E5.out).mono ?_
    rintro e9 w9 ⟨rfl, hw9⟩
    subst w9
    obtain ⟨W4, hW4⟩ : ∃ W4, W4 = w3.setCell ⟨p, 0, none⟩ (.int .i64 (ls : Int)) := ⟨_, rfl⟩
    obtain ⟨W5, hW5⟩ : ∃ W5, W5 = W4.setCell ⟨p, 1, none⟩ (.int .u8 (kd : Int)) := ⟨_, rfl⟩
    have hpw3 : p < w3.heap.size := HP3.out.lt
    have hb4 : Blk W4 p 122 #[.int .i64 (ls : Int), .int .u8 ((0 : Nat) : Int), .int .u32 ((0 : Nat) : Int), .slice none 0 0] := by rw [hW4]; exact HP3.out.blk.set_ 0 (.int .i64 (ls : Int))
    have hb5 : Blk W5 p 122 #[.int .i64 (ls : Int), .int .u8 (kd : Int), .int .u32 ((0 : Nat) : Int), .slice none 0 0] := by rw [hW5]; exact hb4.set_ 1 (.int .u8 (kd : Int))
    have hm4 : Mod (fun q => q = p) w3 W4 := by rw [hW4]; exact mod_set
    have hm5 : Mod (fun q => q = p) w3 W5 := by rw [hW5]; exact hm4.trans' mod_set
    have hgl := (HO3.out.lt g rfl).2
    have R9b : Hid (RB ((w3.setCell ⟨p, 0, none⟩ (.int .i64 (ls : Int))).setCell ⟨p, 1, none⟩ (.int .u8 (kd : Int))) ((w3.setCell ⟨p, 0, none⟩ (.int .i64 (ls : Int))).setCell ⟨p, 1, none⟩ (.int .u8 (kd : Int))).heap.size (.slice (some ⟨g, 13, none⟩) 4 (cap - 13)) ((L.drop 13).take 4)) := by
      have := R9.out.mod hm5 (.inr fun b' e he => by injection e with e; simp at e; omega)
      rw [hW5, hW4] at this
      exact this
    have HM5 := Lib.hid hm5
    have HB5 := Lib.hid hb5
    have HW4 := Lib.hid hW4
    have HW5 := Lib.hid hW5
    clear hW4 hW5 hb4 hb5 hm4 hm5
    go_wp2_with fail
    refine (leGet_v R9b.out hl4 E9.out).mono ?_
    rintro e10 w10 ⟨rfl, hw10⟩
    subst w10
    have hwn : IntKind.i64.wrap (n : Int) = (n : Int) := by rw [IntKind.wrap_i64]; omega
    have k17c : (((w3.setCell ⟨p, 0, none⟩ (.int .i64 (ls : Int))).setCell ⟨p, 1, none⟩ (.int .u8 (kd : Int))).setCell ⟨p, 2, none⟩ (.int .u32 (ex : Int))).cell? ⟨g, 17, none⟩ = some (.int .u8 (n : Int)) := by
      have hm : Mod (fun q => q = p) w3 (((w3.setCell ⟨p, 0, none⟩ (.int .i64 (ls : Int))).setCell ⟨p, 1, none⟩ (.int .u8 (kd : Int))).setCell ⟨p, 2, none⟩ (.int .u32 (ex : Int))) := (mod_set.trans' mod_set).trans' mod_set
      exact (hm.cell hgl hgp1 17).trans kg17
    have hcap18 : (17 : Int) < (cap : Int) := by omega
    go_wp2_with fail
    obtain ⟨W6, hW6, hP6, hR6, hw6⟩ : ∃ W6, W6 = ((w3.setCell ⟨p, 0, none⟩ (.int .i64 (ls : Int))).setCell ⟨p, 1, none⟩ (.int .u8 (kd : Int))).setCell ⟨p, 2, none⟩ (.int .u32 (ex : Int)) ∧ PageAt W6 p p (.slice none 0 0) [] (m.first 0) ∧ RB W6 W6.heap.size (.slice (some ⟨g, 0, none⟩) 512 cap) L ∧ Below p w W6 := by
      have hm : Mod (fun q => q = p) w3 (((w3.setCell ⟨p, 0, none⟩ (.int .i64 (ls : Int))).setCell ⟨p, 1, none⟩ (.int .u8 (kd : Int))).setCell ⟨p, 2, none⟩ (.int .u32 (ex : Int))) := (mod_set.trans' mod_set).trans' mod_set
      refine ⟨_, rfl, ⟨HM.out.first 0, ?_, OK.nil _ _, rfl, fun j x l hx => by simp at hx, by simp [Value.ownBlock], Nat.le_refl _⟩, HR3.out.mod hm (.inr fun b' e he => by injection e with e; simp at e; omega), HW3.out.trans (hm.below (Nat.le_of_lt HP3.out.lt) (fun k e => Nat.le_of_eq e.symm))⟩
      have h0 := ((HP3.out.blk.set_ 0 (.int .i64 (ls : Int))).set_ 1 (.int .u8 (kd : Int))).set_ 2 (.int .u32 (ex : Int))
      unfold PG.first
      dsimp only
      rw [HLS.out, ← HKD.out, ← HEX.out]
      exact h0
    rw [← hW6]
    have HP6 := Lib.hid hP6
    have HR6 := Lib.hid hR6
    have HW6 := Lib.hid hw6
    clear hW6 hP6 hR6 hw6 q0 q0f q1 q1f q2 q2f k12 kg17 k17c hwl hwe hcap4 hcap17 hcap18 hn4 hn13
    go_loopw [7, 65] (fun bg i wr => ∃ (k e : Nat) (A : Option Addr) (cr : Nat) (xs : List Sl), k ≤ n ∧ i = .int .i64 k ∧ bg = .int .i64 e ∧ Hid (e = 512 - sumTo m.items k) ∧ Hid (PageAt wr p p (.slice A k cr) xs (m.first k)) ∧ Hid (RB wr wr.heap.size (.slice (some ⟨g, 0, none⟩) 512 cap) L) ∧ Hid (Below p w wr) ∧ Hid ((Value.slice A k cr).ownBlock ≠ some g)) (fun bg i wr => n - (intOf i).toNat)
    case atStart => exact ⟨0, 512, none, 0, [], Nat.zero_le _, rfl, rfl, rfl, HP6, HR6, HW6, by simp [Value.ownBlock]; exact Lib.hid trivial⟩
    case round =>
      obtain ⟨k, e, A, cr, xs, hkn, rfl, rfl, HE, HPG, HRR, HWW, HNG⟩ := hrel
      have hee := HE.out
      by_cases hlt : k < n
      · have hki : k < m.items.length := by rw [← HN.out]; exact hlt
        obtain ⟨it, hit⟩ : ∃ it, it = m.items[k] := ⟨_, rfl⟩
        have hs := sumTo_succ hki
        rw [← hit] at hs
        have h1 := HBD.out (k + 1) (by omega)
        have hnn := HBD.out n (Nat.le_refl _)
        have hk0 := HBD.out k (by omega)
        have hmono : sumTo m.items (k + 1) ≤ sumTo m.items n := by
          have := sumTo_mono (L := m.items) (k := k + 1)
          rw [← sumTo_all, ← HN.out] at this; exact this
        have hit200 : it.length ≤ 200 := by rw [hit]; exact HM.out.item _ (List.getElem_mem _)
        obtain ⟨e', he'⟩ : ∃ e', e' = 512 - sumTo m.items (k + 1) := ⟨_, rfl⟩
        have hitl : e - e' = it.length := by omega
        have he512 : e' ≤ 512 := by omega
        have hee' : e' ≤ e := by omega
        have R16 : Hid (RB wr wr.heap.size (.slice (some ⟨g, 18 + 2 * k, none⟩) 2 (cap - (18 + 2 * k))) ((L.drop (18 + 2 * k)).take 2)) := by
          have h3 := HRR.out.sub (lo := 18 + 2 * k) (m := 2) (c' := cap - (18 + 2 * k)) (by omega) (by omega) (by omega)
          rw [Nat.zero_add] at h3
          exact h3
        have E16 : Hid (leV ((L.drop (18 + 2 * k)).take 2) = e') := by show _ = _; rw [HL.out, pg_slot hki, ← he', leV_digits_of (by omega)]
        have hl2 : ((L.drop (18 + 2 * k)).take 2).length ≤ 8 := by rw [List.length_take]; omega
        have hsl := slB_lh (b := g) (o := 0) (n := 512) (cap := cap) (lo := 18 + 2 * k) (hi := 18 + 2 * (k + 1)) (i := 18 + 2 * (k : Int)) (j := 18 + 2 * ((k : Int) + 1)) (by omega) (by omega) (by omega) (by omega)
        rw [show 18 + 2 * (k + 1) - (18 + 2 * k) = 2 by omega, if_neg (by omega), Nat.zero_add] at hsl
        have hwk : IntKind.i64.wrap ((k : Int) + 1) = (k : Int) + 1 := by rw [IntKind.wrap_i64]; omega
        have hwe1 : IntKind.i64.wrap (e' : Int) = (e' : Int) := by rw [IntKind.wrap_i64]; omega
        have hws : IntKind.i64.wrap ((e : Int) - (e' : Int)) = (e : Int) - (e' : Int) := by rw [IntKind.wrap_i64]; omega
        have d1 : decide ((e : Int) < (e' : Int)) = false := by simp; omega
        have d2 : decide ((e' : Int) < 18 + 2 * (n : Int)) = false := by simp; omega
        have d3 : decide ((200 : Int) < (e : Int) - (e' : Int)) = false := by simp; omega
        have hsl3 := slB_lh (b := g) (o := 0) (n := 512) (cap := cap) (lo := e') (hi := e) (i := (e' : Int)) (j := (e : Int)) rfl rfl hee' (by omega)
        obtain ⟨of, hof⟩ : ∃ of, of = if cap = e' then 0 else 0 + e' := ⟨_, rfl⟩
        rw [← hof] at hsl3
        have hrx : RB wr wr.heap.size (.slice (some ⟨g, of, none⟩) (e - e') (cap - e')) it := by
          by_cases hce : cap = e'
          · have : it = [] := List.eq_nil_of_length_eq_zero (by omega)
            subst this
            exact ⟨by simp, by simp, some ⟨g, of, none⟩, cap - e', by rw [hitl], by simp, by omega, .inl rfl⟩
          · have h3 := HRR.out.sub (lo := e') (m := e - e') (c' := cap - e') (by omega) (by omega) (by omega)
            have hpi := pg_item HF.out hki
            rw [← HL.out, ← he', ← hit, ← hitl] at hpi
            rw [hpi] at h3
            rw [hof, if_neg hce]; exact h3
        have HRX := Lib.hid hrx
        have HIT : Hid (m.items[k]? = some it) := by show _ = _; rw [List.getElem?_eq_getElem hki, hit]
        have HE' := Lib.hid he'
        have cg : wr.cell? ⟨p, 3, none⟩ = some (.slice A k cr) := HPG.out.blk.cell 3
        have cga : (wr.alloc (.cells #[.slice (some ⟨g, of, none⟩) (e - e') (cap - e')] 22)).cell? ⟨p, 3, none⟩ = some (.slice A k cr) := ((HPG.out.alloc _).blk.cell 3)
        have hn1 : (0 : Int) ≤ (n : Int) ∧ (n : Int) ≤ 1000000 := by omega
        clear hs h1 hnn hk0 hmono hit he' hrx hof hit200 hee hitl
        go_wp2_with (first
          | (go_at_call 67; refine (slotAt_any _ _ (by omega)).mono ?_; rintro e11 w11 ⟨rfl, rfl⟩)
          | (go_at_call 72; refine (leGet_v R16.out hl2 E16.out).mono ?_; rintro e12 w12 ⟨rfl, hw12⟩; subst w12))
        have HPGd : Hid (PageAt wr.drew p p (.slice A k cr) xs (m.first k)) := HPG.out.below (Below.refl _ _).drew
        have HRXd : Hid (RB wr.drew wr.drew.heap.size (slV ((some ⟨g, of, none⟩, e - e', cap - e') : Sl)) it) := HRX.out.drew
        have HOFd : Hid (Off (fun q => q = p ∨ (Value.slice A k cr).ownBlock = some q) (slV ((some ⟨g, of, none⟩, e - e', cap - e') : Sl)) it) := .inr fun b' hb' e5 => by
          injection hb' with hb'
          simp at hb'
          subst hb'
          rcases e5 with e5 | e5
          · exact hgp1 e5
          · exact HNG.out e5
        clear d1 d2 d3 hws hwe1 hwk hsl hl2 R16 E16 hn1
        go_region_law (first
          | (refine app_armD (w := wr) (x := ((some ⟨g, of, none⟩, e - e', cap - e') : Sl)) HPG.out HM.out HN.out hlt HIT.out HRX.out HOFd.out rfl (.tmp 97) (.tmp 102) rfl rfl rfl ?_; intro A' c' w' k3 f3 HALL))
        all_goals (
          have hall := HALL.out
          go_wp2_with fail
          go_roundw
          case rel =>
            refine ⟨k + 1, e', A', c', _, by omega, by go_num, rfl, HE', hall.1, HRR.out.drew.mod hall.2.1 (.inr fun b' hb' e5 => ?_), ?_, ?_⟩
            · injection hb' with hb'
              simp at hb'
              subst hb'
              rcases e5 with e5 | e5
              · exact hgp1 e5
              · exact HNG.out e5
            · exact HWW.out.drew.trans (hall.2.1.below (Nat.le_of_lt HPG.out.lt) (fun q e5 => by
                rcases e5 with e5 | e5
                · exact Nat.le_of_eq e5.symm
                · exact (HPG.out.row.lt q e5).1))
            · intro e5
              rcases hall.2.2 with h6 | h6
              · rw [h6] at e5; exact HNG.out e5
              · have h7 := h6 g e5
                have h8 : g < wr.heap.size := by
                  obtain ⟨_, _, A9, c9, e9, _, _, h9⟩ := HRR.out
                  injection e9 with e9 _ _
                  rcases h9 with h9 | ⟨b', off, e10, hb', _⟩
                  · rw [h9] at hlen; simp at hlen
                  · rw [← e9] at e10; injection e10 with e10; injection e10 with e10; omega
                have h7' : wr.heap.size ≤ g := h7
                omega
          case measure => simp [intOf]; omega)
      · obtain rfl : k = n := by omega
        have hk0 := HBD.out k (Nat.le_refl _)
        have hn1 : (0 : Int) ≤ (k : Int) ∧ (k : Int) ≤ 1000000 := by omega
        have hsl := slB_lh (b := g) (o := 0) (n := 512) (cap := cap) (lo := 18 + 2 * k) (hi := e) (i := 18 + 2 * (k : Int)) (j := (e : Int)) (by omega) rfl (by omega) (by omega)
        have hcn : ¬ cap = 18 + 2 * k := by omega
        rw [if_neg hcn, Nat.zero_add] at hsl
        obtain ⟨z, hz⟩ : ∃ z, e - (18 + 2 * k) = z := ⟨_, rfl⟩
        rw [hz] at hsl
        have hgap : ∀ j, j < z → wr.cell? ⟨g, 18 + 2 * k + j, none⟩ = some (.int .u8 0) := fun j hj => by
          have h3 := pg_gap HF.out (j := 18 + 2 * k + j) (by rw [← HN.out]; omega) (by rw [← HN.out]; omega)
          rw [← HL.out] at h3
          obtain ⟨_, _, A9, c9, e9, _, _, h9⟩ := HRR.out
          injection e9 with e9 _ _
          rcases h9 with h9 | ⟨b', off, e10, hb', hx9⟩
          · rw [h9] at hlen; simp at hlen
          · rw [← e9] at e10
            injection e10 with e10
            injection e10 with e10 e11
            subst e10 e11
            have := hx9 _ 0 h3
            rw [Nat.zero_add] at this
            exact this
        have HGAP := Lib.hid hgap
        have hz512 : z ≤ 512 := by omega
        clear hgap hk0 hee
        go_wp2_with (first
          | (go_at_call 67; refine (slotAt_any _ _ (by omega)).mono ?_; rintro e11 w11 ⟨rfl, rfl⟩))
        have hfirst : m.first k = m := by
          unfold PG.first
          rw [HN.out, List.take_length]
        have hfin : PageAt wr p w.heap.size (.slice A k cr) xs m := by
          have h5 := HPG.out
          rw [hfirst] at h5
          rw [← HP.out]; exact h5
        have hbf : Below w.heap.size w wr := by rw [← HP.out]; exact HWW.out
        have HFIN := Lib.hid hfin
        have HBF := Lib.hid hbf
        clear hfirst hfin hbf hsl
        go_loopw [113] (fun i wq => ∃ j : Nat, j ≤ z ∧ i = .int .i64 j ∧ wq = wr) (fun i wq => z - (intOf i).toNat)
        case atStart => exact ⟨0, Nat.zero_le _, rfl, rfl⟩
        case round =>
          obtain ⟨j, hj, rfl, rfl⟩ := hrel
          by_cases hjz : j < z
          · have hcj := HGAP.out j hjz
            have hji : (j : Int) < (z : Int) := by omega
            go_wp2_with fail
            go_roundw
            case rel => exact ⟨j + 1, by omega, by go_num, by first | rfl | trivial⟩
            case measure => simp [intOf]; omega
          · obtain rfl : j = z := by omega
            go_wp2_with fail
            try rw [Exit.noGoto_ret]
            go_ret2
            exact ⟨p, _, xs, by first | rfl | trivial, HFIN.out, HBF.out⟩)

end Go.Proofs.YtbagmmncjmbboaaGreat
