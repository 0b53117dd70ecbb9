/-
  The walk of skeinlaw10.ahead: no page on the disk is ahead of the log.
-/
import Derived.BigQuiet
import Derived.Test.YtbagmmncjmbboaaGreatZCA29
import Derived.Test.YtbagmmncjmbboaaGreatZQ3
import Derived.Test.YtbagmmncjmbboaaGreatZCA39
import Derived.Test.YtbagmmncjmbboaaGreatYQ53
import Derived.Test.YtbagmmncjmbboaaGreatZCA41
namespace Go.Proofs.YtbagmmncjmbboaaGreat
open Go.RowKit Go.Maps
set_option linter.unusedVariables false

/-- The bytes of a disk, piece by piece. -/
theorem piece_allC {s : DS} (hok : s.Ok) {i : Nat} (hi : i < s.safe.length) : piece s.all (512 * i) (512 * i + 512) = s.has i := by
  have key : ∀ n, n ≤ s.safe.length → ((List.range n).flatMap s.has).length = n * 512 := fun n hn => flatMap_len n (fun j hj => (hok.has (by omega)).1)
  have hsplit : s.all = (List.range (i + 1)).flatMap s.has ++ ((List.range (s.safe.length - (i + 1))).map fun j => i + 1 + j).flatMap s.has := by
    unfold DS.all
    rw [← List.flatMap_append, ← List.range_add, show i + 1 + (s.safe.length - (i + 1)) = s.safe.length by omega]
  unfold piece
  rw [hsplit, List.take_append_of_le_length (by rw [key (i + 1) (by omega)]; omega), List.take_of_length_le (by rw [key (i + 1) (by omega)]; omega), flatMap_take, List.drop_append_of_le_length (by rw [key i (by omega)]; omega), List.drop_eq_nil_of_le (by rw [key i (by omega)]; omega), List.nil_append]

/-- A page's LSN, read. -/
def LsnAt (w : World) (L : List Nat) (top : Int) (W : List Nat) (e : Ending) (w1 : World) : Prop := Below w.heap.size w w1 ∧
  (e = .returned (.tuple #[.pointer none, .int .i64 80]) ∨ ∃ p x, e = .returned (.tuple #[.pointer (some ⟨p, 0, none⟩), .int .i64 0]) ∧ (L = W ∨ x < top) ∧
    ∀ w2, Below w1.heap.size w1 w2 → Calls Tryz.prog 37 #[.pointer (some ⟨p, 0, none⟩)] w2 fun e w' => e = .returned (.int .i64 x) ∧ w' = w2)

theorem parse_lsnAt (w : World) (v : Value) (L W : List Nat) (top : Int) (hv : RB w w.heap.size v L) (h : L = W ∨ ∃ pg, PgGood pg ∧ L = pageL pg ∧ pg.lsn < top) :
    Calls Tryz.prog 34 #[v] w (LsnAt w L top W) := by
  obtain ⟨its, hP⟩ := its_exists L
  refine (pageParse_any w L v hv its hP).mono ?_
  rintro e w1 ⟨hb, ⟨rfl, -⟩ | ⟨hi, p, v', xs, rfl, hp⟩⟩
  · exact ⟨hb, .inl rfl⟩
  · refine ⟨hb, .inr ⟨p, (pgOf L its).lsn, rfl, ?_, fun w2 hb2 => lsn_v w2 p w.heap.size v' xs _ _ (hp.below hb2) rfl⟩⟩
    rcases h with h | ⟨pg, hg, h1, h2⟩
    · exact .inl h
    · refine .inr ?_
      have hne : L ≠ sec0 := fun e => sec0_head (by rw [← e]; exact hi.1)
      have e2 : PageOf L (pgOf L its) := .inr ⟨hne, its, hi, hP hi.1, rfl⟩
      have e3 : PageOf L pg := by rw [h1]; exact hg.pageOf
      rw [pageOf_unique e2 e3]
      exact h2

/-- What ahead leans on. -/
structure NotAhead (w : World) (p g : Nat) (s : DS) (pl : Option Nat) (sb mb : Nat) (L : Int) (count : Nat) (wv : Value) (wl : List Nat) : Prop where
  dk : DiskAt w p sb mb pl s
  row : RB w w.heap.size wv wl
  len : 4 + count ≤ s.safe.length
  few : count ≤ 12
  late : ∀ i, 4 ≤ i → i < 4 + count → s.has i = piece wl (512 * i) (512 * i + 512) ∨ ∃ pg, PgGood pg ∧ s.has i = pageL pg ∧ pg.lsn < L
  safe : ∀ w2, Below w.heap.size w w2 → Calls Tryz.prog 38 #[.pointer (some ⟨g, 0, none⟩)] w2 fun e w' => e = .returned (.int .i64 L) ∧ w' = w2

theorem NotAhead.piece_now {w : World} {p g sb mb count : Nat} {s : DS} {pl : Option Nat} {L : Int} {wv : Value} {wl : List Nat} (h : NotAhead w p g s pl sb mb L count wv wl) (w2 : World) (v : Value) (hv : RB w2 w2.heap.size v s.all) (i : Nat) (h4 : 4 ≤ i) (hi : i < 4 + count) :
    Calls Tryz.prog 9 #[v, .int .i64 (512 * (i : Int)), .int .i64 (512 * (i : Int) + 512)] w2 fun e w' => ∃ v', e = .returned v' ∧ OB w' w2.heap.size v' (s.has i) ∧ Below w2.heap.size w2 w' := by
  have := piece_any v s.all (512 * i) (512 * i + 512) w2 hv (by have := h.few; omega) (by have := h.few; omega)
  rw [show ((512 * i : Nat) : Int) = 512 * (i : Int) by omega, show ((512 * i + 512 : Nat) : Int) = 512 * (i : Int) + 512 by omega, piece_allC h.dk.ok (by have := h.len; omega)] at this
  exact this

theorem piece_was (w2 : World) (v : Value) (l : List Nat) (hv : RB w2 w2.heap.size v l) (i : Nat) (hi : i < 100) :
    Calls Tryz.prog 9 #[v, .int .i64 (512 * (i : Int)), .int .i64 (512 * (i : Int) + 512)] w2 fun e w' => ∃ v', e = .returned v' ∧ OB w' w2.heap.size v' (piece l (512 * i) (512 * i + 512)) ∧ Below w2.heap.size w2 w' := by
  have := piece_any v l (512 * i) (512 * i + 512) w2 hv (by omega) (by omega)
  rw [show ((512 * i : Nat) : Int) = 512 * (i : Int) by omega, show ((512 * i + 512 : Nat) : Int) = 512 * (i : Int) + 512 by omega] at this
  exact this

set_option maxRecDepth 100000 in
set_option maxHeartbeats 8000000 in
theorem ahead_any (w : World) (p g sb mb count : Nat) (s : DS) (pl : Option Nat) (L : Int) (wv : Value) (wl : List Nat) (h : NotAhead w p g s pl sb mb L count wv wl) :
    Calls Tryz.prog 19 #[.pointer (some ⟨p, 0, none⟩), .pointer (some ⟨g, 0, none⟩), wv, .int .i64 (count : Int)] w fun e w' => e = .returned (.bool false) ∧ Below w.heap.size w w' := by
  have H := Lib.hid h
  have hfew := h.few
  have hw1 : IntKind.i64.wrap (4 + (count : Int)) = ((4 + count : Nat) : Int) := by rw [IntKind.wrap_i64]; omega
  obtain ⟨T, hT⟩ : ∃ T, T = 4 + count := ⟨_, rfl⟩
  rw [← hT] at hw1
  have HT := Lib.hid hT
  have hT16 : 4 ≤ T ∧ T ≤ 16 := by omega
  obtain ⟨WA, wc, rfl, -, -, -, -⟩ := h.row.open_
  clear h hT hfew
  go_enter Tryz.func19, Tryz.ntmps19
  go_wp2_with fail
  refine (All_any w p sb mb pl s H.out.dk).mono ?_
  rintro e W0 ⟨v0, rfl, ho0, hb0⟩
  obtain ⟨NA, nc, rfl, -, -, -, -⟩ := ho0.rbn.open_
  obtain ⟨nn, hnn⟩ : ∃ nn, nn = s.all.length := ⟨_, rfl⟩
  rw [← hnn] at ho0 ⊢
  have HO := Lib.hid ho0
  have HB0 := Lib.hid hb0
  clear ho0 hb0 hnn
  go_wp2_with fail
  go_loopw [10] (fun i wr => ∃ k : Nat, 4 ≤ k ∧ k ≤ T ∧ i = .int .i64 (k : Int) ∧ Hid (Below W0.heap.size W0 wr)) (fun i wr => T - (intOf i).toNat)
  case atStart => exact ⟨4, Nat.le_refl _, hT16.1, rfl, Lib.hid (Below.refl _ _)⟩
  case round =>
    obtain ⟨k, hk4, hkT, rfl, HB⟩ := hrel
    have gw1 : IntKind.i64.wrap (512 * (k : Int)) = 512 * (k : Int) := by rw [IntKind.wrap_i64]; omega
    have gw2 : IntKind.i64.wrap (512 * (k : Int) + 512) = 512 * (k : Int) + 512 := by rw [IntKind.wrap_i64]; omega
    by_cases hlt : k < T
    · have hki : k < 4 + count := by rw [← HT.out]; exact hlt
      have HKI := Lib.hid hki
      clear hki
      go_wp2_with fail
      refine (H.out.piece_now wr _ ((HO.out.rbn.below HB.out).more HB.out.size) k hk4 HKI.out).mono ?_
      rintro e W1 ⟨v1, rfl, ho1, hb1⟩
      have HB1 := Lib.hid (HB.out.trans (hb1.mono HB.out.size))
      have HO1 := Lib.hid ho1
      clear hb1 ho1
      go_wp2_with fail
      refine (parse_lsnAt W1 v1 (s.has k) (piece wl (512 * k) (512 * k + 512)) L HO1.out.rbn (H.out.late k hk4 HKI.out)).mono ?_
      rintro e W2 ⟨hb2, rfl | ⟨pp, x, rfl, hx, hl⟩⟩
      · have HFIN : Hid (Below W0.heap.size W0 W2) := Lib.hid (HB1.out.trans (hb2.mono HB1.out.size))
        clear hb2
        go_wp2_with fail
        go_roundw
        case rel => exact ⟨k + 1, by omega, by omega, by go_num, HFIN⟩
        case measure => simp [intOf]; omega
      · have HL := Lib.hid hl
        have HX := Lib.hid hx
        have HB2 := Lib.hid (HB1.out.trans (hb2.mono HB1.out.size))
        have HB2' := Lib.hid hb2
        have HSF : Hid (∀ w2, Below W2.heap.size W2 w2 → Calls Tryz.prog 38 #[.pointer (some ⟨g, 0, none⟩)] w2 fun e w' => e = .returned (.int .i64 L) ∧ w' = w2) := Lib.hid (fun w2 hw => H.out.safe w2 (HB0.out.trans ((HB2.out.trans (hw.mono HB2.out.size)).mono HB0.out.size)))
        clear hb2 hx hl
        by_cases hLx : L ≤ x
        · have gl : decide (L ≤ x) = true := decide_eq_true hLx
          have HEQ : Hid (s.has k = piece wl (512 * k) (512 * k + 512)) := Lib.hid (by
            rcases HX.out with e | e
            · exact e
            · omega)
          clear hLx
          go_wp2_with fail
          refine (HL.out W2 (Below.refl _ _)).mono ?_
          rintro e W3 ⟨rfl, rfl⟩
          go_wp2_with fail
          refine (HSF.out W3 (Below.refl _ _)).mono ?_
          rintro e W4 ⟨rfl, rfl⟩
          go_wp2_with fail
          refine (piece_was W4 _ wl ((H.out.row.below (HB0.out.trans (HB2.out.mono HB0.out.size))).more (Nat.le_trans HB0.out.size HB2.out.size)) k (by omega)).mono ?_
          rintro e W5 ⟨v5, rfl, ho5, hb5⟩
          have HO5 := Lib.hid ho5
          have HB5 := Lib.hid (HB2.out.trans (hb5.mono HB2.out.size))
          have HO15 := Lib.hid (((HO1.out.rbn.below HB2'.out).more HB2'.out.size).below hb5 |>.more hb5.size)
          clear ho5 hb5
          rw [HEQ.out] at HO15
          go_wp2_with fail
          refine (same_any _ _ _ _ W5 W5.heap.size HO15.out HO5.out.rbn).mono ?_
          rw [show sameB (piece wl (512 * k) (512 * k + 512)) (piece wl (512 * k) (512 * k + 512)) = true by simp [sameB]]
          rintro e W6 ⟨rfl, q, hw6⟩
          have HFIN : Hid (Below W0.heap.size W0 W6) := Lib.hid (by rw [hw6]; exact below_drewN HB5.out q)
          clear hw6
          go_wp2_with fail
          go_roundw
          case rel => exact ⟨k + 1, by omega, by omega, by go_num, HFIN⟩
          case measure => simp [intOf]; omega
        · have gl : decide (L ≤ x) = false := decide_eq_false hLx
          clear hLx
          go_wp2_with fail
          refine (HL.out W2 (Below.refl _ _)).mono ?_
          rintro e W3 ⟨rfl, rfl⟩
          go_wp2_with fail
          refine (HSF.out W3 (Below.refl _ _)).mono ?_
          rintro e W4 ⟨rfl, rfl⟩
          go_wp2_with fail
          go_roundw
          case rel => exact ⟨k + 1, by omega, by omega, by go_num, HB2⟩
          case measure => simp [intOf]; omega
    · obtain rfl : k = T := by omega
      go_wp2_with fail
      go_ret
      exact ⟨rfl, HB0.out.trans (HB.out.mono HB0.out.size)⟩
end Go.Proofs.YtbagmmncjmbboaaGreat

/-
  The walk of skeinlaw10.model, as far as that it answers a page.
-/
namespace Go.Proofs.YtbagmmncjmbboaaGreat
open Go.RowKit Go.Maps
set_option linter.unusedVariables false

theorem RowL.nil (w : World) : LenRow w (.slice none 0 0) [] [] := ⟨RK.nil _ _, rfl, fun j y l h => by simp at h⟩

theorem ret_pg1 {fn : Func} {q : Tmp} {a : Act} {w : World} {post : Ending → World → Prop} {b : Nat} {v0 v1 v2 v3 : Value} (hr : fn.results = #[.cell q 97]) (hp : a.tmps.getD q undef = .pointer (some ⟨b, 0, none⟩))
    (hB : Blk w b 97 #[v0, v1, v2, v3]) (hd : a.defers = []) (h : post (.returned (.agg #[v0, v1, v2, v3])) w) : bodyPost Tryz.prog fn post .ret a w := by
  refine bodyPost_ret (v := .agg #[v0, v1, v2, v3]) ?_ hd h
  have hp' : a.tmps[q]?.getD undef = .pointer (some ⟨b, 0, none⟩) := by simpa using hp
  have e0 : w.cell? ⟨b, 0, none⟩ = some v0 := hB.cell 0
  have e1 : w.cell? ⟨b, 1, none⟩ = some v1 := hB.cell 1
  have e2 : w.cell? ⟨b, 2, none⟩ = some v2 := hB.cell 2
  have e3 : w.cell? ⟨b, 3, none⟩ = some v3 := hB.cell 3
  simp only [results, hr]
  go_simp

/-- Two pages laid, the first of kind 1 and extra 5. -/
theorem two_pages15 (w : World) : ∃ W, W = (w.alloc (.cells #[.int .i64 0, .int .u8 1, .int .u32 5, .slice none 0 0] 97)).alloc (.cells #[.int .i64 0, .int .u8 0, .int .u32 0, .slice none 0 0] 97) ∧
    Blk W w.heap.size 97 #[.int .i64 0, .int .u8 1, .int .u32 5, .slice none 0 0] ∧ Blk W (w.heap.size + 1) 97 #[.int .i64 0, .int .u8 0, .int .u32 0, .slice none 0 0] ∧ Below w.heap.size w W := by
  have hb1 := (Blk.new w 97 #[.int .i64 0, .int .u8 1, .int .u32 5, .slice none 0 0]).alloc (.cells #[.int .i64 0, .int .u8 0, .int .u32 0, .slice none 0 0] 97)
  have hb2 := Blk.new (w.alloc (.cells #[.int .i64 0, .int .u8 1, .int .u32 5, .slice none 0 0] 97)) 97 #[.int .i64 0, .int .u8 0, .int .u32 0, .slice none 0 0]
  rw [size_alloc_] at hb2
  exact ⟨_, rfl, hb1, hb2, ((Below.refl _ w).alloc (Nat.le_refl _) _).alloc (by simp) _⟩

/-- The page that model begins with. -/
def pg15 : Value := .agg #[.int .i64 0, .int .u8 1, .int .u32 5, .slice none 0 0]

theorem room15 (w : World) : Calls Tryz.prog 113 #[pg15] w fun e w' => e = .returned (.int .i64 200) ∧ Below w.heap.size w w' := refRoom_row w (.slice none 0 0) [] [] 0 1 5 (RowL.nil w) (by simp)

/-- What Insert at the model's page gives: a page. -/
def Ref15 (w : World) (e : Ending) (w' : World) : Prop := ∃ A n c f, e = .returned (.tuple #[.agg #[.int .i64 0, .int .u8 1, .int .u32 5, .slice A n c], .int .i64 f]) ∧ Below w.heap.size w w'

set_option maxHeartbeats 400000 in
theorem refInsert15_long (w : World) (AI : Option Addr) (n cI : Nat) (h : 200 < n) : Calls Tryz.prog 90 #[pg15, .int .i64 0, .slice AI n cI] w (Ref15 w) := by
  unfold pg15
  go_enter Tryz.func90, Tryz.ntmps90
  go_wp2
  refine bodyPost_ret (v := .tuple #[.agg #[.int .i64 0, .int .u8 1, .int .u32 5, .slice none 0 0], .int .i64 4]) (by simp [results, Tryz.results90, go_sem]; try rfl) rfl ⟨none, 0, 0, 4, rfl, ?_⟩
  go_grown

set_option maxRecDepth 100000 in
set_option maxHeartbeats 1000000 in
theorem refInsert15_put (w : World) (AI : Option Addr) (n cI : Nat) (l : List Nat) (hv : RB w w.heap.size (.slice AI n cI) l) (hn : l.length = n) (h : n ≤ 200) : Calls Tryz.prog 90 #[pg15, .int .i64 0, .slice AI n cI] w (Ref15 w) := by
  have HV := Lib.hid hv
  unfold pg15
  obtain ⟨W0, hW0, hb1, hb2, hw0⟩ := two_pages15 w
  have HB1 := Lib.hid hb1
  have HB2 := Lib.hid hb2
  have HW0 := Lib.hid hw0
  have hnl : ¬ 200 < n := by omega
  have hnl2 : ¬ (200 : Int) < (n : Int) := by omega
  clear hv hn hb1 hb2 hw0
  go_enter Tryz.func90, Tryz.ntmps90
  go_wp2_with fail
  rw [← hW0]
  have hr := room15 W0
  unfold pg15 at hr
  refine hr.mono ?_
  rintro e w1 ⟨rfl, hb⟩
  have k1 := HB1.out.below hb HB1.out.lt
  have k2 := HB2.out.below hb HB2.out.lt
  have hw1 : Below w.heap.size w w1 := HW0.out.trans (hb.mono (Nat.le_trans (by omega) HW0.out.size))
  have hz := k2.lt
  have HK1 := Lib.hid k1
  have HK2 := Lib.hid k2
  have HW1 := Lib.hid hw1
  clear hr hb k1 k2 hw1 hW0
  go_wp2_with fail
  obtain ⟨bp, hbp⟩ : ∃ bp, bp = w.heap.size := ⟨_, rfl⟩
  have HBP := Lib.hid hbp
  rw [← hbp] at HK1 HK2 HW1 hz ⊢
  have hbz : bp < w1.heap.size := by omega
  have HE0 : Hid (OK encSl 1 22 (w1.alloc (.cells #[] 22)) (bp + 2) (.slice (some ⟨w1.heap.size, 0, none⟩) 0 0) []) := OK.ofBlk (Blk.new _ _ _) (by omega) rfl (by omega) (Nat.le_refl _) (by simp [maxLen]) rfl rfl
  have HA1 : Hid (Blk (w1.alloc (.cells #[] 22)) bp 97 #[.int .i64 0, .int .u8 1, .int .u32 5, .slice none 0 0]) := HK1.out.alloc _
  have HA2 : Hid (Blk (w1.alloc (.cells #[] 22)) (bp + 1) 97 #[.int .i64 0, .int .u8 0, .int .u32 0, .slice none 0 0]) := HK2.out.alloc _
  have HA3 : Hid (Below bp w (w1.alloc (.cells #[] 22))) := HW1.out.alloc (Nat.le_of_lt hbz) _
  clear hbp HK1 HK2 HW1
  go_loopw [8, 9] (fun x i wr => ∃ (k : Nat) (A : Option Addr) (c : Nat), k ≤ 1 ∧ i = .int .i64 k ∧ x = .slice A k c ∧ Hid (k = 0 → OK encSl 1 22 wr (bp + 2) (.slice A k c) []) ∧ Hid (Blk wr bp 97 #[.int .i64 0, .int .u8 1, .int .u32 5, .slice none 0 0]) ∧ Hid (Blk wr (bp + 1) 97 #[.int .i64 0, .int .u8 0, .int .u32 0, .slice none 0 0]) ∧ Hid (Below bp w wr)) (fun x i wr => 1 - (intOf i).toNat)
  case atStart => exact ⟨0, _, _, by omega, rfl, rfl, Lib.hid (fun _ => HE0.out), HA1, HA2, HA3⟩
  case round =>
    obtain ⟨k, A, c, hk, rfl, rfl, HO, H1, H2, H3⟩ := hrel
    have hbl := H1.out.lt
    have c3 : wr.cell? ⟨bp, 3, none⟩ = some (.slice none 0 0) := H1.out.cell 3
    by_cases hk0 : k = 0
    · subst hk0
      have HOK := Lib.hid (HO.out rfl)
      clear HO
      go_wp2_with (first
        | (go_at_call 80; refine (copy_any _ l _ ((by rw [HBP.out]; exact HV.out : RB w bp (.slice AI n cI) l).below H3.out |>.more (Nat.le_of_lt hbl))).mono ?_; rintro e2 w2 ⟨v2, rfl, ho2, hb2⟩; obtain ⟨A2, c2, rfl, _, _, _, _⟩ := ho2.rbn.open_; have HB2 := Lib.hid hb2; clear ho2 hb2)
        | (at_builtin; go_must (refine wpList_appE etSls encSl_len encSl_one (y := ((A2, l.length, c2) : Sl)) rfl (.tmp 41) (.tmp 44) rfl rfl ((HOK.out.below HB2.out).alloc _) w2.heap.size rfl (by intro j u hu; rw [(Blk.new w2 _ _).cell j]; simpa [encSl] using hu) (by simp) (by have := HB2.out.size; have := H2.out.lt; simp; omega) ?_); intro v3 w3 k1 k2 k3; obtain ⟨A3, c3', rfl, _, _, _, _⟩ := (k1.rk encSl_len (Nat.le_refl _)).open_; have hne1 : some bp ≠ (Value.slice A 0 c).ownBlock := fun e5 => by { have := (HOK.out.lt _ e5.symm).1; omega }; have hne2 : some (bp + 1) ≠ (Value.slice A 0 c).ownBlock := fun e5 => by { have := (HOK.out.lt _ e5.symm).1; omega }; have HN1 : Hid (Blk w3 bp 97 #[.int .i64 0, .int .u8 1, .int .u32 5, .slice none 0 0]) := ((H1.out.below HB2.out hbl).alloc _).grown k2 hne1; have HN2 : Hid (Blk w3 (bp + 1) 97 #[.int .i64 0, .int .u8 0, .int .u32 0, .slice none 0 0]) := ((H2.out.below HB2.out H2.out.lt).alloc _).grown k2 hne2; have HN3 : Hid (Below bp w w3) := ((H3.out.trans (HB2.out.mono (Nat.le_of_lt hbl))).alloc (by have := HB2.out.size; omega) _).grown k2 (by have := HB2.out.size; simp; omega) (fun q hq => by { have := (HOK.out.lt q hq).1; omega }); have c33 : w3.cell? ⟨bp, 3, none⟩ = some (.slice none 0 0) := HN1.out.cell 3; clear k1 k2 k3 hne1 hne2))
      go_roundw
      case rel => exact ⟨1, A3, c3', by omega, by go_num, rfl, Lib.hid (fun h => by omega), HN1, HN2, HN3⟩
      case measure => simp [intOf]
    · obtain rfl : k = 1 := by omega
      have c0 : wr.cell? ⟨bp, 0, none⟩ = some (.int .i64 0) := H1.out.cell 0
      have c1 : wr.cell? ⟨bp, 1, none⟩ = some (.int .u8 1) := H1.out.cell 1
      have c2 : wr.cell? ⟨bp, 2, none⟩ = some (.int .u32 5) := H1.out.cell 2
      have f3 := H1.out.frozen 3
      have d0 : wr.cell? ⟨bp + 1, 0, none⟩ = some (.int .i64 0) := H2.out.cell 0
      have d1 : wr.cell? ⟨bp + 1, 1, none⟩ = some (.int .u8 0) := H2.out.cell 1
      have d2 : wr.cell? ⟨bp + 1, 2, none⟩ = some (.int .u32 0) := H2.out.cell 2
      have d3 : wr.cell? ⟨bp + 1, 3, none⟩ = some (.slice none 0 0) := H2.out.cell 3
      have g0 := H2.out.frozen 0
      have g1 := H2.out.frozen 1
      have g2 := H2.out.frozen 2
      have g3 := H2.out.frozen 3
      go_wp2_with fail
      have h3 := H3.out.setCell (p := ⟨bp, 3, none⟩) (Nat.le_refl _) (.slice A 1 c)
      have hq := H2.out.far (p := ⟨bp, 3, none⟩) (by simp) (.slice A 1 c)
      obtain ⟨q1, q2⟩ := over_page' (x0 := .int .i64 0) (x1 := .int .u8 1) (x2 := .int .u32 5) (x3 := .slice A 1 c) h3 (q := bp + 1) (Nat.le_succ _) hq
      exact ret_pg8 Tryz.results90 rfl rfl q1 rfl ⟨A, 1, c, 0, rfl, by rw [← HBP.out]; exact q2⟩


set_option maxHeartbeats 1000000 in
theorem model_any (w : World) (iv : Value) (l : List Nat) (hv : RB w w.heap.size iv l) :
    Calls Tryz.prog 54 #[iv] w fun e w' => ∃ A n c, e = .returned (.agg #[.int .i64 0, .int .u8 1, .int .u32 5, .slice A n c]) ∧ Below w.heap.size w w' := by
  obtain ⟨AI, cI, rfl, _, _, _, _⟩ := hv.open_
  obtain ⟨n, hn⟩ : ∃ n, n = l.length := ⟨_, rfl⟩
  rw [← hn] at hv ⊢
  have HB0 : Hid (Below w.heap.size w (w.alloc (.cells #[.int .i64 0, .int .u8 0, .int .u32 0, .slice none 0 0] 97))) := Lib.hid ((Below.refl _ _).alloc (Nat.le_refl _) _)
  have HC : Hid (Calls Tryz.prog 90 #[pg15, .int .i64 0, .slice AI n cI] (w.alloc (.cells #[.int .i64 0, .int .u8 0, .int .u32 0, .slice none 0 0] 97)) (Ref15 (w.alloc (.cells #[.int .i64 0, .int .u8 0, .int .u32 0, .slice none 0 0] 97)))) := Lib.hid (by
    by_cases h : 200 < n
    · exact refInsert15_long _ AI n cI h
    · exact refInsert15_put _ AI n cI l ((hv.below HB0.out).more HB0.out.size) hn.symm (by omega))
  clear hv hn
  have HBK : Hid (Blk (w.alloc (.cells #[.int .i64 0, .int .u8 0, .int .u32 0, .slice none 0 0] 97)) w.heap.size 97 #[.int .i64 0, .int .u8 0, .int .u32 0, .slice none 0 0]) := Lib.hid (Blk.new _ _ _)
  unfold pg15 at HC
  go_enter Tryz.func54, Tryz.ntmps54
  go_wp2_with fail
  refine HC.out.mono ?_
  rintro e w1 ⟨A, n', c, f, rfl, hb⟩
  have hz := hb.size
  have hz0 : w.heap.size < w1.heap.size := by simp at hz; omega
  have HB2 := Lib.hid (HB0.out.trans (hb.mono HB0.out.size))
  have hbk := HBK.out.below hb (by simp)
  have k0 : w1.cell? ⟨w.heap.size, 0, none⟩ = some (.int .i64 0) := hbk.cell 0
  have k1 : w1.cell? ⟨w.heap.size, 1, none⟩ = some (.int .u8 0) := hbk.cell 1
  have k2 : w1.cell? ⟨w.heap.size, 2, none⟩ = some (.int .u32 0) := hbk.cell 2
  have k3 : w1.cell? ⟨w.heap.size, 3, none⟩ = some (.slice none 0 0) := hbk.cell 3
  have f0 := hbk.frozen 0
  have f1 := hbk.frozen 1
  have f2 := hbk.frozen 2
  have f3 := hbk.frozen 3
  have HBK2 := Lib.hid hbk
  clear hb hz hbk
  go_wp2_with fail
  obtain ⟨q1, q2⟩ := over_page (x0 := .int .i64 0) (x1 := .int .u8 1) (x2 := .int .u32 5) (x3 := .slice A n' c) HB2.out (Nat.le_refl _) HBK2.out
  exact ret_pg1 Tryz.results54 rfl (q1.alloc _) rfl ⟨A, n', c, rfl, q2.alloc (by have := q2.size; omega) _⟩
end Go.Proofs.YtbagmmncjmbboaaGreat

/-
  skeinref10's Put at a document's pool without pages; what asks leaves of a pool behind a Get.
-/
namespace Go.Proofs.YtbagmmncjmbboaaGreat
open Go.RowKit Go.Maps
set_option linter.unusedVariables false

set_option maxRecDepth 100000 in
set_option maxHeartbeats 1000000 in
theorem refPut_empty (w : World) (n : Int) (A : Option Addr) (m c : Nat) (lsn : Int) : Calls Tryz.prog 53 #[m0, .int .i64 n, .agg #[.int .i64 0, .int .u8 1, .int .u32 5, .slice A m c], .int .i64 lsn] w fun e w' => e = .returned (.tuple #[m0, .int .i64 1]) ∧ Below w.heap.size w w' := by
  have hr : ∀ wx, Calls Tryz.prog 48 #[m0, .int .i64 n] wx fun e w' => e = .returned (.int .i64 1) ∧ Below wx.heap.size wx w' := fun wx => refReach_empty wx n
  unfold m0 at hr ⊢
  go_enter Tryz.func53, Tryz.ntmps53
  go_wp2_with fail
  obtain ⟨W1, hW1⟩ : ∃ W1, W1 = ((w.alloc (.cells #[.slice none 0 0, .slice none 0 0, .int .i64 0] 35)).alloc (.cells #[.int .i64 0, .int .u8 1, .int .u32 5, .slice A m c] 97)).alloc (.cells #[.slice none 0 0, .slice none 0 0, .int .i64 0] 35) := ⟨_, rfl⟩
  rw [← hW1]
  have h2 : Blk W1 (w.heap.size + 2) 35 #[.slice none 0 0, .slice none 0 0, .int .i64 0] := by
    have := Blk.new ((w.alloc (.cells #[.slice none 0 0, .slice none 0 0, .int .i64 0] 35)).alloc (.cells #[.int .i64 0, .int .u8 1, .int .u32 5, .slice A m c] 97)) 35 #[.slice none 0 0, .slice none 0 0, .int .i64 0]
    rw [size_alloc_, size_alloc_] at this
    rw [hW1]
    exact this
  have h0 : Blk W1 w.heap.size 35 #[.slice none 0 0, .slice none 0 0, .int .i64 0] := by rw [hW1]; exact ((Blk.new w _ _).alloc _).alloc _
  have hb0 : Below w.heap.size w W1 := by rw [hW1]; exact (((Below.refl _ w).alloc (Nat.le_refl _) _).alloc (by simp) _).alloc (by simp; omega) _
  have H2 := Lib.hid h2
  have H0 := Lib.hid h0
  have HB0 := Lib.hid hb0
  clear h2 h0 hb0 hW1
  refine (hr W1).mono ?_
  rintro e W2 ⟨rfl, hb1⟩
  have hk0 := H0.out.below hb1 H0.out.lt
  have hk2 := H2.out.below hb1 H2.out.lt
  have c0 : W2.cell? ⟨w.heap.size, 0, none⟩ = some (.slice none 0 0) := hk0.cell 0
  have c1 : W2.cell? ⟨w.heap.size, 1, none⟩ = some (.slice none 0 0) := hk0.cell 1
  have c2 : W2.cell? ⟨w.heap.size, 2, none⟩ = some (.int .i64 0) := hk0.cell 2
  have d0 : W2.cell? ⟨w.heap.size + 2, 0, none⟩ = some (.slice none 0 0) := hk2.cell 0
  have d1 : W2.cell? ⟨w.heap.size + 2, 1, none⟩ = some (.slice none 0 0) := hk2.cell 1
  have d2 : W2.cell? ⟨w.heap.size + 2, 2, none⟩ = some (.int .i64 0) := hk2.cell 2
  have f0 := hk2.frozen 0
  have f1 := hk2.frozen 1
  have f2 := hk2.frozen 2
  have HK2 := Lib.hid hk2
  have HB1 := Lib.hid (HB0.out.trans (hb1.mono HB0.out.size))
  clear hk0 hk2 hb1 hr
  go_wp2_with fail
  refine ret_pool Tryz.results53 rfl rfl (b := w.heap.size + 2) (v0 := .slice none 0 0) (v1 := .slice none 0 0) (v2 := .int .i64 0) ?_ rfl ⟨rfl, ?_⟩
  · exact ((HK2.out.set_ 0 _).set_ 1 _).set_ 2 _
  · exact ((HB1.out.setCell (p := ⟨w.heap.size + 2, 0, none⟩) (by dsimp only; omega) _).setCell (p := ⟨w.heap.size + 2, 1, none⟩) (by dsimp only; omega) _).setCell (p := ⟨w.heap.size + 2, 2, none⟩) (by dsimp only; omega) _
end Go.Proofs.YtbagmmncjmbboaaGreat

/-
  skeinlaw10.asks at a document's pool without pages, where a step may be refused: Get, Flush, kinds that do nothing.
-/
namespace Go.Proofs.YtbagmmncjmbboaaGreat
open Go.RowKit Go.Maps
set_option linter.unusedVariables false

theorem behind_none {w W : World} {I : PI} {Q : Nat → Prop} {c : CP} {X : Nat} {q : Int} {was : Nat → List Nat} (h : Live w I Q c X q was) (hb : Below w.heap.size w W) : Behind w W I Q c c was :=
  ⟨h.at_.below hb, h.late, Mod.of_below hb _, by omega, by omega, rfl, rfl, rfl, rfl, by omega⟩

theorem AskB.three {w W : World} {kd n : Int} {v2 v3 : Value} (h : AskB w W kd n v2 v3) : W.cell? ⟨w.heap.size, 0, none⟩ = some (.slice none 0 0) ∧ W.cell? ⟨w.heap.size, 1, none⟩ = some (.slice none 0 0) ∧ W.cell? ⟨w.heap.size, 2, none⟩ = some (.int .i64 0) := ⟨h.m.cell 0, h.m.cell 1, h.m.cell 2⟩

theorem AskB.threeE {w W : World} {kd n : Int} {v2 v3 : Value} (h : AskB w W kd n v2 v3) : (((W.setCell ⟨w.heap.size + 2, 0, none⟩ (.slice none 0 0)).setCell ⟨w.heap.size + 2, 1, none⟩ (.slice none 0 0)).setCell ⟨w.heap.size + 2, 2, none⟩ (.int .i64 0)).cell? ⟨w.heap.size, 0, none⟩ = some (.slice none 0 0) ∧ (((W.setCell ⟨w.heap.size + 2, 0, none⟩ (.slice none 0 0)).setCell ⟨w.heap.size + 2, 1, none⟩ (.slice none 0 0)).setCell ⟨w.heap.size + 2, 2, none⟩ (.int .i64 0)).cell? ⟨w.heap.size, 1, none⟩ = some (.slice none 0 0) ∧ (((W.setCell ⟨w.heap.size + 2, 0, none⟩ (.slice none 0 0)).setCell ⟨w.heap.size + 2, 1, none⟩ (.slice none 0 0)).setCell ⟨w.heap.size + 2, 2, none⟩ (.int .i64 0)).cell? ⟨w.heap.size, 2, none⟩ = some (.int .i64 0) := by
  have h1 := h.m.mod (endMod w W) (by omega)
  exact ⟨h1.cell 0, h1.cell 1, h1.cell 2⟩

section

variable {w : World} {I : PI} {Q : Nat → Prop} {c : CP} {X : Nat} {q : Int} {was : Nat → List Nat}


set_option maxRecDepth 100000 in
set_option maxHeartbeats 4000000 in
theorem asks1 (h : Live w I Q c X q was) (n : Int) (hn64 : I64 n) (v2 v3 : Value) (hst : c.s.steps < 900000000000000) (htn : c.o.turn < 900000000000000) :
    Calls Tryz.prog 14 #[.pointer (some ⟨I.g, 0, none⟩), .pointer (some ⟨I.q, 0, none⟩), m0, .agg #[.int .i64 1, .int .i64 n, v2, v3]] w (AskE w I Q c X q was) := by
  have hrr := fun wx => refReach_empty wx n
  have hrp := fun wx => refPin_empty wx n
  have hru := fun wx => refUnpin_empty wx n
  unfold m0 at hrp hru hrr ⊢
  have HRR := Lib.hid hrr
  have HRP := Lib.hid hrp
  have HRU := Lib.hid hru
  have HAW := Lib.hid (askW_start w 1 n v2 v3)
  have HLV := Lib.hid h
  have HNN := Lib.hid hn64
  have HST := Lib.hid (And.intro hst htn)
  clear h hn64 hst htn hrp hru hrr
  go_enter Tryz.func14, Tryz.ntmps14
  go_wp2_with fail
  obtain ⟨W1, hW1⟩ : ∃ W1, W1 = ((w.alloc (.cells #[.slice none 0 0, .slice none 0 0, .int .i64 0] 35)).alloc (.cells #[.int .i64 1, .int .i64 n, v2, v3] 43)).alloc (.cells #[.slice none 0 0, .slice none 0 0, .int .i64 0] 35) := ⟨_, rfl⟩
  rw [← hW1] at HAW ⊢
  clear hW1
  have HL1 := Lib.hid (HLV.out.guard HAW.out.bel HAW.out.size)
  have HB1 := Lib.hid HAW.out.b
  refine (Get_live HL1.out n HNN.out HST.out.1 HST.out.2).mono ?_
  rintro e W2 ⟨k, c', hb, ⟨rfl, hf, hkept, -, N, pg, p', v', xs', -, -, -, rfl, -⟩ | ⟨hk0, hmiss, rfl⟩⟩
  · have HBH := Lib.hid hb
    have HOR : Hid (AskR c c' X q) := Lib.hid (.inl ⟨hf, hkept.look, by rw [hkept.log.1]⟩)
    have HB2 := Lib.hid (HB1.out.turn hb.mod HLV.out.at_)
    clear hb hf hkept
    obtain ⟨am0, am1, am2, ao0, ao1, ao2, ao3, ar0, ar1, ar2, af0, af1, af2⟩ := HB2.out.c
    go_wp2_with fail
    refine (HRR.out W2).mono ?_
    rintro e W3 ⟨rfl, hb3⟩
    have HB3 := Lib.hid (HB2.out.below hb3)
    have HBH3 := Lib.hid (behind_below HBH.out hb3)
    have HBH := HBH3
    clear hb3 am0 am1 am2 ao0 ao1 ao2 ao3 ar0 ar1 ar2 af0 af1 af2
    obtain ⟨bm0, bm1, bm2, bo0, bo1, bo2, bo3, br0, br1, br2, bf0, bf1, bf2⟩ := HB3.out.c
    go_wp2_with fail
    exact ret_pool Tryz.results14 rfl rfl (b := w.heap.size + 2) (v0 := .slice none 0 0) (v1 := .slice none 0 0) (v2 := .int .i64 0) HB3.out.end_ rfl ⟨_, _, rfl, askE_of HLV.out HAW.out HBH.out HOR.out (endMod w _), HOR.out⟩
  · have HBH := Lib.hid hb
    have HOR : Hid (AskR c c' X q) := Lib.hid (hmiss.askR HLV.out.fine)
    have HB2 := Lib.hid (HB1.out.turn hb.mod HLV.out.at_)
    clear hb hmiss
    obtain ⟨am0, am1, am2, ao0, ao1, ao2, ao3, ar0, ar1, ar2, af0, af1, af2⟩ := HB2.out.c
    by_cases hk1 : k = 1
    · subst hk1
      go_wp2_with fail
      refine (HRR.out W2).mono ?_
      rintro e W3 ⟨rfl, hb3⟩
      have HB3 := Lib.hid (HB2.out.below hb3)
      have HBH3 := Lib.hid (behind_below HBH.out hb3)
      have HBH := HBH3
      clear hb3 am0 am1 am2 ao0 ao1 ao2 ao3 ar0 ar1 ar2 af0 af1 af2
      obtain ⟨bm0, bm1, bm2, bo0, bo1, bo2, bo3, br0, br1, br2, bf0, bf1, bf2⟩ := HB3.out.c
      go_wp2_with fail
      exact ret_pool Tryz.results14 rfl rfl (b := w.heap.size + 2) (v0 := .slice none 0 0) (v1 := .slice none 0 0) (v2 := .int .i64 0) HB3.out.end_ rfl ⟨_, _, rfl, askE_of HLV.out HAW.out HBH.out HOR.out (endMod w _), HOR.out⟩
  
    · have gk : (k == 1) = false := by simpa using hk1
      have gk2 : (k != 1) = true := by simpa using hk1
      clear hk1
      go_wp2_with fail
      refine (HRR.out W2).mono ?_
      rintro e W3 ⟨rfl, hb3⟩
      have HB3 := Lib.hid (HB2.out.below hb3)
      have HBH3 := Lib.hid (behind_below HBH.out hb3)
      have HBH := HBH3
      clear hb3 am0 am1 am2 ao0 ao1 ao2 ao3 ar0 ar1 ar2 af0 af1 af2
      obtain ⟨bm0, bm1, bm2, bo0, bo1, bo2, bo3, br0, br1, br2, bf0, bf1, bf2⟩ := HB3.out.c
      go_wp2_with fail
      exact ret_pool Tryz.results14 rfl rfl (b := w.heap.size + 2) (v0 := .slice none 0 0) (v1 := .slice none 0 0) (v2 := .int .i64 0) HB3.out.end_ rfl ⟨_, _, rfl, askE_of HLV.out HAW.out HBH.out HOR.out (endMod w _), HOR.out⟩
  


set_option maxRecDepth 100000 in
set_option maxHeartbeats 4000000 in
theorem asks0 (h : Live w I Q c X q was) (kd : Int) (hkd : ¬ (1 ≤ kd ∧ kd ≤ 6)) (n : Int) (hn64 : I64 n) (v2 v3 : Value) (hst : c.s.steps < 900000000000000) (htn : c.o.turn < 900000000000000) :
    Calls Tryz.prog 14 #[.pointer (some ⟨I.g, 0, none⟩), .pointer (some ⟨I.q, 0, none⟩), m0, .agg #[.int .i64 kd, .int .i64 n, v2, v3]] w (AskE w I Q c X q was) := by
  have hrp := fun wx => refPin_empty wx n
  have hru := fun wx => refUnpin_empty wx n
  unfold m0 at hrp hru ⊢
  have HRP := Lib.hid hrp
  have HRU := Lib.hid hru
  have HAW := Lib.hid (askW_start w kd n v2 v3)
  have HLV := Lib.hid h
  have HNN := Lib.hid hn64
  have HST := Lib.hid (And.intro hst htn)
  clear h hn64 hst htn hrp hru
  have k1 : (kd == 1) = false := by simp; omega
  have k2 : (kd == 2) = false := by simp; omega
  have k3 : (kd == 3) = false := by simp; omega
  have k4 : (kd == 4) = false := by simp; omega
  have k5 : (kd == 5) = false := by simp; omega
  have k6 : (kd == 6) = false := by simp; omega
  clear hkd
  go_enter Tryz.func14, Tryz.ntmps14
  go_wp2_with fail
  obtain ⟨W1, hW1⟩ : ∃ W1, W1 = ((w.alloc (.cells #[.slice none 0 0, .slice none 0 0, .int .i64 0] 35)).alloc (.cells #[.int .i64 kd, .int .i64 n, v2, v3] 43)).alloc (.cells #[.slice none 0 0, .slice none 0 0, .int .i64 0] 35) := ⟨_, rfl⟩
  rw [← hW1] at HAW ⊢
  clear hW1
  have HL1 := Lib.hid (HLV.out.guard HAW.out.bel HAW.out.size)
  have HB1 := Lib.hid HAW.out.b
  exact ret_pool Tryz.results14 rfl rfl (b := w.heap.size + 2) (v0 := .slice none 0 0) (v1 := .slice none 0 0) (v2 := .int .i64 0) HAW.out.r rfl ⟨_, c, rfl, behind_none HLV.out HAW.out.bel, .inl ⟨HLV.out.fine, fun _ _ => rfl, rfl⟩⟩


set_option maxRecDepth 100000 in
set_option maxHeartbeats 4000000 in
theorem asks5f (h : Live w I Q c X q was) (n : Int) (hn64 : I64 n) (v2 v3 : Value) (hst : c.s.steps < 900000000000000) (htn : c.o.turn < 900000000000000) :
    Calls Tryz.prog 14 #[.pointer (some ⟨I.g, 0, none⟩), .pointer (some ⟨I.q, 0, none⟩), m0, .agg #[.int .i64 5, .int .i64 n, v2, v3]] w (AskE w I Q c X q was) := by
  have hrp := fun wx => refPin_empty wx n
  have hru := fun wx => refUnpin_empty wx n
  unfold m0 at hrp hru ⊢
  have HRP := Lib.hid hrp
  have HRU := Lib.hid hru
  have HAW := Lib.hid (askW_start w 5 n v2 v3)
  have HLV := Lib.hid h
  have HNN := Lib.hid hn64
  have HST := Lib.hid (And.intro hst htn)
  clear h hn64 hst htn hrp hru
  go_enter Tryz.func14, Tryz.ntmps14
  go_wp2_with fail
  obtain ⟨W1, hW1⟩ : ∃ W1, W1 = ((w.alloc (.cells #[.slice none 0 0, .slice none 0 0, .int .i64 0] 35)).alloc (.cells #[.int .i64 5, .int .i64 n, v2, v3] 43)).alloc (.cells #[.slice none 0 0, .slice none 0 0, .int .i64 0] 35) := ⟨_, rfl⟩
  rw [← hW1] at HAW ⊢
  clear hW1
  have HL1 := Lib.hid (HLV.out.guard HAW.out.bel HAW.out.size)
  have HB1 := Lib.hid HAW.out.b
  have HBD : Hid (AskB w W1.drew 5 n v2 v3) := Lib.hid (HB1.out.below (Below.refl _ W1).drew)
  have HLD := Lib.hid (HL1.out.below (Below.refl _ W1).drew)
  obtain ⟨am0, am1, am2, ao0, ao1, ao2, ao3, ar0, ar1, ar2, af0, af1, af2⟩ := HB1.out.c
  obtain ⟨dm0, dm1, dm2, do0, do1, do2, do3, dr0, dr1, dr2, df0, df1, df2⟩ := HBD.out.c
  go_wp2_with fail
  have HFD := Lib.hid (HLV.out.fine.flush HLV.out.sh)
  have HOR : Hid (AskR c c.flush.1 X q) := Lib.hid (by
    rcases HFD.out with ⟨-, hf, hk, -⟩ | ⟨-, h1, h2⟩
    · exact .inl ⟨hf, hk.look, by rw [hk.log.1]⟩
    · exact .inr ⟨h1, h2⟩)
  have HE0 : Hid (c.flush.2 = 0 → dirtyL c.flush.1.fs (numsOf c.flush.1.fs) = []) := Lib.hid (fun h0 => by
    rcases HFD.out with ⟨-, -, -, hd, -⟩ | ⟨h1, -⟩
    · rw [List.eq_nil_iff_forall_not_mem]
      rintro ⟨a, d⟩ hx
      have := mem_dirtyL.1 hx
      rw [hd a] at this
      cases this
    · exact absurd h0 h1)
  obtain ⟨k, hk⟩ : ∃ k, k = c.flush.2 := ⟨_, rfl⟩
  have HFL := Lib.hid (Flush_live2 HLD.out HST.out.1)
  rw [← hk] at HFL HE0
  clear hk HFD
  by_cases hk0 : k = 0
  · have gk : (k == 0) = true := by rw [hk0]; rfl
    have HEE := Lib.hid (HE0.out hk0)
    clear hk0 HE0
    go_region_with (first | (go_at_call 25; refine HFL.out.mono ?_; rintro e W2 ⟨rfl, hb⟩; have HBH := Lib.hid (behind_drew hb); have HB2 := (Lib.hid (HBD.out.turn hb.mod HLV.out.at_)); clear hb; obtain ⟨bm0, bm1, bm2, bo0, bo1, bo2, bo3, br0, br1, br2, bf0, bf1, bf2⟩ := HB2.out.c) | (go_at_call 26; refine (Dirty_pool HBH.out.at_).mono ?_; rintro e W3 ⟨v3, rfl, ho3, hb3⟩; rw [HEE.out] at ho3; obtain ⟨A3, c3, rfl, -, -, -, -⟩ := (ho3.rk encDr_len (Nat.le_refl _)).open_; have HBH3 := Lib.hid (behind_below HBH.out hb3); have HBH := HBH3; have HB3 := Lib.hid (HB2.out.below hb3); have HB2 := HB3; clear ho3 hb3; obtain ⟨em0, em1, em2, eo0, eo1, eo2, eo3, er0, er1, er2, ef0, ef1, ef2⟩ := HB2.out.c))
    all_goals go_wp2_with fail
    all_goals exact ret_pool Tryz.results14 rfl rfl (b := w.heap.size + 2) (v0 := .slice none 0 0) (v1 := .slice none 0 0) (v2 := .int .i64 0) HB2.out.end_ rfl ⟨_, _, rfl, askE_of HLV.out HAW.out HBH.out HOR.out (endMod w _), HOR.out⟩
  · have gk : (k == 0) = false := by simpa using hk0
    have HA0 := Lib.hid HB1.out.three
    have HAD := Lib.hid HBD.out.three
    clear hk0 HE0
    first
      | (go_region_held (fun wx => wx.cell? ⟨w.heap.size, 0, none⟩ = some (.slice none 0 0) ∧ wx.cell? ⟨w.heap.size, 1, none⟩ = some (.slice none 0 0) ∧ wx.cell? ⟨w.heap.size, 2, none⟩ = some (.int .i64 0)) (first | with_reducible exact HA2.out | with_reducible exact HA1.out | with_reducible exact HAD.out | with_reducible exact HA0.out | fail)
        ((go_at_call 25; refine HFL.out.mono ?_; rintro e W2 ⟨rfl, hb⟩; have HBH := Lib.hid (behind_drew hb); have HB2 := (Lib.hid (HBD.out.turn hb.mod HLV.out.at_)); have HA1 := Lib.hid HB2.out.three; have HA2 := Lib.hid HB2.out.threeE; clear hb; obtain ⟨bm0, bm1, bm2, bo0, bo1, bo2, bo3, br0, br1, br2, bf0, bf1, bf2⟩ := HB2.out.c)))
      | fail
    all_goals (
      go_wp2_with fail
      exact ret_pool Tryz.results14 rfl rfl (b := w.heap.size + 2) (v0 := .slice none 0 0) (v1 := .slice none 0 0) (v2 := .int .i64 0) HB2.out.end_ rfl ⟨_, _, rfl, askE_of HLV.out HAW.out HBH.out HOR.out (endMod w _), HOR.out⟩)

end
end Go.Proofs.YtbagmmncjmbboaaGreat
