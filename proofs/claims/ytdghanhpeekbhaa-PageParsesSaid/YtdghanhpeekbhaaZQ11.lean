/-
  The walk of skeinref08's Bytes: the page written, where the items can be read.
-/
import Derived.Test.YtdghanhpeekbhaaZQ8
import Derived.Test.YtdghanhpeekbhaaZQ9
import Derived.Test.YtdghanhpeekbhaaZSP
namespace Go.Proofs.Ytdghanhpeekbhaa
open Go.RowKit Go.Maps
set_option linter.unusedVariables false

/-- A row of texts that can be read. -/
structure RowR (w : World) (v : Value) (L : List (List Nat)) (ys : List Sl) : Prop where
  rk : RK encSl 1 w w.heap.size v ys
  len : ys.length = L.length
  at_ : ∀ (j : Nat) y l, ys[j]? = some y → L[j]? = some l → RB w w.heap.size (slV y) l
theorem RowR.below {w w1 : World} {v : Value} {L : List (List Nat)} {ys : List Sl} (h : RowR w v L ys) (hb : Below w.heap.size w w1) : RowR w1 v L ys :=
  ⟨(h.rk.below hb).more hb.size, h.len, fun j y l h1 h2 => ((h.at_ j y l h1 h2).below hb).more hb.size⟩
theorem NewTxt.rowR {w : World} {B : Nat} {v : Value} {L : List (List Nat)} {ys : List Sl} (h : NewTxt w B v L ys) : RowR w v L ys :=
  ⟨h.ok.rk encSl_len (Nat.le_refl _), h.len, fun j y l h1 h2 => (h.at_ j y l h1 h2).rbn⟩
theorem RowR.lenRow {w : World} {v : Value} {L : List (List Nat)} {ys : List Sl} (h : RowR w v L ys) : LenRow w v L ys :=
  ⟨h.rk, h.len, fun j y l h1 h2 => by
    obtain ⟨A, c, e, -⟩ := (h.at_ j y l h1 h2).open_
    injection e⟩
theorem RowR.open_ {w : World} {v : Value} {L : List (List Nat)} {ys : List Sl} (h : RowR w v L ys) : ∃ A c, v = .slice A L.length c ∧ Hid (∀ i (hi : i < L.length), ∃ b o, A = some ⟨b, o, none⟩ ∧ b < w.heap.size ∧ ∃ x : Sl, w.cell? ⟨b, o + i, none⟩ = some (slV x) ∧ RB w w.heap.size (slV x) L[i]) := by
  obtain ⟨A, c, e, _, _, _, HA⟩ := h.rk.open_
  refine ⟨A, c, by rw [e, h.len], Lib.hid fun i hi => ?_⟩
  have hiy : i < ys.length := by rw [h.len]; exact hi
  obtain ⟨b, o, e1, hb, hc⟩ := HA.out i hiy
  have := hc 0 (slV ys[i]) (by simp [encSl, slV])
  refine ⟨b, o, e1, hb, ys[i], by simpa using this, h.at_ i ys[i] L[i] (List.getElem?_eq_getElem hiy) (List.getElem?_eq_getElem hi)⟩

theorem wpList_app1g {w w0 : World} {ops : Array Oper} {rest : List Oper} {o : Oper} {a : Act} {Q : Exit → Act → World → Prop} (hgd : o.guard = none) (s x : Operand)
    (ho : o.op = .call { callee := .builtin .append, args := #[s, x], argTypes := #[22, 22] })
    (B : Nat) (v : Value) (pre : List Nat) (hs : a.eval s = v) (hown : OB w B v pre) (hbel : Below B w0 w) (hB : B ≤ w0.heap.size)
    (i : Int) (y : Nat) (hi : i = (y : Int)) (hy : y < 256) (hx : a.eval x = .slice (some ⟨w.heap.size, 0, none⟩) 1 1) (hlen : pre.length + 1 ≤ 140737488355328)
    (h : ∀ v' w', OB w' B v' (pre ++ [y]) → Below B w0 w' → (w.alloc (.cells #[.int .u8 i] 5)).grownBy w' v.ownBlock → (∀ b, v'.ownBlock = some b → v.ownBlock = some b ∨ w.heap.size ≤ b) → wpList Try.prog ops Q rest (a.put o.dst v') w') :
    wpList Try.prog ops Q (o :: rest) a (w.alloc (.cells #[.int .u8 i] 5)) := by
  have hsz := hbel.size
  refine wpList_app hgd s x ho B v pre hs (hown.alloc _) (w.heap.size + 1) _ [y] hx (RB.new1 w _ i y 5 hi hy (by omega)) (by simp; omega) (by simpa using hlen) ?_
  intro v' w' h1 h2 h3
  refine h v' w' h1 ((hbel.alloc (by omega) _).grown h2 (by simp; omega) (fun k hk => (hown.lt k hk).1)) h2 (fun b hb => ?_)
  rcases h3 with e | ⟨e, -⟩
  · exact .inl (by rw [← e]; exact hb)
  · rw [e] at hb; injection hb with hb; simp at hb; exact .inr (by omega)

/-- The world within Bytes: new memory alone, and the page in its box. -/
structure RBx (w : World) (W0 w7 : World) (bx ls kd ex : Nat) (A : Option Addr) (n c : Nat) : Prop where
  bel : Below w.heap.size w w7
  old : Below W0.heap.size W0 w7
  box : Blk w7 bx 32 #[.int .i64 (ls : Int), .int .u8 (kd : Int), .int .u32 (ex : Int), .slice A n c]
theorem RBx.below {w W0 w7 w8 : World} {bx ls kd ex : Nat} {A : Option Addr} {n c : Nat} (h : RBx w W0 w7 bx ls kd ex A n c) (hb : Below w7.heap.size w7 w8) : RBx w W0 w8 bx ls kd ex A n c :=
  ⟨h.bel.trans (hb.mono h.bel.size), h.old.trans (hb.mono h.old.size), h.box.below hb h.box.lt⟩
theorem RBx.start {w w7 : World} {W0 : World} {bx ls kd ex : Nat} {A : Option Addr} {n c : Nat} (h : RBx w W0 w7 bx ls kd ex A n c) : RBx w w7 w7 bx ls kd ex A n c := ⟨h.bel, Below.refl _ _, h.box⟩

/-- What the steps of the first drawn region leave in their slots. -/
def SB1 (B bx : Nat) (a b : Nat) (l l2 : List Nat) (A : Option Addr) (n c : Nat) (q : Nat) (v : Value) (w : World) : Prop := match q with
  | 0 => v = .pointer (some ⟨bx, 0, none⟩)
  | 1 => v = .int .i64 (a : Int)
  | 2 => v = .int .u64 (a : Int)
  | 3 => OB w B v (digits a 8)
  | 4 => v = .pointer (some ⟨bx, 1, none⟩)
  | 5 => v = .int .u8 (b : Int)
  | 6 => RB w w.heap.size v [b]
  | 7 => OB w B v (digits a 8 ++ [b])
  | 8 => OB w B v (digits a 8 ++ [b])
  | _ => True
theorem sb1_below {B bx : Nat} {a b : Nat} {l l2 : List Nat} {A : Option Addr} {n c : Nat} (q : Nat) (x : Value) (w w1 : World) (h : SB1 B bx a b l l2 A n c q x w) (hb : Below w.heap.size w w1) : SB1 B bx a b l l2 A n c q x w1 :=
  match q, h with
  | 0, h => h
  | 1, h => h
  | 2, h => h
  | 3, h => OB.below h hb
  | 4, h => h
  | 5, h => h
  | 6, h => (RB.below h hb).more hb.size
  | 7, h => OB.below h hb
  | 8, h => OB.below h hb
  | _ + 9, _ => trivial

/-- .. of the second. -/
def SB2 (B bx : Nat) (a b : Nat) (l l2 : List Nat) (A : Option Addr) (n c : Nat) (q : Nat) (v : Value) (w : World) : Prop := match q with
  | 0 => OB w B v l
  | 1 => v = .pointer (some ⟨bx, 2, none⟩)
  | 2 => v = .int .u32 (a : Int)
  | 3 => v = .int .u64 (a : Int)
  | 4 => OB w B v (digits a 4)
  | 5 => OB w B v (l ++ digits a 4)
  | 6 => v = .pointer (some ⟨bx, 3, none⟩)
  | 7 => v = .slice A n c
  | 8 => v = .int .i64 (n : Int)
  | 9 => v = .int .u8 (n : Int)
  | 10 => RB w w.heap.size v [n]
  | 11 => OB w B v (l ++ digits a 4 ++ [n])
  | 12 => OB w B v (l ++ digits a 4 ++ [n])
  | _ => True
theorem sb2_below {B bx : Nat} {a b : Nat} {l l2 : List Nat} {A : Option Addr} {n c : Nat} (q : Nat) (x : Value) (w w1 : World) (h : SB2 B bx a b l l2 A n c q x w) (hb : Below w.heap.size w w1) : SB2 B bx a b l l2 A n c q x w1 :=
  match q, h with
  | 0, h => OB.below h hb
  | 1, h => h
  | 2, h => h
  | 3, h => h
  | 4, h => OB.below h hb
  | 5, h => OB.below h hb
  | 6, h => h
  | 7, h => h
  | 8, h => h
  | 9, h => h
  | 10, h => (RB.below h hb).more hb.size
  | 11, h => OB.below h hb
  | 12, h => OB.below h hb
  | _ + 13, _ => trivial

set_option maxRecDepth 100000 in
set_option maxHeartbeats 4000000 in
theorem refBytes_any (w : World) (v : Value) (m : PG) (ys : List Sl) (ls : Nat) (h : RowR w v m.items ys) (hm : m.Ok) (hf : m.Fit) (hls : m.lsn = (ls : Int)) :
    Calls Try.prog 36 #[refPg ls m.kind m.extra v] w fun e w1 => ∃ v1, e = .returned v1 ∧ OB w1 w.heap.size v1 (pageL m) ∧ Below w.heap.size w w1 := by
  obtain ⟨A, c, rfl, HA⟩ := h.open_
  obtain ⟨n, hn⟩ : ∃ n, n = m.items.length := ⟨_, rfl⟩
  obtain ⟨kd, hkd⟩ : ∃ kd, kd = m.kind := ⟨_, rfl⟩
  obtain ⟨ex, hex⟩ : ∃ ex, ex = m.extra := ⟨_, rfl⟩
  have hk256 : kd < 256 := by rw [hkd]; exact hm.kind
  have hx32 : ex < 4294967296 := by rw [hex]; exact hm.extra
  have hl63 : ls ≤ 9223372036854775807 := by have := hm.lsn; rw [hls] at this; omega
  have hn100 : n ≤ 100 := by rw [hn]; exact hm.num
  rw [← hn, ← hkd, ← hex]
  unfold refPg
  have HN := Lib.hid hn
  have HKD := Lib.hid hkd
  have HEX := Lib.hid hex
  have HLS := Lib.hid hls
  have HM := Lib.hid hm
  have HF := Lib.hid hf
  have HROW : Hid (RowR w (.slice A n c) m.items ys) := Lib.hid (by rw [hn]; exact h)
  obtain ⟨W0, hW0⟩ : ∃ W0, W0 = w.alloc (.cells #[.int .i64 (ls : Int), .int .u8 (kd : Int), .int .u32 (ex : Int), .slice A n c] 32) := ⟨_, rfl⟩
  have HX0 : Hid (RBx w W0 W0 w.heap.size ls kd ex A n c) := Lib.hid ⟨by rw [hW0]; exact (Below.refl _ _).alloc (Nat.le_refl _) _, Below.refl _ _, by rw [hW0]; exact Blk.new _ _ _⟩
  have HW0 := Lib.hid hW0
  clear hn hkd hex hls hm hf h hW0
  go_enter Try.func36, Try.ntmps36
  go_wp2_with fail
  rw [← HW0.out]
  rename_i K hK
  refine wp_region_slots (SB1 w.heap.size w.heap.size ls kd [] [] none 0 0) (fun _ w7 => RBx w W0 w7 w.heap.size ls kd ex A n c) (by kernel_rfl) (by kernel_rfl) (by kernel_rfl) (HX0.out.below (Below.refl _ _).drew) ?_ ?_
  · intro L a w7 q o1 h ho h0 hd
    have hlow : RBx w W0 w7 w.heap.size ls kd ex A n c := h.world
    revert L a w7
    revert q o1
    refine each_array ?_
    refine ⟨?_, ?_, ?_, ?_, ?_, ?_, ?_, ?_, ?_, trivial⟩ <;> intro L a w7 h h0 hd hlow
    · exact h.val rfl rfl (ro_field_rp0 w7 (h.still 1 (by kernel_rfl))) hlow rfl
    · exact h.val rfl rfl (ro_load_i64 w7 (h.ran 0 _ 7 rfl rfl (hd ⟨0, .data⟩ (by simp) rfl)) (hlow.box.cell 0)) hlow rfl
    · exact h.val rfl rfl (ro_conv_i64u64 w7 (by omega) (h.ran 1 _ 8 rfl rfl (hd ⟨1, .data⟩ (by simp) rfl))) hlow rfl
    · refine h.call rfl rfl (ro_call2c cf_low w7 (h.ran 2 _ 9 rfl rfl (hd ⟨2, .data⟩ (by simp) rfl))) ((refLow_any w7 ls 8 (by omega) (by omega)).mono ?_)
      rintro r w8 ⟨v8, rfl, ho8, hb8⟩
      exact ⟨_, rfl, fun k u _ hs => sb1_below k u w7 w8 hs hb8, hlow.below hb8, ho8.base hlow.bel.size⟩
    · exact h.val rfl rfl (ro_field_rp1 w7 (h.still 1 (by kernel_rfl))) hlow rfl
    · exact h.val rfl rfl (ro_load_u8 w7 (h.ran 4 _ 11 rfl rfl (hd ⟨4, .data⟩ (by simp) rfl)) (hlow.box.cell 1)) hlow rfl
    · exact h.mem rfl rfl (ro_build_u8 w7 (h.ran 5 _ 12 rfl rfl (hd ⟨5, .data⟩ (by simp) rfl))) (fun k u _ hs => sb1_below k u w7 _ hs ((Below.refl _ _).alloc (Nat.le_refl _) _)) (hlow.below ((Below.refl _ _).alloc (Nat.le_refl _) _)) (RB.new1 w7 _ _ kd _ rfl (by omega) (by simp))
    · have r1 := (h.ran 3 _ 10 rfl rfl (hd ⟨3, .data⟩ (by simp) rfl))
      have r2 := (h.ran 6 _ 13 rfl rfl (hd ⟨6, .data⟩ (by simp) rfl))
      refine h.call rfl rfl (ro_call2 cf_Cat w7 rfl rfl) ((cat_any _ _ _ _ w7 (OB.rbn r1) r2 (by simp [digits_len] <;> omega)).mono ?_)
      rintro r w8 ⟨v8, rfl, ho8, hb8⟩
      exact ⟨_, rfl, fun k u _ hs => sb1_below k u w7 w8 hs hb8, hlow.below hb8, ho8.base hlow.bel.size⟩
    · have r1 := (h.ran 7 _ 14 rfl rfl (hd ⟨7, .data⟩ (by simp) rfl))
      exact h.val rfl rfl (ro_assign w7 rfl) hlow r1
  · intro L a w7 hL hdf hsz2 hw hother hall
    have hkeep := hall 8 _ 3 rfl rfl
    have HX7 : Hid (RBx w W0 w7 w.heap.size ls kd ex A n c) := hw
    refine hK _ _ ?_
    obtain ⟨tm, df⟩ := a
    obtain rfl : df = [] := hdf
    have htm := tmps_eq [7, 8, 9, 10, 11, 12, 13, 14, 3] (by kernel_rfl) hsz2 hother
    dsimp only at htm hkeep
    simp only [List.foldl] at htm
    generalize tm.getD 7 undef = y7 at htm
    generalize tm.getD 8 undef = y8 at htm
    generalize tm.getD 9 undef = y9 at htm
    generalize tm.getD 10 undef = y10 at htm
    generalize tm.getD 11 undef = y11 at htm
    generalize tm.getD 12 undef = y12 at htm
    generalize tm.getD 13 undef = y13 at htm
    generalize tm.getD 14 undef = y14 at htm
    generalize tm.getD 3 undef = y3 at htm hkeep
    clear hother hall hsz2 hw hL
    rw [htm]
    clear htm
    simp only [List.setIfInBounds_toArray, List.set_cons_succ, List.set_cons_zero]
    have HO3 : Hid (OB w7 w.heap.size y3 (digits ls 8 ++ [kd])) := Lib.hid hkeep
    obtain ⟨l3, hl3⟩ : ∃ l3, l3 = digits ls 8 ++ [kd] := ⟨_, rfl⟩
    have HL3 := Lib.hid hl3
    have h39 : l3.length = 9 := by rw [hl3]; simp [digits_len]
    rw [← hl3] at HO3
    obtain ⟨W1, hW1⟩ : ∃ W1, W1 = w7 := ⟨_, rfl⟩
    subst hW1
    have HX00 := HX7
    have HX0 := Lib.hid HX7.out.start
    clear hkeep hl3 HX7 hK
    go_wp2_with fail
    rename_i K hK
    refine wp_region_slotsB (SB2 w.heap.size w.heap.size ex 0 l3 [] A n c) (fun _ w7 => RBx w W1 w7 w.heap.size ls kd ex A n c) (by kernel_rfl) (by kernel_rfl) (by kernel_rfl) (HX0.out.below (Below.refl _ _).drew) ?_ ?_
    · intro L a w7 q o1 h ho h0 hd
      have hlow : RBx w W1 w7 w.heap.size ls kd ex A n c := h.world
      revert L a w7
      revert q o1
      refine each_array ?_
      refine ⟨?_, ?_, ?_, ?_, ?_, ?_, ?_, ?_, ?_, ?_, ?_, ?_, ?_, trivial⟩ <;> intro L a w7 h h0 hd hlow
      · exact h.val rfl rfl (ro_move w7 (h.bef 12 _ 3 rfl rfl (h.later (i := 11) rfl ⟨⟨11, .data⟩, by simp, rfl, rfl⟩ (h.later (i := 5) rfl ⟨⟨5, .data⟩, by simp, rfl, rfl⟩ (h.later (i := 0) rfl ⟨⟨0, .data⟩, by simp, rfl, rfl⟩ h0))))) hd hlow (HO3.out.below hlow.old)
      · exact h.val rfl rfl (ro_field_rp2 w7 (h.still 1 (by kernel_rfl))) hd hlow rfl
      · exact h.val rfl rfl (ro_load_u32 w7 (h.ran 1 _ 16 rfl rfl (hd ⟨1, .data⟩ (by simp) rfl)) (hlow.box.cell 2)) hd hlow rfl
      · exact h.val rfl rfl (ro_conv_u32u64 w7 (by omega) (h.ran 2 _ 17 rfl rfl (hd ⟨2, .data⟩ (by simp) rfl))) hd hlow rfl
      · refine h.call rfl rfl (ro_call2c cf_low w7 (h.ran 3 _ 18 rfl rfl (hd ⟨3, .data⟩ (by simp) rfl))) hd ((refLow_any w7 ex 4 (by omega) (by omega)).mono ?_)
        rintro r w8 ⟨v8, rfl, ho8, hb8⟩
        exact ⟨_, rfl, fun k u _ hs => sb2_below k u w7 w8 hs hb8, hlow.below hb8, ho8.base hlow.bel.size⟩
      · have r1 := (h.ran 0 _ 15 rfl rfl (hd ⟨0, .data⟩ (by simp) rfl))
        have r2 := (h.ran 4 _ 19 rfl rfl (hd ⟨4, .data⟩ (by simp) rfl))
        refine h.call rfl rfl (ro_call2 cf_Cat w7 rfl rfl) hd ((cat_any _ _ _ _ w7 (OB.rbn r1) (OB.rbn r2) (by simp [digits_len] <;> omega)).mono ?_)
        rintro r w8 ⟨v8, rfl, ho8, hb8⟩
        exact ⟨_, rfl, fun k u _ hs => sb2_below k u w7 w8 hs hb8, hlow.below hb8, ho8.base hlow.bel.size⟩
      · exact h.val rfl rfl (ro_field_rp3 w7 (h.still 1 (by kernel_rfl))) hd hlow rfl
      · exact h.val rfl rfl (ro_load_bss w7 (h.ran 6 _ 21 rfl rfl (hd ⟨6, .data⟩ (by simp) rfl)) (hlow.box.cell 3)) hd hlow rfl
      · exact h.val rfl rfl (ro_len_bss w7 (h.ran 7 _ 22 rfl rfl (hd ⟨7, .data⟩ (by simp) rfl))) hd hlow rfl
      · exact h.val rfl rfl (ro_conv_intu8 w7 (by omega) (h.ran 8 _ 23 rfl rfl (hd ⟨8, .data⟩ (by simp) rfl))) hd hlow rfl
      · exact h.mem rfl rfl (ro_build_u8 w7 (h.ran 9 _ 24 rfl rfl (hd ⟨9, .data⟩ (by simp) rfl))) hd (fun k u _ hs => sb2_below k u w7 _ hs ((Below.refl _ _).alloc (Nat.le_refl _) _)) (hlow.below ((Below.refl _ _).alloc (Nat.le_refl _) _)) (RB.new1 w7 _ _ n _ rfl (by omega) (by simp))
      · have r1 := (h.ran 5 _ 20 rfl rfl (hd ⟨5, .data⟩ (by simp) rfl))
        have r2 := (h.ran 10 _ 25 rfl rfl (hd ⟨10, .data⟩ (by simp) rfl))
        refine h.call rfl rfl (ro_call2 cf_Cat w7 rfl rfl) hd ((cat_any _ _ _ _ w7 (OB.rbn r1) r2 (by simp [digits_len] <;> omega)).mono ?_)
        rintro r w8 ⟨v8, rfl, ho8, hb8⟩
        exact ⟨_, rfl, fun k u _ hs => sb2_below k u w7 w8 hs hb8, hlow.below hb8, ho8.base hlow.bel.size⟩
      · have r1 := (h.ran 11 _ 26 rfl rfl (hd ⟨11, .data⟩ (by simp) rfl))
        exact h.val rfl rfl (ro_assign w7 rfl) hd hlow r1
    · intro L a w7 hL hdf hsz2 hw hother hall
      have hkeep := hall 12 _ 3 rfl rfl
      have HX7 : Hid (RBx w W1 w7 w.heap.size ls kd ex A n c) := hw
      refine hK _ _ ?_
      obtain ⟨tm, df⟩ := a
      obtain rfl : df = [] := hdf
      have htm := tmps_eq [15, 16, 17, 18, 19, 20, 21, 22, 23, 24, 25, 26, 3] (by kernel_rfl) hsz2 hother
      dsimp only at htm hkeep
      simp only [List.foldl] at htm
      generalize tm.getD 15 undef = y15 at htm
      generalize tm.getD 16 undef = y16 at htm
      generalize tm.getD 17 undef = y17 at htm
      generalize tm.getD 18 undef = y18 at htm
      generalize tm.getD 19 undef = y19 at htm
      generalize tm.getD 20 undef = y20 at htm
      generalize tm.getD 21 undef = y21 at htm
      generalize tm.getD 22 undef = y22 at htm
      generalize tm.getD 23 undef = y23 at htm
      generalize tm.getD 24 undef = y24 at htm
      generalize tm.getD 25 undef = y25 at htm
      generalize tm.getD 26 undef = y26 at htm
      generalize tm.getD 3 undef = y3 at htm hkeep
      clear hother hall hsz2 hw hL
      rw [htm]
      clear htm
      simp only [List.setIfInBounds_toArray, List.set_cons_succ, List.set_cons_zero]

      have HH : Hid (OB w7 w.heap.size y3 m.head) := Lib.hid (by
        unfold PG.head
        rw [HLS.out, Int.toNat_natCast, ← HKD.out, ← HEX.out, ← HN.out]
        rw [HL3.out] at hkeep
        have hk1 : OB w7 w.heap.size y3 (digits ls 8 ++ [kd] ++ digits ex 4 ++ [n]) := hkeep
        exact hk1)
      clear hkeep h39 hK
      have HP : Hid (∀ k, k ≤ n → 18 + 2 * k + sumTo m.items k ≤ 512) := Lib.hid (fun k hk => HF.out.at_ (by rw [← HN.out]; exact hk))
      go_wp2_with fail
      have HX3 : Hid (RBx w W0 (w7.alloc (.cells #[] 5)) w.heap.size ls kd ex A n c) := Lib.hid ⟨HX7.out.bel.alloc HX7.out.bel.size _, (HX00.out.old.trans (HX7.out.old.mono HX00.out.old.size)).alloc (Nat.le_trans HX00.out.old.size HX7.out.old.size) _, HX7.out.box.alloc _⟩
      go_loopw [3, 4, 5, 6] (fun hd tl bg i wr => ∃ (k e : Nat), k ≤ n ∧ i = .int .i64 k ∧ bg = .int .i64 e ∧ Hid (e = 512 - sumTo m.items k) ∧ Hid (OB wr w.heap.size hd (m.head ++ slotsL (m.items.take k) 512)) ∧ Hid (OB wr w.heap.size tl (tailL (m.items.take k))) ∧ Hid (∀ b, tl.ownBlock = some b → hd.ownBlock ≠ some b) ∧ Hid (RBx w W0 wr w.heap.size ls kd ex A n c)) (fun hd tl bg i wr => n - (intOf i).toNat)
      case atStart => exact ⟨0, 512, Nat.zero_le _, rfl, rfl, Lib.hid (by simp [sumTo]), Lib.hid (by simpa [slotsL] using HH.out.alloc _), Lib.hid (OB.made _ _ _ 0 (HX7.out.bel.size) (by omega) rfl), Lib.hid (fun b hb e => by
        have h1 := (HH.out.lt b e).2
        injection hb with hb
        simp at hb
        omega), HX3⟩
      case round =>
        obtain ⟨k, e, hkn, rfl, rfl, HE, HH, HT, HAP, HX⟩ := hrel
        have c3 : wr.cell? ⟨w.heap.size, 3, none⟩ = some (.slice A n c) := HX.out.box.cell 3
        have htk : (m.items.take k).length = k := by rw [List.length_take, ← HN.out]; omega
        have hst : ((m.items.take k).map List.length).sum = sumTo m.items k := rfl
        have hhl : (m.head ++ slotsL (m.items.take k) 512).length = 14 + 2 * k := by rw [List.length_append, PG.head_len, slotsL_len, htk]
        have htl : (tailL (m.items.take k)).length = sumTo m.items k := by rw [tailL_len, hst]
        by_cases hlt : k < n
        · have hki : k < m.items.length := by rw [← HN.out]; exact hlt
          obtain ⟨b, o, e1, hb, x, hcx, hrx⟩ := HA.out k hki
          subst e1
          obtain ⟨x0, x1, x2⟩ := x
          obtain ⟨A4, c4, e4, -, -, -, -⟩ := hrx.open_
          have hq1 : x1 = m.items[k].length := by injection e4
          have hs := sumTo_succ hki
          have h1 := HP.out (k + 1) (by omega)
          obtain ⟨e2, he2⟩ : ∃ e2, e2 = 512 - sumTo m.items (k + 1) := ⟨_, rfl⟩
          have hee := HE.out
          have hsub : (e : Int) - (x1 : Int) = (e2 : Int) := by omega
          have hwe : IntKind.i64.wrap ((e : Int) - (x1 : Int)) = (e2 : Int) := by rw [hsub, IntKind.wrap_i64]; omega
          have hue : IntKind.u64.wrap (e2 : Int) = (e2 : Int) := by rw [IntKind.wrap_u64]; omega
          have he512 : e2 ≤ 512 := by omega
          have c9 : wr.cell? ⟨b, o + k, none⟩ = some (.slice x0 x1 x2) := (HX.out.bel.cell (p := ⟨b, o + k, none⟩) hb).trans hcx
          have hrb : RB wr wr.heap.size (.slice x0 x1 x2) m.items[k] := (hrx.below HX.out.bel).more HX.out.bel.size
          have hlen2 : m.items[k].length + (tailL (m.items.take k)).length ≤ 140737488355328 := by rw [htl]; omega
          have hlen3 : (m.head ++ slotsL (m.items.take k) 512).length + (digits e2 2).length ≤ 140737488355328 := by rw [hhl, digits_len]; omega
          have HRB := Lib.hid hrb
          have HE2 := Lib.hid he2
          have hq : e2 = 512 - sumTo m.items k - m.items[k].length := by omega
          have HQ := Lib.hid hq
          have HLEN2 := Lib.hid hlen2
          have HLEN3 := Lib.hid hlen3
          have TK1 : True := trivial
          clear hs h1 hee hsub hrx hcx hrb he2 e4 hq1 hq hlen2 hlen3 hhl htl htk hst
          go_wp2_with (first
            | (go_at_call 66; clear TK1; refine (cat_any (.slice x0 x1 x2) _ m.items[k] (tailL (m.items.take k)) _ HRB.out HT.out.rbn HLEN2.out).mono ?_; rintro e7 w4 ⟨v4, rfl, ho4, hb4⟩; have HT4 : Hid (OB w4 w.heap.size v4 (m.items[k] ++ tailL (m.items.take k))) := Lib.hid (ho4.base HX.out.bel.size); have HH4 : Hid (OB w4 w.heap.size u3 (m.head ++ slotsL (m.items.take k) 512)) := Lib.hid (HH.out.below hb4); have HX4 := Lib.hid (HX.out.below hb4); clear ho4 hb4)
            | (go_at_call 67; refine (refLow_any _ e2 2 (by omega) (by omega)).mono ?_; rintro e7 w5 ⟨v5, rfl, ho5, hb5⟩; have HL5 := Lib.hid ho5.rbn; have HH5 : Hid (OB w5 w.heap.size u3 (m.head ++ slotsL (m.items.take k) 512)) := Lib.hid (HH4.out.below hb5); have HT5 := Lib.hid (HT4.out.below hb5); have HX5 := Lib.hid (HX4.out.below hb5); clear ho5 hb5)
            | (go_at_call 66; refine (cat_any u3 v5 _ _ w5 HH5.out.rbn HL5.out HLEN3.out).mono ?_; rintro e7 w6 ⟨v6, rfl, ho6, hb6⟩; have HH6 : Hid (OB w6 w.heap.size v6 (m.head ++ slotsL (m.items.take k) 512 ++ digits e2 2)) := Lib.hid (ho6.base HX5.out.bel.size); have HAP6 : Hid (∀ b, v4.ownBlock = some b → v6.ownBlock ≠ some b) := Lib.hid (fun b hb e => by have q1 := (ho6.lt b e).1; have q2 := (HT5.out.lt b hb).2; omega); have HT6 := Lib.hid (HT5.out.below hb6); have HX6 := Lib.hid (HX5.out.below hb6); clear ho6 hb6))
          go_roundw
          case rel =>
            refine ⟨k + 1, e2, by omega, by go_num, rfl, HE2, Lib.hid ?_, Lib.hid ?_, HAP6, HX6⟩
            · rw [List.take_succ_eq_append_getElem hki, slotsL_snoc, ← List.append_assoc]
              have h6 := HH6.out
              rw [HQ.out] at h6
              exact h6
            · rw [List.take_succ_eq_append_getElem hki, tailL_snoc]
              exact HT6.out
          case measure => simp [intOf]; omega
        · obtain rfl : k = n := by omega
          have hall : m.items.take k = m.items := by rw [HN.out, List.take_length]
          rw [hall] at hhl htl HH HT
          obtain ⟨sm, hsm⟩ : ∃ sm, sm = sumTo m.items k := ⟨_, rfl⟩
          rw [← hsm] at htl
          have h1 := HP.out k (Nat.le_refl _)
          rw [← hsm] at h1
          obtain ⟨z, hz⟩ : ∃ z, z = 494 - 2 * k - sm := ⟨_, rfl⟩
          obtain ⟨tA, tc, rfl, -, -, -, -⟩ := HT.out.rbn.open_
          rw [htl] at HT HAP ⊢
          have HSM := Lib.hid hsm
          have HZ := Lib.hid hz
          have HHL2 := Lib.hid hhl
          clear hall htk hst hsm
          go_wp2_with fail
          go_loopw [3] (fun hd wq => ∃ j : Nat, j ≤ z ∧ Hid (OB wq w.heap.size hd (m.head ++ slotsL m.items 512 ++ List.replicate j 0)) ∧ Hid (OB wq w.heap.size (.slice tA sm tc) (tailL m.items)) ∧ Hid (∀ b, (Value.slice tA sm tc).ownBlock = some b → hd.ownBlock ≠ some b) ∧ Hid (Below w.heap.size w wq)) (fun hd wq => 600 - (match hd with | .slice _ n _ => n | _ => 0))
          case atStart => exact ⟨0, Nat.zero_le _, Lib.hid (by simpa using HH.out), HT, HAP, Lib.hid HX.out.bel⟩
          case round =>
            obtain ⟨j, hj, HH8, HT8, HAP8, HB8⟩ := hrel
            obtain ⟨hA, hc, rfl, -, -, -, -⟩ := HH8.out.rbn.open_
            have hl8 : (m.head ++ slotsL m.items 512 ++ List.replicate j 0).length = 14 + 2 * k + j := by rw [List.length_append, HHL2.out, List.length_replicate]
            obtain ⟨q, hq⟩ : ∃ q, q = 14 + 2 * k + j := ⟨_, rfl⟩
            rw [hl8, ← hq] at HH8 HAP8 ⊢
            have hl9 : (m.head ++ slotsL m.items 512 ++ List.replicate j 0).length = q := by rw [hl8, hq]
            have HQ8 := Lib.hid hq
            have HL9 := Lib.hid hl9
            have hsml : (tailL m.items).length = sm := by rw [tailL_len, HSM.out, HN.out, sumTo_all]
            have HSML := Lib.hid hsml
            by_cases hjz : j < z
            · have hlt6 : (q : Int) + (sm : Int) < 508 := by omega
              have hws : IntKind.i64.wrap ((q : Int) + (sm : Int)) = (q : Int) + (sm : Int) := by rw [IntKind.wrap_i64]; omega
              have hq9 : q ≤ 600 := by omega
              clear hl8 hl9 hq hsml hhl htl h1 hz
              go_wp2_with (at_builtin; go_must (refine wpList_app1g (w0 := w) rfl (.tmp 61) (.tmp 62) rfl w.heap.size _ _ rfl HH8.out HB8.out (Nat.le_refl _) _ 0 (by omega) (by omega) rfl (by rw [HL9.out]; omega) ?_); intro v9 w9 ho9 hb9 hg9 hn9; have HO9 := Lib.hid ho9; have HB9 := Lib.hid hb9; have HT9 : Hid (OB w9 w.heap.size (.slice tA sm tc) (tailL m.items)) := Lib.hid ((HT8.out.alloc _).kept hg9 (by cases ht : (Value.slice tA sm tc).ownBlock with | none => exact .inl rfl | some b => exact .inr (fun e => HAP8.out b ht e.symm))); have HAP9 : Hid (∀ b, (Value.slice tA sm tc).ownBlock = some b → v9.ownBlock ≠ some b) := Lib.hid (fun b hb e => by rcases hn9 b e with q | q; (exact HAP8.out b hb q); (have := (HT8.out.lt b hb).2; omega)); clear ho9 hb9 hg9 hn9)
              go_roundw
              case rel => exact ⟨j + 1, by omega, Lib.hid (by rw [List.replicate_succ', ← List.append_assoc]; exact HO9.out), HT9, HAP9, HB9⟩
              case measure =>
                obtain ⟨A9, c9, rfl, -, -, -, -⟩ := HO9.out.rbn.open_
                rw [List.length_append, HL9.out]
                simp only [List.length_singleton]
                omega
            · obtain rfl : j = z := by omega
              have hge5 : ¬ ((q : Int) + (sm : Int) < 508) := by omega
              have hws : IntKind.i64.wrap ((q : Int) + (sm : Int)) = (q : Int) + (sm : Int) := by rw [IntKind.wrap_i64]; omega
              have hbody : m.head ++ slotsL m.items 512 ++ List.replicate j 0 ++ tailL m.items = m.body := by
                unfold PG.body PG.mid
                rw [← HN.out, ← HSM.out, ← HZ.out]
                rw [show m.items.take k = m.items by rw [HN.out, List.take_length]]
              have HBODY := Lib.hid hbody
              have HLC : Hid ((m.head ++ slotsL m.items 512 ++ List.replicate j 0).length + (tailL m.items).length ≤ 140737488355328) := Lib.hid (by rw [HL9.out, HSML.out]; omega)
              have HBL : Hid (m.body.length ≤ 140737488355000) := Lib.hid (by rw [← HBODY.out, List.length_append, HL9.out, HSML.out]; omega)
              clear hl8 hl9 hq hsml hhl htl h1 hz hbody
              go_wp2_with (first
                | (go_at_call 66; refine (cat_any _ _ _ _ _ HH8.out.rbn HT8.out.rbn HLC.out).mono ?_; rw [HBODY.out]; rintro e7 w4 ⟨v4, rfl, ho4, hb4⟩; have HO4 := Lib.hid ho4; have HB4 : Hid (Below w.heap.size w w4) := Lib.hid (HB8.out.trans (hb4.mono HB8.out.size)); clear ho4 hb4)
                | (go_at_call 64; refine (seal2_any v4 m.body w4 HO4.out.rbn HBL.out).mono ?_; rintro e7 w5 ⟨v5, rfl, ho5, hb5⟩; have HO5 : Hid (OB w5 w.heap.size v5 (sumBytes (crcSum m.body) ++ m.body)) := Lib.hid (ho5.base HB4.out.size); have HB5 : Hid (Below w.heap.size w w5) := Lib.hid (HB4.out.trans (hb5.mono HB4.out.size)); clear ho5 hb5))
              go_ret
              refine ⟨_, rfl, ?_, HB5.out⟩
              unfold pageL
              rw [digits_four _ (crcSum_lt _ HO4.out.rbn.1)]
              exact HO5.out
end Go.Proofs.Ytdghanhpeekbhaa
