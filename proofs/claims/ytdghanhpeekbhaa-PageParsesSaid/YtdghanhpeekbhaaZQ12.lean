/-
  The walk of skeinlaw08's stands: a page against the document's page of the same items.
-/
import Derived.Test.YtdghanhpeekbhaaZQ11
namespace Go.Proofs.Ytdghanhpeekbhaa
open Go.RowKit Go.Maps
set_option linter.unusedVariables false

theorem cf_pLen : ∀ (args : Array Value) (w : World), (callFunc 22 args).run Try.prog w = .ok (.enter 22 args) w := enters_of Try.func22 (by kernel_rfl) rfl
theorem cf_pRoom : ∀ (args : Array Value) (w : World), (callFunc 20 args).run Try.prog w = .ok (.enter 20 args) w := enters_of Try.func20 (by kernel_rfl) rfl
theorem cf_pKind : ∀ (args : Array Value) (w : World), (callFunc 24 args).run Try.prog w = .ok (.enter 24 args) w := enters_of Try.func24 (by kernel_rfl) rfl
theorem cf_pExtra : ∀ (args : Array Value) (w : World), (callFunc 25 args).run Try.prog w = .ok (.enter 25 args) w := enters_of Try.func25 (by kernel_rfl) rfl
theorem cf_pLSN : ∀ (args : Array Value) (w : World), (callFunc 35 args).run Try.prog w = .ok (.enter 35 args) w := enters_of Try.func35 (by kernel_rfl) rfl
theorem cf_pBytes : ∀ (args : Array Value) (w : World), (callFunc 13 args).run Try.prog w = .ok (.enter 13 args) w := enters_of Try.func13 (by kernel_rfl) rfl
theorem cf_rRoom : ∀ (args : Array Value) (w : World), (callFunc 34 args).run Try.prog w = .ok (.enter 34 args) w := enters_of Try.func34 (by kernel_rfl) rfl
theorem cf_rBytes : ∀ (args : Array Value) (w : World), (callFunc 36 args).run Try.prog w = .ok (.enter 36 args) w := enters_of Try.func36 (by kernel_rfl) rfl
theorem cf_Same : ∀ (args : Array Value) (w : World), (callFunc 12 args).run Try.prog w = .ok (.enter 12 args) w := enters_of Try.func12 (by kernel_rfl) rfl

/-- The world within stands: new memory alone; the page, the document's page in its box, its row. -/
structure RS (w w7 : World) (p bx n kd ex ls c : Nat) (A : Option Addr) (B : Nat) (v : Value) (xs ys : List Sl) (m : PG) : Prop where
  bel : Below w.heap.size w w7
  box : Blk w7 bx 32 #[.int .i64 (ls : Int), .int .u8 (kd : Int), .int .u32 (ex : Int), .slice A n c]
  page : PageAt w7 p B v xs m
  row : RowR w7 (.slice A n c) m.items ys
theorem RS.below {w w7 w8 : World} {p bx n kd ex ls c : Nat} {A : Option Addr} {B : Nat} {v : Value} {xs ys : List Sl} {m : PG} (h : RS w w7 p bx n kd ex ls c A B v xs ys m) (hb : Below w7.heap.size w7 w8) : RS w w8 p bx n kd ex ls c A B v xs ys m :=
  ⟨h.bel.trans (hb.mono h.bel.size), h.box.below hb h.box.lt, h.page.below hb, h.row.below hb⟩
theorem ro_conv_u8i {a : Act} {ty : TypeId} {pos : String} {d : Option Tmp} {af : Array Edge} {g : Option (Nat × Bool)} {x : Tmp} {n : Nat} (w : World) (hn : n < 256) (hx : a.tmps.getD x undef = .int .u8 (n : Int)) :
    (execOp a.eval { dst := d, op := .convert 5 3 (.tmp x), type := ty, pos := pos, after := af, guard := g }).run Try.prog w = .ok (.value (.int .i64 (n : Int))) w := by
  have hw : IntKind.i64.wrap (n : Int) = (n : Int) := by rw [IntKind.wrap_i64]; omega
  simp only [execOp, Act.eval, hx]
  go_simp
/-- What the steps of the drawn region leave in their slots. -/
def SB3 (p bx n kd ex ls : Nat) (rm : Int) (l : List Nat) (A : Option Addr) (c : Nat) (q : Nat) (v : Value) (w : World) : Prop := match q with
  | 0 => v = .pointer (some ⟨p, 0, none⟩)
  | 1 => v = .int .i64 (n : Int)
  | 2 => v = .pointer (some ⟨bx, 3, none⟩)
  | 3 => v = .slice A n c
  | 4 => v = .int .i64 (n : Int)
  | 5 => v = .bool true
  | 6 => v = .bool true
  | 7 => v = .pointer (some ⟨p, 0, none⟩)
  | 8 => v = .int .i64 rm
  | 9 => v = refPg ls kd ex (.slice A n c)
  | 10 => v = .int .i64 rm
  | 11 => v = .bool true
  | 12 => v = .bool true
  | 13 => v = .bool true
  | 14 => v = .pointer (some ⟨p, 0, none⟩)
  | 15 => v = .int .i64 (kd : Int)
  | 16 => v = .pointer (some ⟨bx, 1, none⟩)
  | 17 => v = .int .u8 (kd : Int)
  | 18 => v = .int .i64 (kd : Int)
  | 19 => v = .bool true
  | 20 => v = .bool true
  | 21 => v = .bool true
  | 22 => v = .pointer (some ⟨p, 0, none⟩)
  | 23 => v = .int .u32 (ex : Int)
  | 24 => v = .pointer (some ⟨bx, 2, none⟩)
  | 25 => v = .int .u32 (ex : Int)
  | 26 => v = .bool true
  | 27 => v = .bool true
  | 28 => v = .bool true
  | 29 => v = .pointer (some ⟨p, 0, none⟩)
  | 30 => v = .int .i64 (ls : Int)
  | 31 => v = .pointer (some ⟨bx, 0, none⟩)
  | 32 => v = .int .i64 (ls : Int)
  | 33 => v = .bool true
  | 34 => v = .bool true
  | 35 => v = .bool true
  | 36 => v = .pointer (some ⟨p, 0, none⟩)
  | 37 => RB w w.heap.size v l
  | 38 => v = refPg ls kd ex (.slice A n c)
  | 39 => RB w w.heap.size v l
  | 40 => v = .bool true
  | 41 => v = .bool true
  | 42 => v = .bool true
  | _ => True
theorem sb3_below {p bx n kd ex ls : Nat} {rm : Int} {l : List Nat} {A : Option Addr} {c : Nat} (q : Nat) (x : Value) (w w1 : World) (h : SB3 p bx n kd ex ls rm l A c q x w) (hb : Below w.heap.size w w1) : SB3 p bx n kd ex ls rm l A c q x w1 :=
  match q, h with
  | 0, h => h
  | 1, h => h
  | 2, h => h
  | 3, h => h
  | 4, h => h
  | 5, h => h
  | 6, h => h
  | 7, h => h
  | 8, h => h
  | 9, h => h
  | 10, h => h
  | 11, h => h
  | 12, h => h
  | 13, h => h
  | 14, h => h
  | 15, h => h
  | 16, h => h
  | 17, h => h
  | 18, h => h
  | 19, h => h
  | 20, h => h
  | 21, h => h
  | 22, h => h
  | 23, h => h
  | 24, h => h
  | 25, h => h
  | 26, h => h
  | 27, h => h
  | 28, h => h
  | 29, h => h
  | 30, h => h
  | 31, h => h
  | 32, h => h
  | 33, h => h
  | 34, h => h
  | 35, h => h
  | 36, h => h
  | 37, h => (RB.below h hb).more hb.size
  | 38, h => h
  | 39, h => (RB.below h hb).more hb.size
  | 40, h => h
  | 41, h => h
  | 42, h => h
  | _ + 43, _ => trivial

theorem pageRoom_r {w : World} {p B : Nat} {v : Value} {xs : List Sl} {m : PG} (h : PageAt w p B v xs m) {r : Int} (hr : r = m.room) : Calls Try.prog 20 #[.pointer (some ⟨p, 0, none⟩)] w fun e w' => e = .returned (.int .i64 r) ∧ w = w' := by rw [hr]; exact pageRoom_any w p B v xs m h
theorem pageKind_k {w : World} {p B : Nat} {v : Value} {xs : List Sl} {m : PG} (h : PageAt w p B v xs m) {k : Nat} (hk : k = m.kind) : Calls Try.prog 24 #[.pointer (some ⟨p, 0, none⟩)] w fun e w' => e = .returned (.int .i64 (k : Int)) ∧ w = w' := by rw [hk]; exact pageKind_any w p B v xs m h
theorem pageExtra_x {w : World} {p B : Nat} {v : Value} {xs : List Sl} {m : PG} (h : PageAt w p B v xs m) {k : Nat} (hk : k = m.extra) : Calls Try.prog 25 #[.pointer (some ⟨p, 0, none⟩)] w fun e w' => e = .returned (.int .u32 (k : Int)) ∧ w = w' := by rw [hk]; exact pageExtra_any w p B v xs m h
theorem pageLSN_l {w : World} {p B : Nat} {v : Value} {xs : List Sl} {m : PG} (h : PageAt w p B v xs m) {k : Nat} (hk : m.lsn = (k : Int)) : Calls Try.prog 35 #[.pointer (some ⟨p, 0, none⟩)] w fun e w' => e = .returned (.int .i64 (k : Int)) ∧ w = w' := by rw [← hk]; exact pageLSN_any w p B v xs m h
theorem refBytes_at (w : World) (v : Value) (m : PG) (ys : List Sl) (ls kd ex : Nat) (h : RowR w v m.items ys) (hm : m.Ok) (hf : m.Fit) (hls : m.lsn = (ls : Int)) (hkd : kd = m.kind) (hex : ex = m.extra) :
    Calls Try.prog 36 #[refPg ls kd ex v] w fun e w1 => ∃ v1, e = .returned v1 ∧ OB w1 w.heap.size v1 (pageL m) ∧ Below w.heap.size w w1 := by
  rw [hkd, hex]; exact refBytes_any w v m ys ls h hm hf hls

set_option maxRecDepth 100000 in
set_option maxHeartbeats 4000000 in
theorem stands8_any (w : World) (p B : Nat) (v : Value) (xs : List Sl) (m : PG) (vm : Value) (ys : List Sl) (ls kd ex : Nat) (hp : PageAt w p B v xs m) (hf : m.Fit) (hr : RowR w vm m.items ys) (hls : m.lsn = (ls : Int)) (hkd : kd = m.kind) (hex : ex = m.extra) :
    Calls Try.prog 11 #[.pointer (some ⟨p, 0, none⟩), refPg ls kd ex vm] w fun e w1 => e = .returned (.bool true) ∧ Below w.heap.size w w1 := by
  obtain ⟨A, c, rfl, -⟩ := hr.open_
  have hm := hp.ok
  obtain ⟨n, hn⟩ : ∃ n, n = m.items.length := ⟨_, rfl⟩
  obtain ⟨rm, hrm⟩ : ∃ rm, rm = m.room := ⟨_, rfl⟩
  have hk256 : kd < 256 := by rw [hkd]; exact hm.kind
  rw [← hn] at hr ⊢
  have hfi : 18 + 2 * m.items.length + (m.items.map List.length).sum ≤ 512 := hf
  have HN := Lib.hid hn
  have HR := Lib.hid hrm
  have HRM : Hid (Value.int .i64 (roomI m.items.length (18 + 2 * m.items.length + (m.items.map List.length).sum)) = .int .i64 rm) := Lib.hid (by rw [hrm, room_pg m hfi])
  have HFI := Lib.hid hfi
  have HF := Lib.hid hf
  have HM := Lib.hid hm
  have HKD := Lib.hid hkd
  have HEX := Lib.hid hex
  have HLS := Lib.hid hls
  obtain ⟨W0, hW0⟩ : ∃ W0, W0 = w.alloc (.cells #[.int .i64 (ls : Int), .int .u8 (kd : Int), .int .u32 (ex : Int), .slice A n c] 32) := ⟨_, rfl⟩
  have hb0 : Below w.heap.size w W0 := by rw [hW0]; exact (Below.refl _ _).alloc (Nat.le_refl _) _
  have HX0 : Hid (RS w W0 p w.heap.size n kd ex ls c A B v xs ys m) := Lib.hid ⟨hb0, by rw [hW0]; exact Blk.new _ _ _, hp.below hb0, hr.below hb0⟩
  have HW0 := Lib.hid hW0
  unfold refPg
  clear hn hrm hfi hf hm hkd hex hls hW0 hb0 hp hr
  go_enter Try.func11, Try.ntmps11
  go_wp2_with fail
  rw [← HW0.out]
  rename_i K hK
  refine wp_region_slots (SB3 p w.heap.size n kd ex ls rm (pageL m) A c) (fun _ w7 => RS w w7 p w.heap.size n kd ex ls c A B v xs ys m) (by kernel_rfl) (by kernel_rfl) (by kernel_rfl) (HX0.out.below (Below.refl _ _).drew) ?_ ?_
  · intro L a w7 q o1 h ho h0 hd
    have hlow : RS w w7 p w.heap.size n kd ex ls c A B v xs ys m := h.world
    revert L a w7
    revert q o1
    refine each_array ?_
    refine ⟨?_, ?_, ?_, ?_, ?_, ?_, ?_, ?_, ?_, ?_, ?_, ?_, ?_, ?_, ?_, ?_, ?_, ?_, ?_, ?_, ?_, ?_, ?_, ?_, ?_, ?_, ?_, ?_, ?_, ?_, ?_, ?_, ?_, ?_, ?_, ?_, ?_, ?_, ?_, ?_, ?_, ?_, ?_, trivial⟩ <;> intro L a w7 h h0 hd hlow
    · exact h.val rfl rfl (ro_move w7 (h.still 0 (by kernel_rfl))) hlow rfl
    · refine h.call rfl rfl (ro_call1 cf_pLen w7 (h.ran 0 _ 5 rfl rfl (hd ⟨0, .data⟩ (by simp) rfl))) ((pageLen_n hlow.page HN.out).mono ?_)
      rintro r w8 ⟨rfl, hw8⟩
      have hw8 : w8 = w7 := by first | exact hw8 | exact hw8.symm
      subst hw8
      exact ⟨_, rfl, fun k u _ hs => hs, hlow, rfl⟩
    · exact h.val rfl rfl (ro_field_rp3 w7 (h.still 3 (by kernel_rfl))) hlow rfl
    · exact h.val rfl rfl (ro_load_bss w7 (h.ran 2 _ 7 rfl rfl (hd ⟨2, .data⟩ (by simp) rfl)) (hlow.box.cell 3)) hlow rfl
    · exact h.val rfl rfl (ro_len_bss w7 (h.ran 3 _ 8 rfl rfl (hd ⟨3, .data⟩ (by simp) rfl))) hlow rfl
    · exact h.val rfl rfl (ro_eql_int w7 (h.ran 1 _ 6 rfl rfl (hd ⟨1, .data⟩ (by simp) rfl)) (h.ran 4 _ 9 rfl rfl (hd ⟨4, .data⟩ (by simp) rfl))) hlow rfl
    · exact h.val rfl rfl (ro_move w7 (h.ran 5 _ 10 rfl rfl (hd ⟨5, .data⟩ (by simp) rfl))) hlow rfl
    · exact h.valG rfl (wanted_of rfl rfl rfl (h.ran 6 _ 11 rfl rfl (hd ⟨6, .guard⟩ (by simp) rfl))) (ro_move w7 (h.still 0 (by kernel_rfl))) hlow rfl
    · refine h.callG rfl (wanted_of rfl rfl rfl (h.ran 6 _ 11 rfl rfl (hd ⟨6, .guard⟩ (by simp) rfl))) (ro_call1 cf_pRoom w7 (h.ran 7 _ 12 rfl rfl (hd ⟨7, .data⟩ (by simp) rfl))) ((pageRoom_r hlow.page HR.out).mono ?_)
      rintro r w8 ⟨rfl, hw8⟩
      have hw8 : w8 = w7 := by first | exact hw8 | exact hw8.symm
      subst hw8
      exact ⟨_, rfl, fun k u _ hs => hs, hlow, rfl⟩
    · exact h.valG rfl (wanted_of rfl rfl rfl (h.ran 6 _ 11 rfl rfl (hd ⟨6, .guard⟩ (by simp) rfl))) (ro_load_rp w7 (h.still 3 (by kernel_rfl)) (hlow.box.cell 0) (hlow.box.cell 1) (hlow.box.cell 2) (hlow.box.cell 3)) hlow rfl
    · refine h.callG rfl (wanted_of rfl rfl rfl (h.ran 6 _ 11 rfl rfl (hd ⟨6, .guard⟩ (by simp) rfl))) (ro_call1 cf_rRoom w7 (h.ran 9 _ 14 rfl rfl (hd ⟨9, .data⟩ (by simp) rfl))) ((refRoom_row w7 _ m.items ys ls kd ex hlow.row.lenRow HFI.out).mono ?_)
      rintro r w8 ⟨rfl, hb8⟩
      exact ⟨_, rfl, fun k u _ hs => sb3_below k u w7 w8 hs hb8, hlow.below hb8, HRM.out⟩
    · exact h.valG rfl (wanted_of rfl rfl rfl (h.ran 6 _ 11 rfl rfl (hd ⟨6, .guard⟩ (by simp) rfl))) (ro_eql_int w7 (h.ran 8 _ 13 rfl rfl (hd ⟨8, .data⟩ (by simp) rfl)) (h.ran 10 _ 15 rfl rfl (hd ⟨10, .data⟩ (by simp) rfl))) hlow rfl
    · exact h.val rfl rfl (ro_pickTT w7 (h.ran 6 _ 11 rfl rfl (hd ⟨6, .data⟩ (by simp) rfl)) (h.ran 11 _ 16 rfl rfl (hd ⟨11, .data⟩ (by simp) rfl))) hlow rfl
    · exact h.val rfl rfl (ro_move w7 (h.ran 12 _ 17 rfl rfl (hd ⟨12, .data⟩ (by simp) rfl))) hlow rfl
    · exact h.valG rfl (wanted_of rfl rfl rfl (h.ran 13 _ 18 rfl rfl (hd ⟨13, .guard⟩ (by simp) rfl))) (ro_move w7 (h.still 0 (by kernel_rfl))) hlow rfl
    · refine h.callG rfl (wanted_of rfl rfl rfl (h.ran 13 _ 18 rfl rfl (hd ⟨13, .guard⟩ (by simp) rfl))) (ro_call1 cf_pKind w7 (h.ran 14 _ 19 rfl rfl (hd ⟨14, .data⟩ (by simp) rfl))) ((pageKind_k hlow.page HKD.out).mono ?_)
      rintro r w8 ⟨rfl, hw8⟩
      have hw8 : w8 = w7 := by first | exact hw8 | exact hw8.symm
      subst hw8
      exact ⟨_, rfl, fun k u _ hs => hs, hlow, rfl⟩
    · exact h.valG rfl (wanted_of rfl rfl rfl (h.ran 13 _ 18 rfl rfl (hd ⟨13, .guard⟩ (by simp) rfl))) (ro_field_rp1 w7 (h.still 3 (by kernel_rfl))) hlow rfl
    · exact h.valG rfl (wanted_of rfl rfl rfl (h.ran 13 _ 18 rfl rfl (hd ⟨13, .guard⟩ (by simp) rfl))) (ro_load_u8 w7 (h.ran 16 _ 21 rfl rfl (hd ⟨16, .data⟩ (by simp) rfl)) (hlow.box.cell 1)) hlow rfl
    · exact h.valG rfl (wanted_of rfl rfl rfl (h.ran 13 _ 18 rfl rfl (hd ⟨13, .guard⟩ (by simp) rfl))) (ro_conv_u8i w7 (by omega) (h.ran 17 _ 22 rfl rfl (hd ⟨17, .data⟩ (by simp) rfl))) hlow rfl
    · exact h.valG rfl (wanted_of rfl rfl rfl (h.ran 13 _ 18 rfl rfl (hd ⟨13, .guard⟩ (by simp) rfl))) (ro_eql_int w7 (h.ran 15 _ 20 rfl rfl (hd ⟨15, .data⟩ (by simp) rfl)) (h.ran 18 _ 23 rfl rfl (hd ⟨18, .data⟩ (by simp) rfl))) hlow rfl
    · exact h.val rfl rfl (ro_pickTT w7 (h.ran 13 _ 18 rfl rfl (hd ⟨13, .data⟩ (by simp) rfl)) (h.ran 19 _ 24 rfl rfl (hd ⟨19, .data⟩ (by simp) rfl))) hlow rfl
    · exact h.val rfl rfl (ro_move w7 (h.ran 20 _ 25 rfl rfl (hd ⟨20, .data⟩ (by simp) rfl))) hlow rfl
    · exact h.valG rfl (wanted_of rfl rfl rfl (h.ran 21 _ 26 rfl rfl (hd ⟨21, .guard⟩ (by simp) rfl))) (ro_move w7 (h.still 0 (by kernel_rfl))) hlow rfl
    · refine h.callG rfl (wanted_of rfl rfl rfl (h.ran 21 _ 26 rfl rfl (hd ⟨21, .guard⟩ (by simp) rfl))) (ro_call1 cf_pExtra w7 (h.ran 22 _ 27 rfl rfl (hd ⟨22, .data⟩ (by simp) rfl))) ((pageExtra_x hlow.page HEX.out).mono ?_)
      rintro r w8 ⟨rfl, hw8⟩
      have hw8 : w8 = w7 := by first | exact hw8 | exact hw8.symm
      subst hw8
      exact ⟨_, rfl, fun k u _ hs => hs, hlow, rfl⟩
    · exact h.valG rfl (wanted_of rfl rfl rfl (h.ran 21 _ 26 rfl rfl (hd ⟨21, .guard⟩ (by simp) rfl))) (ro_field_rp2 w7 (h.still 3 (by kernel_rfl))) hlow rfl
    · exact h.valG rfl (wanted_of rfl rfl rfl (h.ran 21 _ 26 rfl rfl (hd ⟨21, .guard⟩ (by simp) rfl))) (ro_load_u32 w7 (h.ran 24 _ 29 rfl rfl (hd ⟨24, .data⟩ (by simp) rfl)) (hlow.box.cell 2)) hlow rfl
    · exact h.valG rfl (wanted_of rfl rfl rfl (h.ran 21 _ 26 rfl rfl (hd ⟨21, .guard⟩ (by simp) rfl))) (ro_eql_u32 w7 (h.ran 23 _ 28 rfl rfl (hd ⟨23, .data⟩ (by simp) rfl)) (h.ran 25 _ 30 rfl rfl (hd ⟨25, .data⟩ (by simp) rfl))) hlow rfl
    · exact h.val rfl rfl (ro_pickTT w7 (h.ran 21 _ 26 rfl rfl (hd ⟨21, .data⟩ (by simp) rfl)) (h.ran 26 _ 31 rfl rfl (hd ⟨26, .data⟩ (by simp) rfl))) hlow rfl
    · exact h.val rfl rfl (ro_move w7 (h.ran 27 _ 32 rfl rfl (hd ⟨27, .data⟩ (by simp) rfl))) hlow rfl
    · exact h.valG rfl (wanted_of rfl rfl rfl (h.ran 28 _ 33 rfl rfl (hd ⟨28, .guard⟩ (by simp) rfl))) (ro_move w7 (h.still 0 (by kernel_rfl))) hlow rfl
    · refine h.callG rfl (wanted_of rfl rfl rfl (h.ran 28 _ 33 rfl rfl (hd ⟨28, .guard⟩ (by simp) rfl))) (ro_call1 cf_pLSN w7 (h.ran 29 _ 34 rfl rfl (hd ⟨29, .data⟩ (by simp) rfl))) ((pageLSN_l hlow.page HLS.out).mono ?_)
      rintro r w8 ⟨rfl, hw8⟩
      have hw8 : w8 = w7 := by first | exact hw8 | exact hw8.symm
      subst hw8
      exact ⟨_, rfl, fun k u _ hs => hs, hlow, rfl⟩
    · exact h.valG rfl (wanted_of rfl rfl rfl (h.ran 28 _ 33 rfl rfl (hd ⟨28, .guard⟩ (by simp) rfl))) (ro_field_rp0 w7 (h.still 3 (by kernel_rfl))) hlow rfl
    · exact h.valG rfl (wanted_of rfl rfl rfl (h.ran 28 _ 33 rfl rfl (hd ⟨28, .guard⟩ (by simp) rfl))) (ro_load_i64 w7 (h.ran 31 _ 36 rfl rfl (hd ⟨31, .data⟩ (by simp) rfl)) (hlow.box.cell 0)) hlow rfl
    · exact h.valG rfl (wanted_of rfl rfl rfl (h.ran 28 _ 33 rfl rfl (hd ⟨28, .guard⟩ (by simp) rfl))) (ro_eql_i64 w7 (h.ran 30 _ 35 rfl rfl (hd ⟨30, .data⟩ (by simp) rfl)) (h.ran 32 _ 37 rfl rfl (hd ⟨32, .data⟩ (by simp) rfl))) hlow rfl
    · exact h.val rfl rfl (ro_pickTT w7 (h.ran 28 _ 33 rfl rfl (hd ⟨28, .data⟩ (by simp) rfl)) (h.ran 33 _ 38 rfl rfl (hd ⟨33, .data⟩ (by simp) rfl))) hlow rfl
    · exact h.val rfl rfl (ro_move w7 (h.ran 34 _ 39 rfl rfl (hd ⟨34, .data⟩ (by simp) rfl))) hlow rfl
    · exact h.valG rfl (wanted_of rfl rfl rfl (h.ran 35 _ 40 rfl rfl (hd ⟨35, .guard⟩ (by simp) rfl))) (ro_move w7 (h.still 0 (by kernel_rfl))) hlow rfl
    · refine h.callG rfl (wanted_of rfl rfl rfl (h.ran 35 _ 40 rfl rfl (hd ⟨35, .guard⟩ (by simp) rfl))) (ro_call1 cf_pBytes w7 (h.ran 36 _ 41 rfl rfl (hd ⟨36, .data⟩ (by simp) rfl))) ((pageBytes_any w7 p B v xs m hlow.page HF.out).mono ?_)
      rintro r w8 ⟨g, rfl, hg8, hbb8, hb8⟩
      exact ⟨_, rfl, fun k u _ hs => sb3_below k u w7 w8 hs hb8, hlow.below hb8, hbb8.row512 (pageL_len HF.out)⟩
    · exact h.valG rfl (wanted_of rfl rfl rfl (h.ran 35 _ 40 rfl rfl (hd ⟨35, .guard⟩ (by simp) rfl))) (ro_load_rp w7 (h.still 3 (by kernel_rfl)) (hlow.box.cell 0) (hlow.box.cell 1) (hlow.box.cell 2) (hlow.box.cell 3)) hlow rfl
    · refine h.callG rfl (wanted_of rfl rfl rfl (h.ran 35 _ 40 rfl rfl (hd ⟨35, .guard⟩ (by simp) rfl))) (ro_call1 cf_rBytes w7 (h.ran 38 _ 43 rfl rfl (hd ⟨38, .data⟩ (by simp) rfl))) ((refBytes_at w7 _ m ys ls kd ex hlow.row HM.out HF.out HLS.out HKD.out HEX.out).mono ?_)
      rintro r w8 ⟨v8, rfl, ho8, hb8⟩
      exact ⟨_, rfl, fun k u _ hs => sb3_below k u w7 w8 hs hb8, hlow.below hb8, OB.rbn ho8⟩
    · have r1 : RB w7 w7.heap.size _ _ := (h.ran 37 _ 42 rfl rfl (hd ⟨37, .data⟩ (by simp) rfl))
      have r2 : RB w7 w7.heap.size _ _ := (h.ran 39 _ 44 rfl rfl (hd ⟨39, .data⟩ (by simp) rfl))
      refine h.callG rfl (wanted_of rfl rfl rfl (h.ran 35 _ 40 rfl rfl (hd ⟨35, .guard⟩ (by simp) rfl))) (ro_call2 cf_Same w7 rfl rfl) ((same_b r1 r2).mono ?_)
      rintro r w8 ⟨rfl, hb8⟩
      exact ⟨_, rfl, fun k u _ hs => sb3_below k u w7 w8 hs hb8, hlow.below hb8, congrArg Value.bool (sameB_self _)⟩
    · exact h.val rfl rfl (ro_pickTT w7 (h.ran 35 _ 40 rfl rfl (hd ⟨35, .data⟩ (by simp) rfl)) (h.ran 40 _ 45 rfl rfl (hd ⟨40, .data⟩ (by simp) rfl))) hlow rfl
    · exact h.val rfl rfl (ro_assign w7 (h.ran 41 _ 46 rfl rfl (hd ⟨41, .data⟩ (by simp) rfl))) hlow rfl
  · intro L a w7 hL hdf hsz2 hw hother hall
    have hkeep := hall 42 _ 4 rfl rfl
    have HX7 : Hid (RS w w7 p w.heap.size n kd ex ls c A B v xs ys m) := hw
    refine hK _ _ ?_
    obtain ⟨tm, df⟩ := a
    obtain rfl : df = [] := hdf
    have htm := tmps_eq [5, 6, 7, 8, 9, 10, 11, 12, 13, 14, 15, 16, 17, 18, 19, 20, 21, 22, 23, 24, 25, 26, 27, 28, 29, 30, 31, 32, 33, 34, 35, 36, 37, 38, 39, 40, 41, 42, 43, 44, 45, 46, 4] (by kernel_rfl) hsz2 hother
    dsimp only at htm hkeep
    simp only [List.foldl] at htm
    generalize tm.getD 5 undef = y5 at htm
    generalize tm.getD 6 undef = y6 at htm
    generalize tm.getD 7 undef = y7 at htm
    generalize tm.getD 8 undef = y8 at htm
    generalize tm.getD 9 undef = y9 at htm
    generalize tm.getD 10 undef = y10 at htm
    generalize tm.getD 11 undef = y11 at htm
    generalize tm.getD 12 undef = y12 at htm
    generalize tm.getD 13 undef = y13 at htm
    generalize tm.getD 14 undef = y14 at htm
    generalize tm.getD 15 undef = y15 at htm
    generalize tm.getD 16 undef = y16 at htm
    generalize tm.getD 17 undef = y17 at htm
    generalize tm.getD 18 undef = y18 at htm
    generalize tm.getD 19 undef = y19 at htm
    generalize tm.getD 20 undef = y20 at htm
    generalize tm.getD 21 undef = y21 at htm
    generalize tm.getD 22 undef = y22 at htm
    generalize tm.getD 23 undef = y23 at htm
    generalize tm.getD 24 undef = y24 at htm
    generalize tm.getD 25 undef = y25 at htm
    generalize tm.getD 26 undef = y26 at htm
    generalize tm.getD 27 undef = y27 at htm
    generalize tm.getD 28 undef = y28 at htm
    generalize tm.getD 29 undef = y29 at htm
    generalize tm.getD 30 undef = y30 at htm
    generalize tm.getD 31 undef = y31 at htm
    generalize tm.getD 32 undef = y32 at htm
    generalize tm.getD 33 undef = y33 at htm
    generalize tm.getD 34 undef = y34 at htm
    generalize tm.getD 35 undef = y35 at htm
    generalize tm.getD 36 undef = y36 at htm
    generalize tm.getD 37 undef = y37 at htm
    generalize tm.getD 38 undef = y38 at htm
    generalize tm.getD 39 undef = y39 at htm
    generalize tm.getD 40 undef = y40 at htm
    generalize tm.getD 41 undef = y41 at htm
    generalize tm.getD 42 undef = y42 at htm
    generalize tm.getD 43 undef = y43 at htm
    generalize tm.getD 44 undef = y44 at htm
    generalize tm.getD 45 undef = y45 at htm
    generalize tm.getD 46 undef = y46 at htm
    generalize tm.getD 4 undef = y4 at htm hkeep
    clear hother hall hsz2 hw hL
    rw [htm]
    clear htm
    simp only [List.setIfInBounds_toArray, List.set_cons_succ, List.set_cons_zero]
    obtain rfl : y4 = .bool true := hkeep
    go_wp2_with fail
    go_ret
    exact ⟨rfl, HX7.out.bel⟩
end Go.Proofs.Ytdghanhpeekbhaa
