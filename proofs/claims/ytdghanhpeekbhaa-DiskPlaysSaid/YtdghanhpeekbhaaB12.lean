/-
  The walk of skeinlaw07's stands: a disk against the document's disk of the same sectors.
-/
import Derived.Test.YtdghanhpeekbhaaB11
import Derived.Test.YtdghanhpeekbhaaB7
import Derived.Test.YtdghanhpeekbhaaB8
import Derived.Test.YtdghanhpeekbhaaV2
import Derived.Test.YtdghanhpeekbhaaD12
namespace Go.Proofs.Ytdghanhpeekbhaa
open Go.RowKit Go.Maps
set_option linter.unusedVariables false

set_option maxRecDepth 100000 in
set_option maxHeartbeats 2000000 in
theorem sameIntsB (v v2 : Value) (V : List Int) (w : World) (B B2 : Nat) (hv : RI w B v V) (hv2 : RI w B2 v2 V) :
    Calls Try.prog 54 #[v, v2] w fun e w' => e = .returned (.bool true) ∧ ∃ q, w' = w.drewN q := by
  obtain ⟨A, c, rfl, hc1, hc2, hc3, HC⟩ := hv.open_
  obtain ⟨A2, c2, rfl, hd1, hd2, hd3, HD⟩ := hv2.open_
  clear hv hv2
  obtain ⟨n, hn⟩ : ∃ n, n = V.length := ⟨_, rfl⟩
  rw [← hn] at hc1 hc3 hd1 hd3 ⊢
  have HN := Lib.hid hn
  clear hn
  go_enter Try.func54, Try.ntmps54
  go_wp2
  go_loopw [5] (fun i wr => ∃ (k q : Nat), k ≤ n ∧ i = .int .i64 k ∧ wr = w.drewN q) (fun i wr => n - (intOf i).toNat)
  case atStart => exact ⟨0, 0, Nat.zero_le _, rfl, rfl⟩
  case round =>
    obtain ⟨k, q, hk, rfl, rfl⟩ := hrel
    by_cases hlt : k < n
    · obtain ⟨b, o, rfl, hb, hx⟩ := HC.out k (by have := HN.out; omega)
      obtain ⟨b2, o2, rfl, hb2, hx2⟩ := HD.out k (by have := HN.out; omega)
      obtain ⟨y, hy⟩ : ∃ y, y = V[k]'(by have := HN.out; omega) := ⟨_, rfl⟩
      rw [← hy] at hx hx2
      have hx := cellI hx
      have hx2 := cellI hx2
      have hx : (w.drewN q).cell? ⟨b, o + k, none⟩ = some (.int .i64 y) := hx
      have hx2 : (w.drewN q).cell? ⟨b2, o2 + k, none⟩ = some (.int .i64 y) := hx2
      clear hy
      obtain ⟨wr, hwr⟩ : ∃ wr, wr = w.drewN q := ⟨_, rfl⟩
      rw [← hwr] at hx hx2 ⊢
      have HWr := Lib.hid hwr
      clear hwr
      go_wp2_with fail
      go_quiet (fail)
      go_wp2_with fail
      go_roundw
      case rel => exact ⟨k + 1, _, by omega, by go_num, by rw [HWr.out, World.drewN_drewN]⟩
      case measure => simp [intOf]; omega
    · obtain rfl : k = n := by omega
      go_wp2
      go_ret
      exact ⟨rfl, q, rfl⟩
theorem cf_dPower : ∀ (args : Array Value) (w : World), (callFunc 53 args).run Try.prog w = .ok (.enter 53 args) w := enters_of Try.func53 (by kernel_rfl) rfl
theorem cf_dSteps : ∀ (args : Array Value) (w : World), (callFunc 45 args).run Try.prog w = .ok (.enter 45 args) w := enters_of Try.func45 (by kernel_rfl) rfl
theorem cf_dSize : ∀ (args : Array Value) (w : World), (callFunc 44 args).run Try.prog w = .ok (.enter 44 args) w := enters_of Try.func44 (by kernel_rfl) rfl
theorem cf_dLoose : ∀ (args : Array Value) (w : World), (callFunc 41 args).run Try.prog w = .ok (.enter 41 args) w := enters_of Try.func41 (by kernel_rfl) rfl
theorem cf_dAll : ∀ (args : Array Value) (w : World), (callFunc 56 args).run Try.prog w = .ok (.enter 56 args) w := enters_of Try.func56 (by kernel_rfl) rfl
theorem cf_dSafe : ∀ (args : Array Value) (w : World), (callFunc 58 args).run Try.prog w = .ok (.enter 58 args) w := enters_of Try.func58 (by kernel_rfl) rfl
theorem cf_rLoose : ∀ (args : Array Value) (w : World), (callFunc 55 args).run Try.prog w = .ok (.enter 55 args) w := enters_of Try.func55 (by kernel_rfl) rfl
theorem cf_rAll : ∀ (args : Array Value) (w : World), (callFunc 57 args).run Try.prog w = .ok (.enter 57 args) w := enters_of Try.func57 (by kernel_rfl) rfl
theorem cf_rSafe : ∀ (args : Array Value) (w : World), (callFunc 59 args).run Try.prog w = .ok (.enter 59 args) w := enters_of Try.func59 (by kernel_rfl) rfl
theorem cf_SameB : ∀ (args : Array Value) (w : World), (callFunc 12 args).run Try.prog w = .ok (.enter 12 args) w := enters_of Try.func12 (by kernel_rfl) rfl
theorem cf_SameInts : ∀ (args : Array Value) (w : World), (callFunc 54 args).run Try.prog w = .ok (.enter 54 args) w := enters_of Try.func54 (by kernel_rfl) rfl
section
variable {a : Act} {ty : TypeId} {pos : String} {d : Option Tmp} {af : Array Edge} {g : Option (Nat × Bool)}
theorem ro_field_dk0 {x : Tmp} {p : Nat} (w : World) (hx : a.tmps.getD x undef = .pointer (some ⟨p, 0, none⟩)) :
    (execOp a.eval { dst := d, op := .fieldAddr 46 (.tmp x) 0, type := ty, pos := pos, after := af, guard := g }).run Try.prog w = .ok (.value (.pointer (some ⟨p, 0, none⟩))) w := by
  simp only [execOp, Act.eval, hx]
  go_simp
theorem ro_field_dk2 {x : Tmp} {p : Nat} (w : World) (hx : a.tmps.getD x undef = .pointer (some ⟨p, 0, none⟩)) :
    (execOp a.eval { dst := d, op := .fieldAddr 46 (.tmp x) 2, type := ty, pos := pos, after := af, guard := g }).run Try.prog w = .ok (.value (.pointer (some ⟨p, 2, none⟩))) w := by
  simp only [execOp, Act.eval, hx]
  go_simp
theorem ro_field_dk3 {x : Tmp} {p : Nat} (w : World) (hx : a.tmps.getD x undef = .pointer (some ⟨p, 0, none⟩)) :
    (execOp a.eval { dst := d, op := .fieldAddr 46 (.tmp x) 3, type := ty, pos := pos, after := af, guard := g }).run Try.prog w = .ok (.value (.pointer (some ⟨p, 3, none⟩))) w := by
  simp only [execOp, Act.eval, hx]
  go_simp
theorem ro_load_bool {x : Tmp} {p k : Nat} {v : Value} (w : World) (hx : a.tmps.getD x undef = .pointer (some ⟨p, k, none⟩)) (h0 : w.cell? ⟨p, k, none⟩ = some v) :
    (execOp a.eval { dst := d, op := .load 4 (.tmp x), type := ty, pos := pos, after := af, guard := g }).run Try.prog w = .ok (.value v) w := by
  simp only [execOp, Act.eval, hx]
  go_simp
theorem ro_load_spots {x : Tmp} {p k : Nat} {v : Value} (w : World) (hx : a.tmps.getD x undef = .pointer (some ⟨p, k, none⟩)) (h0 : w.cell? ⟨p, k, none⟩ = some v) :
    (execOp a.eval { dst := d, op := .load 43 (.tmp x), type := ty, pos := pos, after := af, guard := g }).run Try.prog w = .ok (.value v) w := by
  simp only [execOp, Act.eval, hx]
  go_simp
theorem ro_load_dk {x : Tmp} {p : Nat} {v0 v1 v2 v3 : Value} (w : World) (hx : a.tmps.getD x undef = .pointer (some ⟨p, 0, none⟩)) (h0 : w.cell? ⟨p, 0, none⟩ = some v0) (h1 : w.cell? ⟨p, 1, none⟩ = some v1) (h2 : w.cell? ⟨p, 2, none⟩ = some v2) (h3 : w.cell? ⟨p, 3, none⟩ = some v3) :
    (execOp a.eval { dst := d, op := .load 46 (.tmp x), type := ty, pos := pos, after := af, guard := g }).run Try.prog w = .ok (.value (.agg #[v0, v1, v2, v3])) w := by
  simp only [execOp, Act.eval, hx]
  go_simp
theorem ro_len_spots {x : Tmp} {A : Option Addr} {n c : Nat} (w : World) (hx : a.tmps.getD x undef = .slice A n c) :
    (execOp a.eval { dst := d, op := .call { callee := .builtin .len, args := #[.tmp x], argTypes := #[43] }, type := ty, pos := pos, after := af, guard := g }).run Try.prog w = .ok (.value (.int .i64 (n : Int))) w := by
  simp only [execOp, resolve, Act.eval, hx, List.map_toArray, List.map]
  go_simp
theorem ro_eql_bool {x y : Tmp} {b : Bool} (w : World) (hx : a.tmps.getD x undef = .bool b) (hy : a.tmps.getD y undef = .bool b) :
    (execOp a.eval { dst := d, op := .binOp .eql 4 (.tmp x) (.tmp y) 4, type := ty, pos := pos, after := af, guard := g }).run Try.prog w = .ok (.value (.bool true)) w := by
  simp only [execOp, Act.eval, hx, hy]
  cases b <;> go_simp
end

/-- The world within stands: new memory alone; the disk, the document's disk in its box. -/
structure SD (w w7 : World) (p sb mb bx n c st : Nat) (A P : Option Addr) (pn pc : Nat) (off : Bool) (pl : Option Nat) (B Bf : Nat) (s : DS) (xs : List Spt) (fs : List (Int × Int)) : Prop where
  bel : Below w.heap.size w w7
  box : Blk w7 bx 46 #[.slice A n c, .slice P pn pc, .int .i64 (st : Int), .bool off]
  disk : DiskAt w7 p sb mb pl s
  ref : RefAt w7 B Bf A c P pn pc s xs fs
theorem SD.below {w w7 w8 : World} {p sb mb bx n c st : Nat} {A P : Option Addr} {pn pc : Nat} {off : Bool} {pl : Option Nat} {B Bf : Nat} {s : DS} {xs : List Spt} {fs : List (Int × Int)} (h : SD w w7 p sb mb bx n c st A P pn pc off pl B Bf s xs fs) (hb : Below w7.heap.size w7 w8) : SD w w8 p sb mb bx n c st A P pn pc off pl B Bf s xs fs :=
  ⟨h.bel.trans (hb.mono h.bel.size), h.box.below hb h.box.lt, h.disk.below hb, h.ref.below hb⟩
/-- What the steps of the drawn region leave in their slots. -/
def SB4 (p bx n c st : Nat) (A P : Option Addr) (pn pc : Nat) (off : Bool) (V : List Int) (l l2 : List Nat) (q : Nat) (v : Value) (w : World) : Prop := match q with
  | 0 => v = .pointer (some ⟨p, 0, none⟩)
  | 1 => v = .bool (!off)
  | 2 => v = .pointer (some ⟨bx, 3, none⟩)
  | 3 => v = .bool off
  | 4 => v = .bool (!off)
  | 5 => v = .bool true
  | 6 => v = .bool true
  | 7 => v = .pointer (some ⟨p, 0, none⟩)
  | 8 => v = .int .i64 (st : Int)
  | 9 => v = .pointer (some ⟨bx, 2, none⟩)
  | 10 => v = .int .i64 (st : Int)
  | 11 => v = .bool true
  | 12 => v = .bool true
  | 13 => v = .bool true
  | 14 => v = .pointer (some ⟨p, 0, none⟩)
  | 15 => v = .int .i64 (n : Int)
  | 16 => v = .pointer (some ⟨bx, 0, none⟩)
  | 17 => v = .slice A n c
  | 18 => v = .int .i64 (n : Int)
  | 19 => v = .bool true
  | 20 => v = .bool true
  | 21 => v = .bool true
  | 22 => v = .pointer (some ⟨p, 0, none⟩)
  | 23 => RI w w.heap.size v V
  | 24 => v = .agg #[.slice A n c, .slice P pn pc, .int .i64 (st : Int), .bool off]
  | 25 => RI w w.heap.size v V
  | 26 => v = .bool true
  | 27 => v = .bool true
  | 28 => v = .bool true
  | 29 => v = .pointer (some ⟨p, 0, none⟩)
  | 30 => RB w w.heap.size v l
  | 31 => v = .agg #[.slice A n c, .slice P pn pc, .int .i64 (st : Int), .bool off]
  | 32 => RB w w.heap.size v l
  | 33 => v = .bool true
  | 34 => v = .bool true
  | 35 => v = .bool true
  | 36 => v = .pointer (some ⟨p, 0, none⟩)
  | 37 => RB w w.heap.size v l2
  | 38 => v = .agg #[.slice A n c, .slice P pn pc, .int .i64 (st : Int), .bool off]
  | 39 => RB w w.heap.size v l2
  | 40 => v = .bool true
  | 41 => v = .bool true
  | 42 => v = .bool true
  | _ => True
theorem sb4_below {p bx n c st : Nat} {A P : Option Addr} {pn pc : Nat} {off : Bool} {V : List Int} {l l2 : List Nat} (q : Nat) (x : Value) (w w1 : World) (h : SB4 p bx n c st A P pn pc off V l l2 q x w) (hb : Below w.heap.size w w1) : SB4 p bx n c st A P pn pc off V l l2 q x w1 :=
  match q, h with
  | 0, h => h
  | 1, h => h
  | 2, h => h
  | 3, h => h
  | 4, h => h
  | 5, h => h
  | 6, h => h
  | 7, h => h
  | 8, h => h
  | 9, h => h
  | 10, h => h
  | 11, h => h
  | 12, h => h
  | 13, h => h
  | 14, h => h
  | 15, h => h
  | 16, h => h
  | 17, h => h
  | 18, h => h
  | 19, h => h
  | 20, h => h
  | 21, h => h
  | 22, h => h
  | 23, h => (RK.below h hb).more hb.size
  | 24, h => h
  | 25, h => (RK.below h hb).more hb.size
  | 26, h => h
  | 27, h => h
  | 28, h => h
  | 29, h => h
  | 30, h => (RB.below h hb).more hb.size
  | 31, h => h
  | 32, h => (RB.below h hb).more hb.size
  | 33, h => h
  | 34, h => h
  | 35, h => h
  | 36, h => h
  | 37, h => (RB.below h hb).more hb.size
  | 38, h => h
  | 39, h => (RB.below h hb).more hb.size
  | 40, h => h
  | 41, h => h
  | 42, h => h
  | _ + 43, _ => trivial

theorem Power_o {w : World} {p sb mb : Nat} {pl : Option Nat} {s : DS} (h : DiskAt w p sb mb pl s) {off : Bool} (ho : off = s.off) : Calls Try.prog 53 #[.pointer (some ⟨p, 0, none⟩)] w fun e w' => e = .returned (.bool (!off)) ∧ w = w' := by rw [ho]; exact Power_any w p sb mb pl s h
theorem Steps_o {w : World} {p sb mb : Nat} {pl : Option Nat} {s : DS} (h : DiskAt w p sb mb pl s) {st : Nat} (ho : st = s.steps) : Calls Try.prog 45 #[.pointer (some ⟨p, 0, none⟩)] w fun e w' => e = .returned (.int .i64 (st : Int)) ∧ w = w' := by rw [ho]; exact Steps_any w p sb mb pl s h
theorem Size_o {w : World} {p sb mb : Nat} {pl : Option Nat} {s : DS} (h : DiskAt w p sb mb pl s) {n : Nat} (ho : n = s.safe.length) : Calls Try.prog 44 #[.pointer (some ⟨p, 0, none⟩)] w fun e w' => e = .returned (.int .i64 (n : Int)) ∧ w = w' := by rw [ho]; exact Size_any w p sb mb pl s h

set_option maxRecDepth 100000 in
set_option maxHeartbeats 4000000 in
theorem stands7_any (w : World) (p sb mb : Nat) (pl : Option Nat) (s : DS) (B Bf : Nat) (A : Option Addr) (c : Nat) (P : Option Addr) (pn pc : Nat) (xs : List Spt) (fs : List (Int × Int)) (hd : DiskAt w p sb mb pl s) (hr : RefAt w B Bf A c P pn pc s xs fs) :
    Calls Try.prog 18 #[.pointer (some ⟨p, 0, none⟩), refV A c P pn pc s] w fun e w1 => e = .returned (.bool true) ∧ Below w.heap.size w w1 := by
  have hok := hd.ok
  obtain ⟨n, hn⟩ : ∃ n, n = s.safe.length := ⟨_, rfl⟩
  obtain ⟨st, hs0⟩ : ∃ st, st = s.steps := ⟨_, rfl⟩
  obtain ⟨off, hoff⟩ : ∃ off, off = s.off := ⟨_, rfl⟩
  have HN := Lib.hid hn
  have HS0 := Lib.hid hs0
  have HOFF := Lib.hid hoff
  have HN4 : Hid (n ≤ 4096) := Lib.hid (by rw [hn]; exact hok.num)
  have HLO : Hid (looseF n s.spotF = s.loose) := Lib.hid (by rw [hn]; rfl)
  have HAL : Hid (((List.range n).flatMap fun i => hasL (s.spotF i)) = s.all) := Lib.hid (by rw [hn]; rfl)
  have HSA : Hid (((List.range n).flatMap fun i => (s.spotF i).1) = s.safes) := Lib.hid (by rw [hn, safes_eq]; rfl)
  have HLA : Hid (∀ i, i < n → (hasL (s.spotF i)).length = 512) := Lib.hid (fun i hi => (hok.has (i := i) (by omega)).1)
  have HLS : Hid (∀ i, i < n → ((s.spotF i).1).length = 512) := Lib.hid (fun i hi => (hok.at_ (i := i) (by omega)).1)
  unfold refV
  rw [← hn, ← hs0, ← hoff]
  obtain ⟨W0, hW0⟩ : ∃ W0, W0 = w.alloc (.cells #[.slice A n c, .slice P pn pc, .int .i64 (st : Int), .bool off] 46) := ⟨_, rfl⟩
  have hb0 : Below w.heap.size w W0 := by rw [hW0]; exact (Below.refl _ _).alloc (Nat.le_refl _) _
  have HX0 : Hid (SD w W0 p sb mb w.heap.size n c st A P pn pc off pl B Bf s xs fs) := Lib.hid ⟨hb0, by rw [hW0]; exact Blk.new _ _ _, hd.below hb0, hr.below hb0⟩
  have HW0 := Lib.hid hW0
  unfold dkV
  clear hn hs0 hoff hW0 hb0 hd hr hok
  go_enter Try.func18, Try.ntmps18
  go_wp2_with fail
  rw [← HW0.out]
  rename_i K hK
  refine wp_region_slots (SB4 p w.heap.size n c st A P pn pc off s.loose s.all s.safes) (fun _ w7 => SD w w7 p sb mb w.heap.size n c st A P pn pc off pl B Bf s xs fs) (by kernel_rfl) (by kernel_rfl) (by kernel_rfl) (HX0.out.below (Below.refl _ _).drew) ?_ ?_
  · intro L a w7 q o1 h ho h0 hd
    have hlow : SD w w7 p sb mb w.heap.size n c st A P pn pc off pl B Bf s xs fs := h.world
    revert L a w7
    revert q o1
    refine each_array ?_
    refine ⟨?_, ?_, ?_, ?_, ?_, ?_, ?_, ?_, ?_, ?_, ?_, ?_, ?_, ?_, ?_, ?_, ?_, ?_, ?_, ?_, ?_, ?_, ?_, ?_, ?_, ?_, ?_, ?_, ?_, ?_, ?_, ?_, ?_, ?_, ?_, ?_, ?_, ?_, ?_, ?_, ?_, ?_, ?_, trivial⟩ <;> intro L a w7 h h0 hd hlow
    · exact h.val rfl rfl (ro_move w7 (h.still 0 (by kernel_rfl))) hlow rfl
    · refine h.call rfl rfl (ro_call1 cf_dPower w7 (h.ran 0 _ 5 rfl rfl (hd ⟨0, .data⟩ (by simp) rfl))) ((Power_o hlow.disk HOFF.out).mono ?_)
      rintro r w8 ⟨rfl, hw8⟩
      have hw8 : w8 = w7 := by first | exact hw8 | exact hw8.symm
      subst hw8
      exact ⟨_, rfl, fun k u _ hs => hs, hlow, rfl⟩
    · exact h.val rfl rfl (ro_field_dk3 w7 (h.still 3 (by kernel_rfl))) hlow rfl
    · exact h.val rfl rfl (ro_load_bool w7 (h.ran 2 _ 7 rfl rfl (hd ⟨2, .data⟩ (by simp) rfl)) (hlow.box.cell 3)) hlow rfl
    · exact h.val rfl rfl (ro_not w7 (h.ran 3 _ 8 rfl rfl (hd ⟨3, .data⟩ (by simp) rfl))) hlow rfl
    · exact h.val rfl rfl (ro_eql_bool w7 (h.ran 1 _ 6 rfl rfl (hd ⟨1, .data⟩ (by simp) rfl)) (h.ran 4 _ 9 rfl rfl (hd ⟨4, .data⟩ (by simp) rfl))) hlow rfl
    · exact h.val rfl rfl (ro_move w7 (h.ran 5 _ 10 rfl rfl (hd ⟨5, .data⟩ (by simp) rfl))) hlow rfl
    · exact h.valG rfl (wanted_of rfl rfl rfl (h.ran 6 _ 11 rfl rfl (hd ⟨6, .guard⟩ (by simp) rfl))) (ro_move w7 (h.still 0 (by kernel_rfl))) hlow rfl
    · refine h.callG rfl (wanted_of rfl rfl rfl (h.ran 6 _ 11 rfl rfl (hd ⟨6, .guard⟩ (by simp) rfl))) (ro_call1 cf_dSteps w7 (h.ran 7 _ 12 rfl rfl (hd ⟨7, .data⟩ (by simp) rfl))) ((Steps_o hlow.disk HS0.out).mono ?_)
      rintro r w8 ⟨rfl, hw8⟩
      have hw8 : w8 = w7 := by first | exact hw8 | exact hw8.symm
      subst hw8
      exact ⟨_, rfl, fun k u _ hs => hs, hlow, rfl⟩
    · exact h.valG rfl (wanted_of rfl rfl rfl (h.ran 6 _ 11 rfl rfl (hd ⟨6, .guard⟩ (by simp) rfl))) (ro_field_dk2 w7 (h.still 3 (by kernel_rfl))) hlow rfl
    · exact h.valG rfl (wanted_of rfl rfl rfl (h.ran 6 _ 11 rfl rfl (hd ⟨6, .guard⟩ (by simp) rfl))) (ro_load_int w7 (h.ran 9 _ 14 rfl rfl (hd ⟨9, .data⟩ (by simp) rfl)) (hlow.box.cell 2)) hlow rfl
    · exact h.valG rfl (wanted_of rfl rfl rfl (h.ran 6 _ 11 rfl rfl (hd ⟨6, .guard⟩ (by simp) rfl))) (ro_eql_int w7 (h.ran 8 _ 13 rfl rfl (hd ⟨8, .data⟩ (by simp) rfl)) (h.ran 10 _ 15 rfl rfl (hd ⟨10, .data⟩ (by simp) rfl))) hlow rfl
    · exact h.val rfl rfl (ro_pickTT w7 (h.ran 6 _ 11 rfl rfl (hd ⟨6, .data⟩ (by simp) rfl)) (h.ran 11 _ 16 rfl rfl (hd ⟨11, .data⟩ (by simp) rfl))) hlow rfl
    · exact h.val rfl rfl (ro_move w7 (h.ran 12 _ 17 rfl rfl (hd ⟨12, .data⟩ (by simp) rfl))) hlow rfl
    · exact h.valG rfl (wanted_of rfl rfl rfl (h.ran 13 _ 18 rfl rfl (hd ⟨13, .guard⟩ (by simp) rfl))) (ro_move w7 (h.still 0 (by kernel_rfl))) hlow rfl
    · refine h.callG rfl (wanted_of rfl rfl rfl (h.ran 13 _ 18 rfl rfl (hd ⟨13, .guard⟩ (by simp) rfl))) (ro_call1 cf_dSize w7 (h.ran 14 _ 19 rfl rfl (hd ⟨14, .data⟩ (by simp) rfl))) ((Size_o hlow.disk HN.out).mono ?_)
      rintro r w8 ⟨rfl, hw8⟩
      have hw8 : w8 = w7 := by first | exact hw8 | exact hw8.symm
      subst hw8
      exact ⟨_, rfl, fun k u _ hs => hs, hlow, rfl⟩
    · exact h.valG rfl (wanted_of rfl rfl rfl (h.ran 13 _ 18 rfl rfl (hd ⟨13, .guard⟩ (by simp) rfl))) (ro_field_dk0 w7 (h.still 3 (by kernel_rfl))) hlow rfl
    · exact h.valG rfl (wanted_of rfl rfl rfl (h.ran 13 _ 18 rfl rfl (hd ⟨13, .guard⟩ (by simp) rfl))) (ro_load_spots w7 (h.ran 16 _ 21 rfl rfl (hd ⟨16, .data⟩ (by simp) rfl)) (hlow.box.cell 0)) hlow rfl
    · exact h.valG rfl (wanted_of rfl rfl rfl (h.ran 13 _ 18 rfl rfl (hd ⟨13, .guard⟩ (by simp) rfl))) (ro_len_spots w7 (h.ran 17 _ 22 rfl rfl (hd ⟨17, .data⟩ (by simp) rfl))) hlow rfl
    · exact h.valG rfl (wanted_of rfl rfl rfl (h.ran 13 _ 18 rfl rfl (hd ⟨13, .guard⟩ (by simp) rfl))) (ro_eql_int w7 (h.ran 15 _ 20 rfl rfl (hd ⟨15, .data⟩ (by simp) rfl)) (h.ran 18 _ 23 rfl rfl (hd ⟨18, .data⟩ (by simp) rfl))) hlow rfl
    · exact h.val rfl rfl (ro_pickTT w7 (h.ran 13 _ 18 rfl rfl (hd ⟨13, .data⟩ (by simp) rfl)) (h.ran 19 _ 24 rfl rfl (hd ⟨19, .data⟩ (by simp) rfl))) hlow rfl
    · exact h.val rfl rfl (ro_move w7 (h.ran 20 _ 25 rfl rfl (hd ⟨20, .data⟩ (by simp) rfl))) hlow rfl
    · exact h.valG rfl (wanted_of rfl rfl rfl (h.ran 21 _ 26 rfl rfl (hd ⟨21, .guard⟩ (by simp) rfl))) (ro_move w7 (h.still 0 (by kernel_rfl))) hlow rfl
    · refine h.callG rfl (wanted_of rfl rfl rfl (h.ran 21 _ 26 rfl rfl (hd ⟨21, .guard⟩ (by simp) rfl))) (ro_call1 cf_dLoose w7 (h.ran 22 _ 27 rfl rfl (hd ⟨22, .data⟩ (by simp) rfl))) ((Loose_any w7 p sb mb pl s hlow.disk).mono ?_)
      rintro r w8 ⟨v8, rfl, ho8, hb8⟩
      exact ⟨_, rfl, fun k u _ hs => sb4_below k u w7 w8 hs hb8, hlow.below hb8, OK.rk encIB_len ho8 (Nat.le_refl _)⟩
    · exact h.valG rfl (wanted_of rfl rfl rfl (h.ran 21 _ 26 rfl rfl (hd ⟨21, .guard⟩ (by simp) rfl))) (ro_load_dk w7 (h.still 3 (by kernel_rfl)) (hlow.box.cell 0) (hlow.box.cell 1) (hlow.box.cell 2) (hlow.box.cell 3)) hlow rfl
    · refine h.callG rfl (wanted_of rfl rfl rfl (h.ran 21 _ 26 rfl rfl (hd ⟨21, .guard⟩ (by simp) rfl))) (ro_call1 cf_rLoose w7 (h.ran 24 _ 29 rfl rfl (hd ⟨24, .data⟩ (by simp) rfl))) ((refLoose_any w7 B A n c xs s.spotF (by have h := hlow.ref.row; rw [← HN.out] at h; exact h) (by rw [hlow.ref.len]; exact HN.out.symm) HN4.out P pn pc st off).mono ?_)
      rintro r w8 ⟨v8, rfl, ho8, hb8⟩
      exact ⟨_, rfl, fun k u _ hs => sb4_below k u w7 w8 hs hb8, hlow.below hb8, by rw [← HLO.out]; exact OK.rk encIB_len ho8 (Nat.le_refl _)⟩
    · have r1 : RI w7 w7.heap.size _ _ := (h.ran 23 _ 28 rfl rfl (hd ⟨23, .data⟩ (by simp) rfl))
      have r2 : RI w7 w7.heap.size _ _ := (h.ran 25 _ 30 rfl rfl (hd ⟨25, .data⟩ (by simp) rfl))
      refine h.callG rfl (wanted_of rfl rfl rfl (h.ran 21 _ 26 rfl rfl (hd ⟨21, .guard⟩ (by simp) rfl))) (ro_call2 cf_SameInts w7 rfl rfl) ((sameIntsB _ _ _ w7 _ _ r1 r2).mono ?_)
      rintro r w8 ⟨rfl, q8, rfl⟩
      exact ⟨_, rfl, fun k u _ hs => sb4_below k u w7 _ hs (below_drewN (Below.refl _ _) q8), hlow.below (below_drewN (Below.refl _ _) q8), rfl⟩
    · exact h.val rfl rfl (ro_pickTT w7 (h.ran 21 _ 26 rfl rfl (hd ⟨21, .data⟩ (by simp) rfl)) (h.ran 26 _ 31 rfl rfl (hd ⟨26, .data⟩ (by simp) rfl))) hlow rfl
    · exact h.val rfl rfl (ro_move w7 (h.ran 27 _ 32 rfl rfl (hd ⟨27, .data⟩ (by simp) rfl))) hlow rfl
    · exact h.valG rfl (wanted_of rfl rfl rfl (h.ran 28 _ 33 rfl rfl (hd ⟨28, .guard⟩ (by simp) rfl))) (ro_move w7 (h.still 0 (by kernel_rfl))) hlow rfl
    · refine h.callG rfl (wanted_of rfl rfl rfl (h.ran 28 _ 33 rfl rfl (hd ⟨28, .guard⟩ (by simp) rfl))) (ro_call1 cf_dAll w7 (h.ran 29 _ 34 rfl rfl (hd ⟨29, .data⟩ (by simp) rfl))) ((All_any w7 p sb mb pl s hlow.disk).mono ?_)
      rintro r w8 ⟨v8, rfl, ho8, hb8⟩
      exact ⟨_, rfl, fun k u _ hs => sb4_below k u w7 w8 hs hb8, hlow.below hb8, OB.rbn ho8⟩
    · exact h.valG rfl (wanted_of rfl rfl rfl (h.ran 28 _ 33 rfl rfl (hd ⟨28, .guard⟩ (by simp) rfl))) (ro_load_dk w7 (h.still 3 (by kernel_rfl)) (hlow.box.cell 0) (hlow.box.cell 1) (hlow.box.cell 2) (hlow.box.cell 3)) hlow rfl
    · refine h.callG rfl (wanted_of rfl rfl rfl (h.ran 28 _ 33 rfl rfl (hd ⟨28, .guard⟩ (by simp) rfl))) (ro_call1 cf_rAll w7 (h.ran 31 _ 36 rfl rfl (hd ⟨31, .data⟩ (by simp) rfl))) ((refAll_any w7 B A n c xs s.spotF (by have h := hlow.ref.row; rw [← HN.out] at h; exact h) (by rw [hlow.ref.len]; exact HN.out.symm) HN4.out HLA.out P pn pc st off).mono ?_)
      rintro r w8 ⟨v8, rfl, ho8, hb8⟩
      exact ⟨_, rfl, fun k u _ hs => sb4_below k u w7 w8 hs hb8, hlow.below hb8, by rw [← HAL.out]; exact OB.rbn ho8⟩
    · have r1 : RB w7 w7.heap.size _ _ := (h.ran 30 _ 35 rfl rfl (hd ⟨30, .data⟩ (by simp) rfl))
      have r2 : RB w7 w7.heap.size _ _ := (h.ran 32 _ 37 rfl rfl (hd ⟨32, .data⟩ (by simp) rfl))
      refine h.callG rfl (wanted_of rfl rfl rfl (h.ran 28 _ 33 rfl rfl (hd ⟨28, .guard⟩ (by simp) rfl))) (ro_call2 cf_SameB w7 rfl rfl) ((same_b r1 r2).mono ?_)
      rintro r w8 ⟨rfl, hb8⟩
      exact ⟨_, rfl, fun k u _ hs => sb4_below k u w7 w8 hs hb8, hlow.below hb8, congrArg Value.bool (sameB_self _)⟩
    · exact h.val rfl rfl (ro_pickTT w7 (h.ran 28 _ 33 rfl rfl (hd ⟨28, .data⟩ (by simp) rfl)) (h.ran 33 _ 38 rfl rfl (hd ⟨33, .data⟩ (by simp) rfl))) hlow rfl
    · exact h.val rfl rfl (ro_move w7 (h.ran 34 _ 39 rfl rfl (hd ⟨34, .data⟩ (by simp) rfl))) hlow rfl
    · exact h.valG rfl (wanted_of rfl rfl rfl (h.ran 35 _ 40 rfl rfl (hd ⟨35, .guard⟩ (by simp) rfl))) (ro_move w7 (h.still 0 (by kernel_rfl))) hlow rfl
    · refine h.callG rfl (wanted_of rfl rfl rfl (h.ran 35 _ 40 rfl rfl (hd ⟨35, .guard⟩ (by simp) rfl))) (ro_call1 cf_dSafe w7 (h.ran 36 _ 41 rfl rfl (hd ⟨36, .data⟩ (by simp) rfl))) ((Safe_any w7 p sb mb pl s hlow.disk).mono ?_)
      rintro r w8 ⟨v8, rfl, ho8, hb8⟩
      exact ⟨_, rfl, fun k u _ hs => sb4_below k u w7 w8 hs hb8, hlow.below hb8, OB.rbn ho8⟩
    · exact h.valG rfl (wanted_of rfl rfl rfl (h.ran 35 _ 40 rfl rfl (hd ⟨35, .guard⟩ (by simp) rfl))) (ro_load_dk w7 (h.still 3 (by kernel_rfl)) (hlow.box.cell 0) (hlow.box.cell 1) (hlow.box.cell 2) (hlow.box.cell 3)) hlow rfl
    · refine h.callG rfl (wanted_of rfl rfl rfl (h.ran 35 _ 40 rfl rfl (hd ⟨35, .guard⟩ (by simp) rfl))) (ro_call1 cf_rSafe w7 (h.ran 38 _ 43 rfl rfl (hd ⟨38, .data⟩ (by simp) rfl))) ((refSafe_any w7 B A n c xs s.spotF (by have h := hlow.ref.row; rw [← HN.out] at h; exact h) (by rw [hlow.ref.len]; exact HN.out.symm) HN4.out HLS.out P pn pc st off).mono ?_)
      rintro r w8 ⟨v8, rfl, ho8, hb8⟩
      exact ⟨_, rfl, fun k u _ hs => sb4_below k u w7 w8 hs hb8, hlow.below hb8, by rw [← HSA.out]; exact OB.rbn ho8⟩
    · have r1 : RB w7 w7.heap.size _ _ := (h.ran 37 _ 42 rfl rfl (hd ⟨37, .data⟩ (by simp) rfl))
      have r2 : RB w7 w7.heap.size _ _ := (h.ran 39 _ 44 rfl rfl (hd ⟨39, .data⟩ (by simp) rfl))
      refine h.callG rfl (wanted_of rfl rfl rfl (h.ran 35 _ 40 rfl rfl (hd ⟨35, .guard⟩ (by simp) rfl))) (ro_call2 cf_SameB w7 rfl rfl) ((same_b r1 r2).mono ?_)
      rintro r w8 ⟨rfl, hb8⟩
      exact ⟨_, rfl, fun k u _ hs => sb4_below k u w7 w8 hs hb8, hlow.below hb8, congrArg Value.bool (sameB_self _)⟩
    · exact h.val rfl rfl (ro_pickTT w7 (h.ran 35 _ 40 rfl rfl (hd ⟨35, .data⟩ (by simp) rfl)) (h.ran 40 _ 45 rfl rfl (hd ⟨40, .data⟩ (by simp) rfl))) hlow rfl
    · exact h.val rfl rfl (ro_assign w7 (h.ran 41 _ 46 rfl rfl (hd ⟨41, .data⟩ (by simp) rfl))) hlow rfl
  · intro L a w7 hL hdf hsz2 hw hother hall
    have hkeep := hall 42 _ 4 rfl rfl
    have HX7 : Hid (SD w w7 p sb mb w.heap.size n c st A P pn pc off pl B Bf s xs fs) := hw
    refine hK _ _ ?_
    obtain ⟨tm, df⟩ := a
    obtain rfl : df = [] := hdf
    have htm := tmps_eq [5, 6, 7, 8, 9, 10, 11, 12, 13, 14, 15, 16, 17, 18, 19, 20, 21, 22, 23, 24, 25, 26, 27, 28, 29, 30, 31, 32, 33, 34, 35, 36, 37, 38, 39, 40, 41, 42, 43, 44, 45, 46, 4] (by kernel_rfl) hsz2 hother
    dsimp only at htm hkeep
    simp only [List.foldl] at htm
    generalize tm.getD 5 undef = y5 at htm
    generalize tm.getD 6 undef = y6 at htm
    generalize tm.getD 7 undef = y7 at htm
    generalize tm.getD 8 undef = y8 at htm
    generalize tm.getD 9 undef = y9 at htm
    generalize tm.getD 10 undef = y10 at htm
    generalize tm.getD 11 undef = y11 at htm
    generalize tm.getD 12 undef = y12 at htm
    generalize tm.getD 13 undef = y13 at htm
    generalize tm.getD 14 undef = y14 at htm
    generalize tm.getD 15 undef = y15 at htm
    generalize tm.getD 16 undef = y16 at htm
    generalize tm.getD 17 undef = y17 at htm
    generalize tm.getD 18 undef = y18 at htm
    generalize tm.getD 19 undef = y19 at htm
    generalize tm.getD 20 undef = y20 at htm
    generalize tm.getD 21 undef = y21 at htm
    generalize tm.getD 22 undef = y22 at htm
    generalize tm.getD 23 undef = y23 at htm
    generalize tm.getD 24 undef = y24 at htm
    generalize tm.getD 25 undef = y25 at htm
    generalize tm.getD 26 undef = y26 at htm
    generalize tm.getD 27 undef = y27 at htm
    generalize tm.getD 28 undef = y28 at htm
    generalize tm.getD 29 undef = y29 at htm
    generalize tm.getD 30 undef = y30 at htm
    generalize tm.getD 31 undef = y31 at htm
    generalize tm.getD 32 undef = y32 at htm
    generalize tm.getD 33 undef = y33 at htm
    generalize tm.getD 34 undef = y34 at htm
    generalize tm.getD 35 undef = y35 at htm
    generalize tm.getD 36 undef = y36 at htm
    generalize tm.getD 37 undef = y37 at htm
    generalize tm.getD 38 undef = y38 at htm
    generalize tm.getD 39 undef = y39 at htm
    generalize tm.getD 40 undef = y40 at htm
    generalize tm.getD 41 undef = y41 at htm
    generalize tm.getD 42 undef = y42 at htm
    generalize tm.getD 43 undef = y43 at htm
    generalize tm.getD 44 undef = y44 at htm
    generalize tm.getD 45 undef = y45 at htm
    generalize tm.getD 46 undef = y46 at htm
    generalize tm.getD 4 undef = y4 at htm hkeep
    clear hother hall hsz2 hw hL
    rw [htm]
    clear htm
    simp only [List.setIfInBounds_toArray, List.set_cons_succ, List.set_cons_zero]
    obtain rfl : y4 = .bool true := hkeep
    go_wp2_with fail
    go_ret
    exact ⟨rfl, HX7.out.bel⟩
end Go.Proofs.Ytdghanhpeekbhaa
