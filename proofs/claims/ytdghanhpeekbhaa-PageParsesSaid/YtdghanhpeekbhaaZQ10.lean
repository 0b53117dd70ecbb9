/-
  The walk of skeinlaw08's alive: the document's example.
-/
import Derived.Lib.SlBytesConst
import Derived.Test.YtdghanhpeekbhaaZQ9
import Derived.Test.YtdghanhpeekbhaaZJ14
namespace Go.Proofs.Ytdghanhpeekbhaa
open Go.RowKit Go.Maps
set_option linter.unusedVariables false

def pg0 : PG := ⟨0, 1, 7, []⟩
def pg1 : PG := ⟨0, 1, 7, [[98]]⟩
def pg2 : PG := ⟨0, 1, 7, [[97], [98]]⟩
theorem pg_step1 : pg1 = if pg0.insE 0 [98] = 0 then pg0.insert (0 : Int).toNat [98] else pg0 := by rw [if_pos (by decide)]; rfl
theorem pg_step2 : pg2 = if pg1.insE 0 [97] = 0 then pg1.insert (0 : Int).toNat [97] else pg1 := by rw [if_pos (by decide)]; rfl
theorem pg_e1 : pg0.insE 0 [98] = 0 := by decide
theorem pg_e2 : pg1.insE 0 [97] = 0 := by decide
theorem pg0_room : pg0.room = 200 := by decide
theorem pg2_fit : pg2.Fit := by unfold PG.Fit pg2; decide
theorem pg2_ok : pg2.Ok := ⟨by decide, by intro l hl; simp [pg2] at hl; rcases hl with rfl | rfl <;> decide, by decide, by decide, by decide⟩
theorem pg2_slots : ((pageL pg2).drop 18).take 4 = [255, 1, 254, 1] := by
  have h0 := pg_slot (m := pg2) (k := 0) (by decide)
  have h1 := pg_slot (m := pg2) (k := 1) (by decide)
  have e0 : digits (512 - sumTo pg2.items 1) 2 = [255, 1] := by decide
  have e1 : digits (512 - sumTo pg2.items 2) 2 = [254, 1] := by decide
  rw [e0] at h0
  rw [e1] at h1
  rw [show 4 = 2 + 2 by rfl, List.take_add, List.drop_drop]
  rw [show 18 + 2 * 0 = 18 by rfl] at h0
  rw [show 18 + 2 * 1 = 18 + 2 by rfl] at h1
  rw [h0, h1]
  rfl
theorem pg2_tail : ((pageL pg2).drop 510).take 2 = [98, 97] := by
  have h0 := pg_item (m := pg2) pg2_fit (k := 0) (by decide)
  have h1 := pg_item (m := pg2) pg2_fit (k := 1) (by decide)
  have e0 : 512 - sumTo pg2.items 1 = 511 := by decide
  have e1 : 512 - sumTo pg2.items 2 = 510 := by decide
  rw [e0] at h0
  rw [e1] at h1
  have h0' : ((pageL pg2).drop 511).take 1 = [97] := h0
  have h1' : ((pageL pg2).drop 510).take 1 = [98] := h1
  rw [show 2 = 1 + 1 by rfl, List.take_add, List.drop_drop, h1', show 510 + 1 = 511 by rfl, h0']
  rfl
theorem PgOut.belowB {w W W' : World} {p B C : Nat} {v : Value} {xs : List Sl} {m m' : PG} (h : PgOut W W' p B v xs m m') (hb : Below C w W) (hC : C ≤ W.heap.size) (hp : C ≤ p) (hv : ∀ k, v.ownBlock = some k → C ≤ k) : Below C w W' := by
  obtain ⟨v', xs', _, h2, _⟩ := h
  exact hb.trans (h2.mod.below hC fun k e => by rcases e with rfl | e; exact hp; exact hv k e)
theorem run_b2s0 {w : World} {B : Nat} {v : Value} {l : List Nat} (h : RB w B v l) {s : ByteArray} (hs : strOf l = s) : (convert 22 9 v).run Try.prog w = .ok (.string s) w := by rw [← hs]; exact run_b2s w B v l h
set_option maxRecDepth 100000 in
set_option maxHeartbeats 2000000 in
theorem alive8_any (w : World) : Calls Try.prog 5 #[] w fun e w' => e = .returned (.bool true) ∧ Below w.heap.size w w' := by
  have hcv := run_const
  go_enter Try.func5, Try.ntmps5
  go_wp2_with fail
  refine (pageNew_any w 1 7 (by omega)).mono ?_
  rintro e w1 ⟨rfl, hp1, hb1⟩
  obtain ⟨p, hp⟩ : ∃ p, p = w.heap.size := ⟨_, rfl⟩
  rw [← hp] at hp1 hb1 ⊢
  have hp1 : PageAt w1 p p (.slice none 0 0) [] pg0 := hp1
  have HP1 := Lib.hid hp1
  have HB1 := Lib.hid hb1
  have HPE := Lib.hid hp
  clear hp hp1 hb1
  go_wp2_with fail
  refine (pageRoom_any w1 p p _ [] pg0 HP1.out).mono ?_
  rw [pg0_room]
  rintro e w2 ⟨rfl, rfl⟩
  go_wp2_with fail
  refine (pageInsert_u (HP1.out.below ((Below.refl _ _).alloc (Nat.le_refl _) _)) 0 (RB.one w1 98 (by omega)) pg_step1).mono ?_
  rw [pg_e1]
  rintro e w3 ⟨rfl, hout⟩
  have hb3 := hout.belowB (HB1.out.alloc (Nat.le_of_lt HP1.out.lt) _) (by have := HP1.out.lt; simp; omega) (Nat.le_refl _) (fun k e => by cases e)
  obtain ⟨v3, xs3, hp3, _, _⟩ := hout
  have HP3 := Lib.hid hp3
  have HB3 := Lib.hid hb3
  clear hp3 hb3
  go_wp2_with fail
  refine (pageInsert_u (HP3.out.below ((Below.refl _ _).alloc (Nat.le_refl _) _)) 0 (RB.one w3 97 (by omega)) pg_step2).mono ?_
  rw [pg_e2]
  rintro e w4 ⟨rfl, hout⟩
  have hb4 := hout.belowB (HB3.out.alloc (Nat.le_of_lt HP3.out.lt) _) (by have := HP3.out.lt; simp; omega) (Nat.le_refl _) (fun k e => (HP3.out.row.lt k e).1)
  obtain ⟨v4, xs4, hp4, _, _⟩ := hout
  have HP4 := Lib.hid hp4
  have HB4 := Lib.hid hb4
  clear hp4 hb4
  go_wp2_with fail
  refine (pageLen_n HP4.out (n := 2) rfl).mono ?_
  rintro e w5 ⟨rfl, hw5⟩
  subst w5
  go_wp2_with fail
  refine (pageItem_yes HP4.out (i := 1) (by decide)).mono ?_
  rintro e w5 ⟨⟨A5, n5, c5, rfl, ho5, hn5⟩, hb5⟩
  have ho5 : OB w5 w4.heap.size (.slice A5 n5 c5) [98] := ho5
  have HP5 := Lib.hid (HP4.out.below hb5)
  have HB5 := Lib.hid (HB4.out.trans (hb5.mono (Nat.le_of_lt HP4.out.lt)))
  have HO5 := Lib.hid ho5
  clear ho5 hn5 hb5
  go_wp2_with fail
  refine (pageBytes_any w5 p p v4 xs4 pg2 HP5.out pg2_fit).mono ?_
  rintro e w6 ⟨g, rfl, hg6, hbb6, hb6⟩
  have HP6 := Lib.hid (HP5.out.below hb6)
  have HB6 := Lib.hid (HB5.out.trans (hb6.mono (Nat.le_of_lt HP5.out.lt)))
  have HO6 : Hid (RB w6 w6.heap.size (.slice A5 n5 c5) [98]) := Lib.hid (HO5.out.below hb6).rbn
  have HBB := Lib.hid hbb6
  have hlen := pageL_len pg2_fit
  have hrb6 : RB w6 w6.heap.size (.slice (some ⟨g, 0, none⟩) 512 512) (pageL pg2) := by
    have h1 := hbb6.rb (lo := 0) (m := 512) (c := 512) (by rw [hlen]; omega) (by omega) (by omega) hbb6.size
    rw [List.drop_zero, List.take_of_length_le (by rw [hlen]; omega)] at h1
    exact h1
  have HR6 := Lib.hid hrb6
  clear hbb6 hrb6 hb6 hg6
  go_wp2_with fail
  refine (pageParse_ok w6 pg2 pg2_ok pg2_fit g 0 512 (by omega) (by omega) HBB.out.size HR6.out).mono ?_
  rintro e w7 ⟨q, vq, xq, rfl, hq7, hb7⟩
  have HQ7 := Lib.hid hq7
  have HB7 := Lib.hid (HB6.out.trans (hb7.mono (Nat.le_of_lt HP6.out.lt)))
  have HO7 := Lib.hid (HO6.out.below hb7)
  have HR7 := Lib.hid ((HR6.out.below hb7).more hb7.size)
  have HBB7 := Lib.hid (HBB.out.below hb7 HBB.out.size)
  have hpz7 : p < w7.heap.size := by have := HP6.out.lt; have := hb7.size; omega
  clear hq7 hb7
  have k17 : w7.cell? ⟨g, 17, none⟩ = some (.int .u8 2) := by
    have h1 := HBB7.out.cell (i := 17) (by rw [hlen]; omega)
    have h2 := pg_count pg2
    rw [List.getElem?_eq_getElem (by rw [hlen]; omega)] at h2
    have h3 := Option.some.inj h2
    exact h1.trans (by rw [h3]; rfl)
  have cvb := run_b2s0 HO7.out (s := ⟨#[98]⟩) rfl
  have hr18 := HR7.out.sub (lo := 18) (m := 4) (c' := 494) (by omega) (by omega) (by omega)
  rw [pg2_slots] at hr18
  have hr510 := HR7.out.sub (lo := 510) (m := 2) (c' := 2) (by omega) (by omega) (by omega)
  rw [pg2_tail] at hr510
  have HR18 := Lib.hid hr18
  have HR510 := Lib.hid hr510
  clear hr18 hr510 hlen
  go_wp2_with fail
  have hrn : RB (w7.alloc (.cells #[.int .u8 255, .int .u8 1, .int .u8 254, .int .u8 1] 5)) (w7.alloc (.cells #[.int .u8 255, .int .u8 1, .int .u8 254, .int .u8 1] 5)).heap.size (.slice (some ⟨w7.heap.size, 0, none⟩) 4 4) [255, 1, 254, 1] :=
    RB.newRow w7 _ w7.heap.size #[.int .u8 255, .int .u8 1, .int .u8 254, .int .u8 1] 5 [255, 1, 254, 1] 4 rfl rfl (by decide) (by decide) (by decide) (by omega) (by simp)
  refine (same_b ((HR18.out.alloc (Nat.le_refl _) _).more (by simp)) hrn).mono ?_
  rw [show sameB [255, 1, 254, 1] [255, 1, 254, 1] = true from rfl]
  rintro e w8 ⟨rfl, hb8⟩
  have hb78 : Below w7.heap.size w7 w8 := ((Below.refl _ _).alloc (Nat.le_refl _) _).trans (hb8.mono (by simp))
  have HQ8 := Lib.hid (HQ7.out.below hb78)
  have HB8 := Lib.hid (HB7.out.trans (hb78.mono (Nat.le_of_lt hpz7)))
  have cv2 := run_b2s0 (HR510.out.below hb78) (s := ⟨#[98, 97]⟩) rfl
  clear hb8 hb78 hrn k17 cvb hcv
  go_wp2_with fail
  refine (pageKind_any w8 q _ vq xq pg2 HQ8.out).mono ?_
  rw [show ((pg2.kind : Nat) : Int) = 1 from rfl]
  rintro e w9 ⟨rfl, rfl⟩
  go_wp2_with fail
  refine (pageExtra_any w8 q _ vq xq pg2 HQ8.out).mono ?_
  rw [show ((pg2.extra : Nat) : Int) = 7 from rfl]
  rintro e w9 ⟨rfl, rfl⟩
  go_wp2_with fail
  go_ret
  exact ⟨rfl, by rw [← HPE.out]; exact HB8.out⟩
end Go.Proofs.Ytdghanhpeekbhaa
