/-
  A page in plain words; the walks of page's small functions.
-/
import Derived.Test.YtbagmmncjmbboaaGreatShelfB
import Derived.Test.YtbagmmncjmbboaaGreatShelfD
import Derived.Lib.Overlaps
import Derived.Lib.AppendZerosOnto
import Derived.Test.YtbagmmncjmbboaaGreatF1
namespace Go.Proofs.YtbagmmncjmbboaaGreat
open Go.RowKit Go.Maps
set_option linter.unusedVariables false

/-- A slice value by its parts. -/
abbrev Sl := Option Addr × Nat × Nat

abbrev slV (x : Sl) : Value := .slice x.1 x.2.1 x.2.2

def encSl (x : Sl) : List Value := [.slice x.1 x.2.1 x.2.2]

theorem encSl_len (x : Sl) : (encSl x).length = 1 := rfl

theorem encSl_one (x : Sl) : ∀ u ∈ encSl x, u.oneCell' = true := by intro u hu; simp [encSl] at hu; subst hu; rfl

structure PG where
  lsn : Int
  kind : Nat
  extra : Nat
  items : List (List Nat)

def PG.new (kind : Int) (extra : Nat) : PG := ⟨0, (kind % 256).toNat, extra, []⟩

def PG.free (m : PG) (slots : Int) : Int := 512 - (18 + 2 * slots) - ((m.items.map List.length).sum : Nat)

def PG.room (m : PG) : Int := if m.free (m.items.length + 1) < 0 ∨ 100 ≤ m.items.length then -1 else min (m.free (m.items.length + 1)) 200

def PG.isSlot (m : PG) (i : Int) : Bool := decide (0 ≤ i) && decide (i < m.items.length)

structure PG.Ok (m : PG) : Prop where
  num : m.items.length ≤ 100
  item : ∀ l ∈ m.items, l.length ≤ 200
  lsn : 0 ≤ m.lsn ∧ m.lsn ≤ 9223372036854775807
  kind : m.kind < 256
  extra : m.extra < 4294967296

/-- The block p holds a page: its items' row is its own, from block B on; the items lie in no block that a call on it turns. -/
structure PageAt (w : World) (p B : Nat) (v : Value) (xs : List Sl) (m : PG) : Prop where
  ok : m.Ok
  blk : Blk w p 122 #[.int .i64 m.lsn, .int .u8 (m.kind : Int), .int .u32 (m.extra : Int), v]
  row : OK encSl 1 22 w B v xs
  len : xs.length = m.items.length
  item : ∀ (i : Nat) x l, xs[i]? = some x → m.items[i]? = some l → RB w w.heap.size (slV x) l ∧ Off (fun k => k = p ∨ v.ownBlock = some k) (slV x) l
  far : v.ownBlock ≠ some p
  base : B ≤ p

section

variable {w w' : World} {p B : Nat} {v : Value} {xs : List Sl} {m : PG}

theorem PageAt.mod {S : Nat → Prop} (h : PageAt w p B v xs m) (hm : Mod S w w') (hp : ¬ S p) (hv : ∀ b, v.ownBlock = some b → ¬ S b) (hi : ∀ (i : Nat) x l, xs[i]? = some x → m.items[i]? = some l → Off S (slV x) l) : PageAt w' p B v xs m :=
  ⟨h.ok, h.blk.mod hm hp, h.row.mod hm hv, h.len, fun i x l hx hl => ⟨(h.item i x l hx hl).1.mod hm (hi i x l hx hl), (h.item i x l hx hl).2⟩, h.far, h.base⟩

theorem PageAt.below (h : PageAt w p B v xs m) (hb : Below w.heap.size w w') : PageAt w' p B v xs m :=
  h.mod (Mod.of_below hb (fun _ => False)) id (fun _ _ => id) (fun _ _ _ _ _ => .inr fun _ _ => id)

theorem PageAt.lt (h : PageAt w p B v xs m) : p < w.heap.size := h.blk.lt

theorem PageAt.alloc (h : PageAt w p B v xs m) (o : Obj) : PageAt (w.alloc o) p B v xs m := h.below ((Below.refl _ _).alloc (Nat.le_refl _) _)

/-- The row's slice, open. -/
theorem PageAt.open_ (h : PageAt w p B v xs m) : ∃ A c, v = .slice A m.items.length c := by
  obtain ⟨A, c, e, _, _, _, _⟩ := (h.row.rk encSl_len (Nat.le_refl _)).open_
  exact ⟨A, c, by rw [e, h.len]⟩

/-- One item's cell. -/
theorem PageAt.at_ (h : PageAt w p B v xs m) {i : Nat} (hi : i < m.items.length) :
    ∃ b o, (∃ c, v = .slice (some ⟨b, o, none⟩) m.items.length c) ∧ b < w.heap.size ∧ ∃ x : Sl, xs[i]? = some x ∧ w.cell? ⟨b, o + i, none⟩ = some (slV x) ∧ RB w w.heap.size (slV x) m.items[i] := by
  obtain ⟨A, c, e, _, _, _, HA⟩ := (h.row.rk encSl_len (Nat.le_refl _)).open_
  have hix : i < xs.length := by rw [h.len]; exact hi
  obtain ⟨b, o, rfl, hb, hx⟩ := HA.out i hix
  refine ⟨b, o, ⟨c, by rw [e, h.len]⟩, hb, xs[i], List.getElem?_eq_getElem hix, ?_, (h.item i _ _ (List.getElem?_eq_getElem hix) (List.getElem?_eq_getElem hi)).1⟩
  have := hx 0 _ rfl
  simpa using this

end

theorem pageNew_any (w : World) (kind : Int) (extra : Nat) (he : extra < 4294967296) :
    Calls Tryz.prog 63 #[.int .i64 kind, .int .u32 (extra : Int)] w fun e w' => e = .returned (.pointer (some ⟨w.heap.size, 0, none⟩)) ∧ PageAt w' w.heap.size w.heap.size (.slice none 0 0) [] (PG.new kind extra) ∧ Below w.heap.size w w' := by
  have hk : ((kind % 256).toNat : Int) = kind % 256 := by omega
  have HK := Lib.hid hk
  clear hk
  go_enter Tryz.func63, Tryz.ntmps63
  go_wp2_with fail
  go_ret
  refine ⟨rfl, ⟨⟨by simp [PG.new], by simp [PG.new], by simp [PG.new], by unfold PG.new; dsimp only; omega, he⟩, ?_, OK.nil _ _, rfl, by simp, by simp [Value.ownBlock], Nat.le_refl _⟩, (Below.refl _ _).alloc (Nat.le_refl _) _⟩
  unfold PG.new
  dsimp only
  rw [HK.out]
  exact Blk.new _ _ _

theorem pageLen_any (w : World) (p B : Nat) (v : Value) (xs : List Sl) (m : PG) (h : PageAt w p B v xs m) : Calls Tryz.prog 36 #[.pointer (some ⟨p, 0, none⟩)] w fun e w' => e = .returned (.int .i64 (m.items.length : Int)) ∧ w = w' := by
  obtain ⟨A, c, rfl⟩ := h.open_
  have a3 := h.blk.cell 3
  clear h
  go_enter Tryz.func36, Tryz.ntmps36
  go_wp2
  go_ret
  exact ⟨rfl, rfl⟩

theorem pageIsSlot_any (w : World) (p B : Nat) (v : Value) (xs : List Sl) (m : PG) (h : PageAt w p B v xs m) (i : Int) : Calls Tryz.prog 87 #[.pointer (some ⟨p, 0, none⟩), .int .i64 i] w fun e w' => e = .returned (.bool (m.isSlot i)) ∧ w = w' := by
  have H := Lib.hid h
  clear h
  by_cases h0 : 0 ≤ i
  · go_enter Tryz.func87, Tryz.ntmps87
    go_wp2_with fail
    refine (pageLen_any w p B v xs m H.out).mono ?_
    rintro e w1 ⟨rfl, rfl⟩
    go_wp2_with fail
    go_ret
    refine ⟨?_, rfl⟩
    unfold PG.isSlot
    simp [h0]
  · have e : m.isSlot i = false := by unfold PG.isSlot; simp [h0]
    have hE := Lib.hid e
    clear e
    go_enter Tryz.func87, Tryz.ntmps87
    go_wp2_with fail
    go_ret
    exact ⟨by rw [hE.out]; rfl, rfl⟩

theorem pageKind_any (w : World) (p B : Nat) (v : Value) (xs : List Sl) (m : PG) (h : PageAt w p B v xs m) : Calls Tryz.prog 95 #[.pointer (some ⟨p, 0, none⟩)] w fun e w' => e = .returned (.int .i64 (m.kind : Int)) ∧ w = w' := by
  have a1 := h.blk.cell 1
  have hk := h.ok.kind
  clear h
  go_enter Tryz.func95, Tryz.ntmps95
  go_wp2
  go_ret
  exact ⟨rfl, rfl⟩

theorem pageExtra_any (w : World) (p B : Nat) (v : Value) (xs : List Sl) (m : PG) (h : PageAt w p B v xs m) : Calls Tryz.prog 96 #[.pointer (some ⟨p, 0, none⟩)] w fun e w' => e = .returned (.int .u32 (m.extra : Int)) ∧ w = w' := by
  have a2 := h.blk.cell 2
  clear h
  go_enter Tryz.func96, Tryz.ntmps96
  go_wp2
  go_ret
  exact ⟨rfl, rfl⟩

theorem pageLSN_any (w : World) (p B : Nat) (v : Value) (xs : List Sl) (m : PG) (h : PageAt w p B v xs m) : Calls Tryz.prog 37 #[.pointer (some ⟨p, 0, none⟩)] w fun e w' => e = .returned (.int .i64 m.lsn) ∧ w = w' := by
  have a0 := h.blk.cell 0
  clear h
  go_enter Tryz.func37, Tryz.ntmps37
  go_wp2
  go_ret
  exact ⟨rfl, rfl⟩

theorem slotAt_any (w : World) (i : Int) (hi : 0 ≤ i ∧ i ≤ 1000000) : Calls Tryz.prog 67 #[.int .i64 i] w fun e w' => e = .returned (.int .i64 (18 + 2 * i)) ∧ w = w' := by
  go_enter Tryz.func67, Tryz.ntmps67
  go_wp2
  go_ret
  exact ⟨rfl, rfl⟩

/-- bytes.Clone. -/
theorem clone_any (w : World) (v : Value) (l : List Nat) (hv : RB w w.heap.size v l) : Calls Tryz.prog 73 #[v] w fun e w' => ∃ v', e = .returned v' ∧ OB w' w.heap.size v' l ∧ Below w.heap.size w w' := by
  obtain ⟨h1, h2, A, c, rfl, h3, h4, h5⟩ := hv
  cases A with
  | none =>
    have hl : l = [] := by rcases h5 with h5 | ⟨b, off, e, _⟩; exact h5; cases e
    subst hl
    refine (Tryz.bytes_Clone_nil 0 c w).mono ?_
    rintro e w' ⟨rfl, rfl⟩
    exact ⟨_, rfl, OB.nil _ _, Below.refl _ _⟩
  | some a =>
    refine (Tryz.bytes_Clone_at a l.length c (l.map fun x : Nat => (x : Int)) w (by simp) (by omega) ?_).mono ?_
    · intro i hi
      rcases h5 with h5 | ⟨b, off, e, hb, hc⟩
      · subst h5; simp at hi
      · injection e with e
        subst e
        have e2 : (⟨b, off, none⟩ : Addr).add i = ⟨b, off + i, none⟩ := add_none
        rw [e2, hc i l[i] (List.getElem?_eq_getElem hi)]
        simp [List.getD, hi]
    · rintro e w' ⟨v', rfl, hr, hne, hb⟩
      refine ⟨v', rfl, ⟨h1, h2, ?_⟩, hb⟩
      have e3 : (l.map fun x : Nat => (x : Int)).map (Value.int .u8) = l.map bcell := by rw [List.map_map]; rfl
      rw [← e3]; exact hr

theorem pageItem_any (w : World) (p B : Nat) (v : Value) (xs : List Sl) (m : PG) (h : PageAt w p B v xs m) (i : Int) :
    Calls Tryz.prog 97 #[.pointer (some ⟨p, 0, none⟩), .int .i64 i] w fun e w' =>
      (m.isSlot i = false ∧ e = .returned (.tuple #[.slice none 0 0, .int .i64 82]) ∧ w' = w) ∨ (m.isSlot i = true ∧ ∃ v', e = .returned (.tuple #[v', .int .i64 0]) ∧ OB w' w.heap.size v' (m.items.getD i.toNat []) ∧ Below w.heap.size w w') := by
  have H := Lib.hid h
  have a3 := h.blk.cell 3
  cases hs : m.isSlot i with
  | false =>
    clear h a3
    go_enter Tryz.func97, Tryz.ntmps97
    go_wp2_with fail
    refine (pageIsSlot_any w p B v xs m H.out i).mono ?_
    rw [hs]
    rintro e w1 ⟨rfl, rfl⟩
    go_wp2_with fail
    go_ret2
    exact .inl ⟨by first | rfl | trivial, rfl, rfl⟩
  | true =>
    obtain ⟨k, rfl⟩ : ∃ k : Nat, i = (k : Int) := ⟨i.toNat, by unfold PG.isSlot at hs; simp at hs; omega⟩
    have hk : k < m.items.length := by unfold PG.isSlot at hs; simp at hs; omega
    obtain ⟨b, o, ⟨c, rfl⟩, hb, x, hx, hc, hr⟩ := h.at_ hk
    have hg : m.items.getD k [] = m.items[k] := by simp [List.getD, hk]
    have HR := Lib.hid hr
    have HG := Lib.hid hg
    have hnum := h.ok.num
    obtain ⟨x0, x1, x2⟩ := x
    clear h hr hg hx
    go_enter Tryz.func97, Tryz.ntmps97
    go_wp2_with fail
    refine (pageIsSlot_any w p B _ xs m H.out (k : Int)).mono ?_
    rw [hs]
    rintro e w1 ⟨rfl, rfl⟩
    clear hs
    go_wp2_with fail
    refine (clone_any w _ _ HR.out).mono ?_
    rintro e w2 ⟨v2, rfl, ho, hb2⟩
    have HO := Lib.hid ho
    have HB := Lib.hid hb2
    obtain ⟨A2, c2, rfl, _, _, _, _⟩ := ho.rbn.open_
    clear ho hb2
    go_wp2_with fail
    go_ret2
    exact .inr ⟨by first | rfl | trivial, _, rfl, by rw [Int.toNat_natCast, HG.out]; exact HO.out, HB.out⟩

/-- How many bytes the first k items have. -/
def sumTo (L : List (List Nat)) (k : Nat) : Nat := ((L.take k).map List.length).sum

theorem sumTo_succ {L : List (List Nat)} {k : Nat} (h : k < L.length) : sumTo L (k + 1) = sumTo L k + L[k].length := by
  unfold sumTo
  rw [List.take_succ_eq_append_getElem h, List.map_append, List.sum_append]
  simp

theorem sumTo_all (L : List (List Nat)) : sumTo L L.length = (L.map List.length).sum := by unfold sumTo; rw [List.take_length]

theorem sumTo_le {L : List (List Nat)} (h : ∀ l ∈ L, l.length ≤ 200) (k : Nat) : sumTo L k ≤ 200 * k := by
  unfold sumTo
  induction k generalizing L with
  | zero => simp
  | succ k ih =>
    cases L with
    | nil => simp
    | cons a r =>
      have := ih (L := r) (fun l hl => h l (List.mem_cons_of_mem _ hl))
      have := h a (List.mem_cons_self ..)
      simp only [List.take_succ_cons, List.map_cons, List.sum_cons]
      omega

set_option maxHeartbeats 1000000 in
theorem pageFree_any (w : World) (p B : Nat) (v : Value) (xs : List Sl) (m : PG) (h : PageAt w p B v xs m) (k : Int) (hk : 0 ≤ k ∧ k ≤ 1000) : Calls Tryz.prog 110 #[.pointer (some ⟨p, 0, none⟩), .int .i64 k] w fun e w' => e = .returned (.int .i64 (m.free k)) ∧ w = w' := by
  have H := Lib.hid h
  have a3 := h.blk.cell 3
  obtain ⟨A, c, rfl⟩ := h.open_
  have hnum := h.ok.num
  have HIT := Lib.hid h.ok.item
  clear h
  go_enter Tryz.func110, Tryz.ntmps110
  go_wp2_with fail
  refine (slotAt_any w k (by omega)).mono ?_
  rintro e w1 ⟨rfl, rfl⟩
  go_wp2_with fail
  go_loopw [5, 16] (fun n i wr => ∃ j : Nat, j ≤ m.items.length ∧ i = .int .i64 j ∧ n = .int .i64 (512 - (18 + 2 * k) - (sumTo m.items j : Nat)) ∧ wr = w) (fun n i wr => m.items.length - (intOf i).toNat)
  case atStart => exact ⟨0, Nat.zero_le _, rfl, by simp [sumTo], rfl⟩
  case round =>
    obtain ⟨j, hj, rfl, rfl, rfl⟩ := hrel
    by_cases hjl : j < m.items.length
    · obtain ⟨b, o, ⟨c', e⟩, hb, x, hx, hc, hr⟩ := H.out.at_ hjl
      injection e with e _ e2
      subst e e2
      obtain ⟨x0, x1, x2⟩ := x
      obtain ⟨A4, c4, e4, _, _, _, _⟩ := hr.open_
      have e5 : x1 = m.items[j].length := by injection e4
      subst e5
      have hss := sumTo_succ hjl
      have hle := sumTo_le HIT.out j
      have hil := HIT.out m.items[j] (List.getElem_mem hjl)
      have HSS := Lib.hid hss
      obtain ⟨q, hq⟩ : ∃ q, q = m.items[j].length := ⟨_, rfl⟩
      rw [← hq] at hc hil HSS
      clear hx hr e4 hss hq
      go_wp2_with fail
      go_roundw
      case rel => exact ⟨j + 1, by omega, by go_num, by rw [HSS.out]; go_num, by first | rfl | trivial⟩
      case measure => simp [intOf]; omega
    · obtain rfl : j = m.items.length := by omega
      have hf : m.free k = 512 - (18 + 2 * k) - (sumTo m.items m.items.length : Nat) := by rw [sumTo_all]; rfl
      have HF := Lib.hid hf
      clear hf
      go_wp2_with fail
      go_ret
      exact ⟨by rw [HF.out]; rfl, rfl⟩

set_option maxRecDepth 100000 in
theorem pageRoom_any (w : World) (p B : Nat) (v : Value) (xs : List Sl) (m : PG) (h : PageAt w p B v xs m) : Calls Tryz.prog 88 #[.pointer (some ⟨p, 0, none⟩)] w fun e w' => e = .returned (.int .i64 m.room) ∧ w = w' := by
  have H := Lib.hid h
  have hnum := h.ok.num
  obtain ⟨f, hf⟩ : ∃ f, f = m.free (m.items.length + 1) := ⟨_, rfl⟩
  have hr : m.room = if f < 0 ∨ 100 ≤ m.items.length then -1 else min f 200 := by rw [hf]; rfl
  have HF := Lib.hid hf
  have HR := Lib.hid hr
  have hmin : ∀ W ty, (Builtin.min_ #[3, 3] ty #[.int .i64 f, .int .i64 200]).run Tryz.prog W = .ok (.int .i64 (min f 200)) W := by
    intro W ty
    simp [Builtin.min_, Builtin.min2, List.foldlM]
    split <;> omega
  clear h hf hr
  by_cases hf0 : f < 0
  · go_enter Tryz.func88, Tryz.ntmps88
    go_wp2_with fail
    refine (pageLen_any w p B v xs m H.out).mono ?_
    rintro e w1 ⟨rfl, rfl⟩
    go_wp2_with fail
    refine (pageFree_any w p B v xs m H.out _ (by omega)).mono ?_
    rw [← HF.out]
    rintro e w1 ⟨rfl, rfl⟩
    go_wp2_with fail
    go_ret
    exact ⟨by rw [HR.out, if_pos (.inl hf0)]; rfl, rfl⟩
  · have g0 : decide (f < 0) = false := by simpa using hf0
    have HF0 := Lib.hid hf0
    clear hf0
    by_cases hn : 100 ≤ m.items.length
    · have g1 : decide (100 ≤ m.items.length) = true := by simpa using hn
      have HNN := Lib.hid hn
      have HN3 := Lib.hid hn
      clear hn
      go_enter Tryz.func88, Tryz.ntmps88
      go_wp2_with fail
      refine (pageLen_any w p B v xs m H.out).mono ?_
      rintro e w1 ⟨rfl, rfl⟩
      go_wp2_with fail
      refine (pageFree_any w p B v xs m H.out _ (by omega)).mono ?_
      rw [← HF.out]
      rintro e w1 ⟨rfl, rfl⟩
      clear hnum
      go_wp2_with fail
      refine (pageLen_any w p B v xs m H.out).mono ?_
      rintro e w1 ⟨rfl, rfl⟩
      obtain ⟨q, hq⟩ : ∃ q, q = m.items.length := ⟨_, rfl⟩
      rw [← hq] at HNN
      rw [← hq]
      have hqq : 100 ≤ q := HNN.out
      clear g1 hq HNN
      go_wp2_with fail
      go_ret
      exact ⟨by rw [HR.out, if_pos (.inr HN3.out)]; rfl, rfl⟩
    · have g1 : decide (100 ≤ m.items.length) = false := by simpa using hn
      have HNN := Lib.hid hn
      have HN3 := Lib.hid hn
      clear hn
      go_enter Tryz.func88, Tryz.ntmps88
      go_wp2_with fail
      refine (pageLen_any w p B v xs m H.out).mono ?_
      rintro e w1 ⟨rfl, rfl⟩
      go_wp2_with fail
      refine (pageFree_any w p B v xs m H.out _ (by omega)).mono ?_
      rw [← HF.out]
      rintro e w1 ⟨rfl, rfl⟩
      clear hnum
      go_wp2_with fail
      refine (pageLen_any w p B v xs m H.out).mono ?_
      rintro e w1 ⟨rfl, rfl⟩
      obtain ⟨q, hq⟩ : ∃ q, q = m.items.length := ⟨_, rfl⟩
      rw [← hq] at HNN
      rw [← hq]
      have hqq : ¬ 100 ≤ q := HNN.out
      clear g1 hq HNN
      go_wp2_with fail
      go_ret
      exact ⟨by rw [HR.out, if_neg (by have := HF0.out; have := HN3.out; omega)]; rfl, rfl⟩

end Go.Proofs.YtbagmmncjmbboaaGreat

/-
  slices.Delete at a row of slices, one element; page's Remove.
-/
namespace Go.Proofs.YtbagmmncjmbboaaGreat
open Go.RowKit Go.Maps Go.Sort Go.Shelf
set_option linter.unusedVariables false

theorem putRow_blk {α : Type} [Inhabited α] {en : α → Value} {w : World} {g t q : Nat} {cs : Array Value} (h : Blk w g t cs) (d : Array α) : Blk (putRow en (Sort.ahead w q) g 0 d) g t (putCells en 0 d cs) := by
  unfold Blk at h ⊢
  simp [putRow, mapBlock, onCells, Sort.ahead, Array.getElem?_modify, h]

theorem putRow_mod {α : Type} [Inhabited α] {en : α → Value} {w : World} {g q : Nat} (d : Array α) : Mod (fun k => k = g) w (putRow en (Sort.ahead w q) g 0 d) := by
  refine ⟨rfl, rfl, rfl, by simp [putRow, mapBlock, Sort.ahead], fun k hk hn => ?_⟩
  have hn' : ¬ g = k := fun e => hn e.symm
  simp [putRow, mapBlock, Sort.ahead, Array.getElem?_modify, hn']

theorem flat_encSl (xs : List Sl) : xs.flatMap encSl = xs.map slV := by
  induction xs with
  | nil => rfl
  | cons x r ih => rw [List.flatMap_cons, List.map_cons, ih]; rfl

theorem putCells_take (R Z : List Sl) (cur : Array Value) (h : R.length ≤ cur.size) : (putCells slV 0 (R ++ Z).toArray cur).toList.take R.length = R.map slV := by
  apply List.ext_getElem?
  intro j
  rw [List.getElem?_take]
  split
  · rename_i hj
    have hj2 : j < cur.size := by omega
    rw [Array.getElem?_toList]
    simp [putCells, hj, hj2, List.getElem?_append_left hj]
    omega
  · rename_i hj
    rw [List.getElem?_map, List.getElem?_eq_none (by omega)]; rfl

/-- What a call on a page turns, and where its row lies behind it. -/
structure PgStep (w w' : World) (p : Nat) (v v' : Value) : Prop where
  mod : Mod (fun k => k = p ∨ v.ownBlock = some k) w w'
  own : v'.ownBlock = v.ownBlock ∨ ∀ b, v'.ownBlock = some b → w.heap.size ≤ b

theorem PgStep.refl (w : World) (p : Nat) (v : Value) : PgStep w w p v v := ⟨Mod.refl _ _, .inl rfl⟩

def PG.remove (m : PG) (k : Nat) : PG := { m with items := m.items.eraseIdx k }

theorem mem_erase {α : Type} {l : List α} {k : Nat} {x : α} (h : x ∈ l.eraseIdx k) : x ∈ l := List.mem_of_mem_eraseIdx h

theorem PG.Ok.remove {m : PG} (h : m.Ok) (k : Nat) : (m.remove k).Ok :=
  ⟨by unfold PG.remove; dsimp only; rw [List.length_eraseIdx]; have := h.num; split <;> omega, fun l hl => h.item l (mem_erase hl), h.lsn, h.kind, h.extra⟩
end Go.Proofs.YtbagmmncjmbboaaGreat

/-
  slices.Insert at a row of slices, one element.
-/
namespace Go.Proofs.YtbagmmncjmbboaaGreat
open Go.RowKit Go.Maps Go.Sort Go.Shelf
set_option linter.unusedVariables false

/-- A copy into a row of slices. -/
theorem wpList_copySl {ops : Array Oper} {rest : List Oper} {o : Oper} {a : Act} {Q : Exit → Act → World → Prop} {w : World} (hgd : o.guard = none) (x y : Operand) (hop : o.op = .call { callee := .builtin .copy, args := #[x, y], argTypes := #[32, 32] })
    (g d dl dc b s sl sc : Nat) (cur : Array Value) (cs : List Value) (hx : a.eval x = .slice (some ⟨g, d, none⟩) dl dc) (hy : a.eval y = .slice (some ⟨b, s, none⟩) sl sc) (hB : Blk w g 22 cur) (hn : cs.length = Nat.min sl dl)
    (hsrc : ∀ (j : Nat) v, cs[j]? = some v → w.cell? ⟨b, s + j, none⟩ = some v) (hfit : d + cs.length ≤ cur.size) (h1 : ∀ v ∈ cs, v.oneCell' = true)
    (h : ∀ w' u, Blk w' g 22 (cur.toList.take d ++ cs ++ cur.toList.drop (d + cs.length)).toArray → Mod (fun k => k = g) w w' → wpList Tryz.prog ops Q rest (a.put o.dst u) w') : wpList Tryz.prog ops Q (o :: rest) a w := by
  refine wpList_plain hgd fun K' hK' => ?_
  have hrun := fun ty => run_copy_row (P := Tryz.prog) w 32 32 ty 22 g d dl dc ⟨b, s, none⟩ sl sc cur 22 cs Tryz.underlying32 (by kernel_rfl) hB hn (fun j v hj => by rw [add_none]; exact hsrc j v hj) hfit h1
  unfold Oper.wp
  simp only [execOp, hop, resolve, invoke, builtin, Sem.run_bind, Sem.run_pure, Result.andThen_ok, List.map_toArray, List.map_cons, List.map_nil, hx, hy, hrun]
  exact hK' _ _ (h _ _ (setRow_heap w g _ _ _ _ hB) ((Mod.refl (fun k => k = g) w).setRow (fun _ => rfl) _))

theorem slV_one (l : List Sl) : ∀ v ∈ l.map slV, v.oneCell' = true := by
  intro v hv
  obtain ⟨x, _, rfl⟩ := List.mem_map.1 hv
  rfl

/-- What two copies leave: one element more, at its place. -/
theorem ins_cells {cur : List Value} {D : List Value} {u : Value} {i n : Nat} (hi : i < n) (hD : D.length = n - i) (hc : n + 1 ≤ cur.length) :
    ((((cur.take (i + 1) ++ D ++ cur.drop (i + 1 + D.length)).take i ++ [u] ++ (cur.take (i + 1) ++ D ++ cur.drop (i + 1 + D.length)).drop (i + 1)))).take (n + 1) = cur.take i ++ [u] ++ D := by
  have h1 : (cur.take (i + 1) ++ D ++ cur.drop (i + 1 + D.length)).take i = cur.take i := by
    rw [List.append_assoc, List.take_append_of_le_length (by rw [List.length_take]; omega), List.take_take]
    congr 1; omega
  have h2 : (cur.take (i + 1) ++ D ++ cur.drop (i + 1 + D.length)).drop (i + 1) = D ++ cur.drop (i + 1 + D.length) := by
    rw [List.append_assoc, List.drop_left' (by rw [List.length_take]; omega)]
  rw [h1, h2]
  have h3 : (cur.take i ++ [u] ++ D).length = n + 1 := by simp; omega
  rw [← List.append_assoc, List.take_left' h3]

set_option maxRecDepth 100000 in
set_option maxHeartbeats 1000000 in
/-- .. where there is room, ahead of the end. -/
theorem ins_room (w : World) (xs : List Sl) (y : Sl) (i n g cap h0 : Nat) (cur : Array Value) (hg : Blk w g 22 cur) (hn : xs.length = n) (hn1 : n ≤ 1000) (hsz : cur.size = cap) (htk : cur.toList.take n = xs.map slV) (hi : i < n) (hroom : n + 1 ≤ cap) (hcm : cap ≤ 9223372036854775807) (hh : Blk w h0 22 #[slV y]) (hne : h0 ≠ g) :
    Calls Tryz.prog 89 #[.slice (some ⟨g, 0, none⟩) n cap, .int .i64 (i : Int), .slice (some ⟨h0, 0, none⟩) 1 1] w fun e w' => e = .returned (.slice (some ⟨g, 0, none⟩) (n + 1) cap) ∧ ∃ cur', Blk w' g 22 cur' ∧ cur'.size = cap ∧ cur'.toList.take (n + 1) = (xs.take i ++ [y] ++ xs.drop i).map slV ∧ Mod (fun k => k = g) w w' := by
  have hz2 : ¬ ((i : Int) = (n : Int)) := by omega
  have hov : ∀ lb cb, (callFunc 111 #[.slice (some ⟨h0, 0, none⟩) 1 1, .slice (some ⟨g, i + 1, none⟩) lb cb]).run Tryz.prog w = .ok (.value (.bool false)) w := fun lb cb => by
    have hsa : w.shape? h0 = some (22, 1) := by unfold Blk at hh; simp [World.shape?, hh]
    have hsb : w.shape? g = some (22, cap) := by unfold Blk at hg; simp [World.shape?, hg, hsz]
    rw [run_callFunc_extern Tryz.func111 (by kernel_rfl) (by kernel_rfl) (by kernel_rfl) (e := Extern.SlicesOverlaps.overlaps #[32, 32] #[4]) (by kernel_rfl),
      Lib.run_overlaps_apart w 32 4 22 Tryz.underlying32 1 Tryz.sizeOf22 ⟨h0, 0, none⟩ ⟨g, i + 1, none⟩ 1 1 lb cb hne 22 22 1 cap hsa hsb (by omega) (hh.frozen 0) (hh.frozen 1)]
    rfl
  have hw1 : IntKind.i64.wrap ((i : Int) + 1) = (i : Int) + 1 := by rw [IntKind.wrap_i64]; omega
  have hw2 : IntKind.i64.wrap ((n : Int) + 1) = (n : Int) + 1 := by rw [IntKind.wrap_i64]; omega
  have hlt1 : ¬ ((cap : Int) < (n : Int) + 1) := by omega
  have htn : ((i : Int) + 1).toNat = i + 1 := by omega
  have htn2 : ((n : Int) + 1).toNat = n + 1 := by omega
  have hb0 : (0 : Int) ≤ (i : Int) + 1 := by omega
  have hb1 : (i : Int) + 1 ≤ (n : Int) + 1 := by omega
  have hb2 : (n : Int) + 1 ≤ cap := by omega
  have hin : i ≤ n := by omega
  have hin2 : i ≤ n + 1 := by omega
  have hb3 : (i : Int) ≤ (n : Int) + 1 := by omega
  have hb4 : ¬ (cap = i + 1) := by omega
  have hb5 : ¬ (cap = i) := by omega
  go_enter Tryz.func89, Tryz.ntmps89
  go_wp2_with (simp only [hov])
  have hD : ((xs.drop i).map slV).length = n - i := by rw [List.length_map, List.length_drop, hn]
  have hcells : ∀ (j : Nat) v, ((xs.drop i).map slV)[j]? = some v → w.cell? ⟨g, i + j, none⟩ = some v := by
    intro j v hj
    rw [hg.cell, ← Array.getElem?_toList]
    have hjn : i + j < n := by have := (List.getElem?_eq_some_iff.1 hj).1; omega
    have h2 : (cur.toList.take n)[i + j]? = some v := by
      rw [htk]
      rw [List.getElem?_map, List.getElem?_drop] at hj
      rw [List.getElem?_map]; exact hj
    rw [List.getElem?_take, if_pos hjn] at h2
    exact h2
  obtain ⟨W2, hW, hg2, hh2, hcells2, hm2⟩ : ∃ W2, W2 = w.drew ∧ Blk W2 g 22 cur ∧ Blk W2 h0 22 #[slV y] ∧ (∀ (j : Nat) v, ((xs.drop i).map slV)[j]? = some v → W2.cell? ⟨g, i + j, none⟩ = some v) ∧ Mod (fun k => k = g) w W2 := ⟨w.drew, rfl, hg.drew, hh.drew, hcells, (Mod.refl _ _).drew⟩
  have HG2 := Lib.hid hg2
  have HH2 := Lib.hid hh2
  have HC2 := Lib.hid hcells2
  have HM2 := Lib.hid hm2
  have HD := Lib.hid hD
  clear hcells hg2 hh2 hcells2 hm2 hov hh hD
  refine still_tail_at 8 W2 hW (by kernel_rfl) (by kernel_rfl) ?_
  clear hW
  simp only [List.take_succ_cons, List.take_zero, List.drop_succ_cons, List.drop_zero]
  iterate 8 still_step
  refine wpStill_nil ?_
  refine wpList_copySl rfl (.tmp 73) (.tmp 76) rfl g (i + 1) _ _ g i _ _ cur ((xs.drop i).map slV) rfl rfl HG2.out (by rw [HD.out]; simp only [Nat.min_def]; split <;> omega) HC2.out (by rw [HD.out]; omega) (slV_one _) ?_
  intro w3 u3 hb3 hm3
  have hh3 := HH2.out.mod hm3 hne
  obtain ⟨C1, hC1⟩ : ∃ C1, C1 = (cur.toList.take (i + 1) ++ (xs.drop i).map slV ++ cur.toList.drop (i + 1 + ((xs.drop i).map slV).length)).toArray := ⟨_, rfl⟩
  rw [← hC1] at hb3
  have hsz1 : C1.size = cap := by
    have hD := HD.out
    have hcl : cur.toList.length = cap := by simpa using hsz
    rw [hC1, List.size_toArray, List.length_append, List.length_append, List.length_take, List.length_drop, hD, hcl]; omega
  have HB3 := Lib.hid hb3
  have HH3 := Lib.hid hh3
  have HM3 := Lib.hid (HM2.out.trans' hm3)
  have HC1 := Lib.hid hC1
  clear hb3 hh3 hm3 hC1
  go_wp2_with (first | (refine wpList_copySl rfl (.tmp 80) (.tmp 81) rfl g i _ _ h0 0 _ _ C1 [slV y] rfl rfl HB3.out (by simp only [List.length_singleton, Nat.min_def]; split <;> omega) (by intro j v hj; rw [HH3.out.cell]; simpa using hj) (by simp; omega) (slV_one [y]) ?_; intro w4 u4 hb4 hm4; have HB4 := Lib.hid hb4; have HM4 := Lib.hid hm4; clear hb4 hm4))
  go_ret
  refine ⟨rfl, _, HB4.out, ?_, ?_, HM3.out.trans' HM4.out⟩
  · have hcl : C1.toList.length = cap := by simpa using hsz1
    rw [List.size_toArray, List.length_append, List.length_append, List.length_take, List.length_drop, hcl]; simp; omega
  · have hD := HD.out
    have hcl : cur.toList.length = cap := by simpa using hsz
    rw [List.toList_toArray, HC1.out, List.toList_toArray]
    have h1 := ins_cells (cur := cur.toList) (u := slV y) hi hD (by omega)
    have h2 : cur.toList.take i = (xs.take i).map slV := by
      have : (cur.toList.take n).take i = (xs.take i).map slV := by rw [htk, List.map_take]
      rw [List.take_take] at this
      rw [← this]; congr 1; omega
    rw [h2] at h1
    simp only [List.length_singleton]
    rw [h1]
    simp

theorem etSls : ElemT 32 22 1 24 := elemT_of (z := .slice none 0 0) Tryz.underlying32 (by kernel_rfl) (by kernel_rfl) (by decide) (by decide) (by decide)

set_option maxRecDepth 100000 in
set_option maxHeartbeats 1000000 in
/-- .. at the end. -/
theorem ins_end (w : World) (B : Nat) (v : Value) (xs : List Sl) (y : Sl) (h0 : Nat) (h : OK encSl 1 22 w B v xs) (hn1 : xs.length ≤ 1000) (hh : Blk w h0 22 #[slV y]) (hB : B ≤ w.heap.size) :
    Calls Tryz.prog 89 #[v, .int .i64 (xs.length : Int), .slice (some ⟨h0, 0, none⟩) 1 1] w fun e w' => ∃ v', e = .returned v' ∧ OK encSl 1 22 w' B v' (xs ++ [y]) ∧ w.grownBy w' v.ownBlock ∧ (v'.ownBlock = v.ownBlock ∨ v'.ownBlock = some w.heap.size) := by
  obtain ⟨A, c, rfl, _, _, _, _⟩ := (h.rk encSl_len (Nat.le_refl _)).open_
  obtain ⟨n, hn⟩ : ∃ n, n = xs.length := ⟨_, rfl⟩
  rw [← hn] at h hn1 ⊢
  have HE : Hid ((xs ++ [y]).length = n + 1) := by rw [List.length_append, List.length_singleton, hn]; exact Lib.hid rfl
  have HN := Lib.hid hn
  clear hn
  have hlen1 : xs.length + 1 ≤ 1000000 := by have := HN.out; omega
  by_cases hc : c = n
  · go_enter Tryz.func89, Tryz.ntmps89
    go_wp2_with (first | (refine wpList_appE etSls encSl_len encSl_one rfl (.tmp 23) (.tmp 24) rfl rfl h h0 rfl (by intro j u hu; rw [hh.cell]; simpa [encSl] using hu) hlen1 hB ?_; intro v' w' k1 k2 k3; have K1 := Lib.hid k1; have K2 := Lib.hid k2; have K3 := Lib.hid k3; obtain ⟨A2, c2, rfl, _, _, _, _⟩ := (k1.rk encSl_len (Nat.le_refl _)).open_; rw [HE.out] at K1 K3 ⊢; clear k1 k2 k3))
    go_ret
    exact ⟨_, rfl, K1.out, K2.out, K3.out⟩
  · go_enter Tryz.func89, Tryz.ntmps89
    go_wp2_with (first | (refine wpList_appE etSls encSl_len encSl_one rfl (.tmp 23) (.tmp 24) rfl rfl h h0 rfl (by intro j u hu; rw [hh.cell]; simpa [encSl] using hu) hlen1 hB ?_; intro v' w' k1 k2 k3; have K1 := Lib.hid k1; have K2 := Lib.hid k2; have K3 := Lib.hid k3; obtain ⟨A2, c2, rfl, _, _, _, _⟩ := (k1.rk encSl_len (Nat.le_refl _)).open_; rw [HE.out] at K1 K3 ⊢; clear k1 k2 k3))
    go_ret
    exact ⟨_, rfl, K1.out, K2.out, K3.out⟩

end Go.Proofs.YtbagmmncjmbboaaGreat
