/-
  A page in plain words; the walks of page's small functions.
-/
import Derived.Test.YtdghanhpeekbhaaShelfB
import Derived.Test.YtdghanhpeekbhaaZF1
namespace Go.Proofs.Ytdghanhpeekbhaa
open Go.RowKit Go.Maps
set_option linter.unusedVariables false

/-- A slice value by its parts. -/
abbrev Sl := Option Addr × Nat × Nat
abbrev slV (x : Sl) : Value := .slice x.1 x.2.1 x.2.2
def encSl (x : Sl) : List Value := [.slice x.1 x.2.1 x.2.2]
theorem encSl_len (x : Sl) : (encSl x).length = 1 := rfl
theorem encSl_one (x : Sl) : ∀ u ∈ encSl x, u.oneCell' = true := by intro u hu; simp [encSl] at hu; subst hu; rfl

structure PG where
  lsn : Int
  kind : Nat
  extra : Nat
  items : List (List Nat)
def PG.new (kind : Int) (extra : Nat) : PG := ⟨0, (kind % 256).toNat, extra, []⟩
def PG.free (m : PG) (slots : Int) : Int := 512 - (18 + 2 * slots) - ((m.items.map List.length).sum : Nat)
def PG.room (m : PG) : Int := if m.free (m.items.length + 1) < 0 ∨ 100 ≤ m.items.length then -1 else min (m.free (m.items.length + 1)) 200
def PG.isSlot (m : PG) (i : Int) : Bool := decide (0 ≤ i) && decide (i < m.items.length)
structure PG.Ok (m : PG) : Prop where
  num : m.items.length ≤ 100
  item : ∀ l ∈ m.items, l.length ≤ 200
  lsn : 0 ≤ m.lsn ∧ m.lsn ≤ 9223372036854775807
  kind : m.kind < 256
  extra : m.extra < 4294967296

/-- The block p holds a page: its items' row is its own, from block B on; the items lie in no block that a call on it turns. -/
structure PageAt (w : World) (p B : Nat) (v : Value) (xs : List Sl) (m : PG) : Prop where
  ok : m.Ok
  blk : Blk w p 62 #[.int .i64 m.lsn, .int .u8 (m.kind : Int), .int .u32 (m.extra : Int), v]
  row : OK encSl 1 22 w B v xs
  len : xs.length = m.items.length
  item : ∀ (i : Nat) x l, xs[i]? = some x → m.items[i]? = some l → RB w w.heap.size (slV x) l ∧ Off (fun k => k = p ∨ v.ownBlock = some k) (slV x) l
  far : v.ownBlock ≠ some p
  base : B ≤ p
section
variable {w w' : World} {p B : Nat} {v : Value} {xs : List Sl} {m : PG}
theorem PageAt.mod {S : Nat → Prop} (h : PageAt w p B v xs m) (hm : Mod S w w') (hp : ¬ S p) (hv : ∀ b, v.ownBlock = some b → ¬ S b) (hi : ∀ (i : Nat) x l, xs[i]? = some x → m.items[i]? = some l → Off S (slV x) l) : PageAt w' p B v xs m :=
  ⟨h.ok, h.blk.mod hm hp, h.row.mod hm hv, h.len, fun i x l hx hl => ⟨(h.item i x l hx hl).1.mod hm (hi i x l hx hl), (h.item i x l hx hl).2⟩, h.far, h.base⟩
theorem PageAt.below (h : PageAt w p B v xs m) (hb : Below w.heap.size w w') : PageAt w' p B v xs m :=
  h.mod (Mod.of_below hb (fun _ => False)) id (fun _ _ => id) (fun _ _ _ _ _ => .inr fun _ _ => id)
theorem PageAt.lt (h : PageAt w p B v xs m) : p < w.heap.size := h.blk.lt
theorem PageAt.alloc (h : PageAt w p B v xs m) (o : Obj) : PageAt (w.alloc o) p B v xs m := h.below ((Below.refl _ _).alloc (Nat.le_refl _) _)
/-- The row's slice, open. -/
theorem PageAt.open_ (h : PageAt w p B v xs m) : ∃ A c, v = .slice A m.items.length c := by
  obtain ⟨A, c, e, _, _, _, _⟩ := (h.row.rk encSl_len (Nat.le_refl _)).open_
  exact ⟨A, c, by rw [e, h.len]⟩
/-- One item's cell. -/
theorem PageAt.at_ (h : PageAt w p B v xs m) {i : Nat} (hi : i < m.items.length) :
    ∃ b o, (∃ c, v = .slice (some ⟨b, o, none⟩) m.items.length c) ∧ b < w.heap.size ∧ ∃ x : Sl, xs[i]? = some x ∧ w.cell? ⟨b, o + i, none⟩ = some (slV x) ∧ RB w w.heap.size (slV x) m.items[i] := by
  obtain ⟨A, c, e, _, _, _, HA⟩ := (h.row.rk encSl_len (Nat.le_refl _)).open_
  have hix : i < xs.length := by rw [h.len]; exact hi
  obtain ⟨b, o, rfl, hb, hx⟩ := HA.out i hix
  refine ⟨b, o, ⟨c, by rw [e, h.len]⟩, hb, xs[i], List.getElem?_eq_getElem hix, ?_, (h.item i _ _ (List.getElem?_eq_getElem hix) (List.getElem?_eq_getElem hi)).1⟩
  have := hx 0 _ rfl
  simpa using this
end

theorem pageNew_any (w : World) (kind : Int) (extra : Nat) (he : extra < 4294967296) :
    Calls Try.prog 19 #[.int .i64 kind, .int .u32 (extra : Int)] w fun e w' => e = .returned (.pointer (some ⟨w.heap.size, 0, none⟩)) ∧ PageAt w' w.heap.size w.heap.size (.slice none 0 0) [] (PG.new kind extra) ∧ Below w.heap.size w w' := by
  have hk : ((kind % 256).toNat : Int) = kind % 256 := by omega
  have HK := Lib.hid hk
  clear hk
  go_enter Try.func19, Try.ntmps19
  go_wp2_with fail
  go_ret
  refine ⟨rfl, ⟨⟨by simp [PG.new], by simp [PG.new], by simp [PG.new], by unfold PG.new; dsimp only; omega, he⟩, ?_, OK.nil _ _, rfl, by simp, by simp [Value.ownBlock], Nat.le_refl _⟩, (Below.refl _ _).alloc (Nat.le_refl _) _⟩
  unfold PG.new
  dsimp only
  rw [HK.out]
  exact Blk.new _ _ _
theorem pageLen_any (w : World) (p B : Nat) (v : Value) (xs : List Sl) (m : PG) (h : PageAt w p B v xs m) : Calls Try.prog 22 #[.pointer (some ⟨p, 0, none⟩)] w fun e w' => e = .returned (.int .i64 (m.items.length : Int)) ∧ w = w' := by
  obtain ⟨A, c, rfl⟩ := h.open_
  have a3 := h.blk.cell 3
  clear h
  go_enter Try.func22, Try.ntmps22
  go_wp2
  go_ret
  exact ⟨rfl, rfl⟩
theorem pageIsSlot_any (w : World) (p B : Nat) (v : Value) (xs : List Sl) (m : PG) (h : PageAt w p B v xs m) (i : Int) : Calls Try.prog 61 #[.pointer (some ⟨p, 0, none⟩), .int .i64 i] w fun e w' => e = .returned (.bool (m.isSlot i)) ∧ w = w' := by
  have H := Lib.hid h
  clear h
  by_cases h0 : 0 ≤ i
  · go_enter Try.func61, Try.ntmps61
    go_wp2_with fail
    refine (pageLen_any w p B v xs m H.out).mono ?_
    rintro e w1 ⟨rfl, rfl⟩
    go_wp2_with fail
    go_ret
    refine ⟨?_, rfl⟩
    unfold PG.isSlot
    simp [h0]
  · have e : m.isSlot i = false := by unfold PG.isSlot; simp [h0]
    have hE := Lib.hid e
    clear e
    go_enter Try.func61, Try.ntmps61
    go_wp2_with fail
    go_ret
    exact ⟨by rw [hE.out]; rfl, rfl⟩
theorem pageKind_any (w : World) (p B : Nat) (v : Value) (xs : List Sl) (m : PG) (h : PageAt w p B v xs m) : Calls Try.prog 24 #[.pointer (some ⟨p, 0, none⟩)] w fun e w' => e = .returned (.int .i64 (m.kind : Int)) ∧ w = w' := by
  have a1 := h.blk.cell 1
  have hk := h.ok.kind
  clear h
  go_enter Try.func24, Try.ntmps24
  go_wp2
  go_ret
  exact ⟨rfl, rfl⟩
theorem pageExtra_any (w : World) (p B : Nat) (v : Value) (xs : List Sl) (m : PG) (h : PageAt w p B v xs m) : Calls Try.prog 25 #[.pointer (some ⟨p, 0, none⟩)] w fun e w' => e = .returned (.int .u32 (m.extra : Int)) ∧ w = w' := by
  have a2 := h.blk.cell 2
  clear h
  go_enter Try.func25, Try.ntmps25
  go_wp2
  go_ret
  exact ⟨rfl, rfl⟩
theorem pageLSN_any (w : World) (p B : Nat) (v : Value) (xs : List Sl) (m : PG) (h : PageAt w p B v xs m) : Calls Try.prog 35 #[.pointer (some ⟨p, 0, none⟩)] w fun e w' => e = .returned (.int .i64 m.lsn) ∧ w = w' := by
  have a0 := h.blk.cell 0
  clear h
  go_enter Try.func35, Try.ntmps35
  go_wp2
  go_ret
  exact ⟨rfl, rfl⟩
theorem slotAt_any (w : World) (i : Int) (hi : 0 ≤ i ∧ i ≤ 1000000) : Calls Try.prog 30 #[.int .i64 i] w fun e w' => e = .returned (.int .i64 (18 + 2 * i)) ∧ w = w' := by
  go_enter Try.func30, Try.ntmps30
  go_wp2
  go_ret
  exact ⟨rfl, rfl⟩

/-- bytes.Clone. -/
theorem clone_any (w : World) (v : Value) (l : List Nat) (hv : RB w w.heap.size v l) : Calls Try.prog 29 #[v] w fun e w' => ∃ v', e = .returned v' ∧ OB w' w.heap.size v' l ∧ Below w.heap.size w w' := by
  obtain ⟨h1, h2, A, c, rfl, h3, h4, h5⟩ := hv
  cases A with
  | none =>
    have hl : l = [] := by rcases h5 with h5 | ⟨b, off, e, _⟩; exact h5; cases e
    subst hl
    refine (Try.bytes_Clone_nil 0 c w).mono ?_
    rintro e w' ⟨rfl, rfl⟩
    exact ⟨_, rfl, OB.nil _ _, Below.refl _ _⟩
  | some a =>
    refine (Try.bytes_Clone_at a l.length c (l.map fun x : Nat => (x : Int)) w (by simp) (by omega) ?_).mono ?_
    · intro i hi
      rcases h5 with h5 | ⟨b, off, e, hb, hc⟩
      · subst h5; simp at hi
      · injection e with e
        subst e
        have e2 : (⟨b, off, none⟩ : Addr).add i = ⟨b, off + i, none⟩ := add_none
        rw [e2, hc i l[i] (List.getElem?_eq_getElem hi)]
        simp [List.getD, hi]
    · rintro e w' ⟨v', rfl, hr, hne, hb⟩
      refine ⟨v', rfl, ⟨h1, h2, ?_⟩, hb⟩
      have e3 : (l.map fun x : Nat => (x : Int)).map (Value.int .u8) = l.map bcell := by rw [List.map_map]; rfl
      rw [← e3]; exact hr
theorem pageItem_any (w : World) (p B : Nat) (v : Value) (xs : List Sl) (m : PG) (h : PageAt w p B v xs m) (i : Int) :
    Calls Try.prog 23 #[.pointer (some ⟨p, 0, none⟩), .int .i64 i] w fun e w' =>
      (m.isSlot i = false ∧ e = .returned (.tuple #[.slice none 0 0, .int .i64 82]) ∧ w' = w) ∨ (m.isSlot i = true ∧ ∃ v', e = .returned (.tuple #[v', .int .i64 0]) ∧ OB w' w.heap.size v' (m.items.getD i.toNat []) ∧ Below w.heap.size w w') := by
  have H := Lib.hid h
  have a3 := h.blk.cell 3
  cases hs : m.isSlot i with
  | false =>
    clear h a3
    go_enter Try.func23, Try.ntmps23
    go_wp2_with fail
    refine (pageIsSlot_any w p B v xs m H.out i).mono ?_
    rw [hs]
    rintro e w1 ⟨rfl, rfl⟩
    go_wp2_with fail
    go_ret2
    exact .inl ⟨by first | rfl | trivial, rfl, rfl⟩
  | true =>
    obtain ⟨k, rfl⟩ : ∃ k : Nat, i = (k : Int) := ⟨i.toNat, by unfold PG.isSlot at hs; simp at hs; omega⟩
    have hk : k < m.items.length := by unfold PG.isSlot at hs; simp at hs; omega
    obtain ⟨b, o, ⟨c, rfl⟩, hb, x, hx, hc, hr⟩ := h.at_ hk
    have hg : m.items.getD k [] = m.items[k] := by simp [List.getD, hk]
    have HR := Lib.hid hr
    have HG := Lib.hid hg
    have hnum := h.ok.num
    obtain ⟨x0, x1, x2⟩ := x
    clear h hr hg hx
    go_enter Try.func23, Try.ntmps23
    go_wp2_with fail
    refine (pageIsSlot_any w p B _ xs m H.out (k : Int)).mono ?_
    rw [hs]
    rintro e w1 ⟨rfl, rfl⟩
    clear hs
    go_wp2_with fail
    refine (clone_any w _ _ HR.out).mono ?_
    rintro e w2 ⟨v2, rfl, ho, hb2⟩
    have HO := Lib.hid ho
    have HB := Lib.hid hb2
    obtain ⟨A2, c2, rfl, _, _, _, _⟩ := ho.rbn.open_
    clear ho hb2
    go_wp2_with fail
    go_ret2
    exact .inr ⟨by first | rfl | trivial, _, rfl, by rw [Int.toNat_natCast, HG.out]; exact HO.out, HB.out⟩

/-- How many bytes the first k items have. -/
def sumTo (L : List (List Nat)) (k : Nat) : Nat := ((L.take k).map List.length).sum
theorem sumTo_succ {L : List (List Nat)} {k : Nat} (h : k < L.length) : sumTo L (k + 1) = sumTo L k + L[k].length := by
  unfold sumTo
  rw [List.take_succ_eq_append_getElem h, List.map_append, List.sum_append]
  simp
theorem sumTo_all (L : List (List Nat)) : sumTo L L.length = (L.map List.length).sum := by unfold sumTo; rw [List.take_length]
theorem sumTo_le {L : List (List Nat)} (h : ∀ l ∈ L, l.length ≤ 200) (k : Nat) : sumTo L k ≤ 200 * k := by
  unfold sumTo
  induction k generalizing L with
  | zero => simp
  | succ k ih =>
    cases L with
    | nil => simp
    | cons a r =>
      have := ih (L := r) (fun l hl => h l (List.mem_cons_of_mem _ hl))
      have := h a (List.mem_cons_self ..)
      simp only [List.take_succ_cons, List.map_cons, List.sum_cons]
      omega
set_option maxHeartbeats 1000000 in
theorem pageFree_any (w : World) (p B : Nat) (v : Value) (xs : List Sl) (m : PG) (h : PageAt w p B v xs m) (k : Int) (hk : 0 ≤ k ∧ k ≤ 1000) : Calls Try.prog 60 #[.pointer (some ⟨p, 0, none⟩), .int .i64 k] w fun e w' => e = .returned (.int .i64 (m.free k)) ∧ w = w' := by
  have H := Lib.hid h
  have a3 := h.blk.cell 3
  obtain ⟨A, c, rfl⟩ := h.open_
  have hnum := h.ok.num
  have HIT := Lib.hid h.ok.item
  clear h
  go_enter Try.func60, Try.ntmps60
  go_wp2_with fail
  refine (slotAt_any w k (by omega)).mono ?_
  rintro e w1 ⟨rfl, rfl⟩
  go_wp2_with fail
  go_loopw [5, 16] (fun n i wr => ∃ j : Nat, j ≤ m.items.length ∧ i = .int .i64 j ∧ n = .int .i64 (512 - (18 + 2 * k) - (sumTo m.items j : Nat)) ∧ wr = w) (fun n i wr => m.items.length - (intOf i).toNat)
  case atStart => exact ⟨0, Nat.zero_le _, rfl, by simp [sumTo], rfl⟩
  case round =>
    obtain ⟨j, hj, rfl, rfl, rfl⟩ := hrel
    by_cases hjl : j < m.items.length
    · obtain ⟨b, o, ⟨c', e⟩, hb, x, hx, hc, hr⟩ := H.out.at_ hjl
      injection e with e _ e2
      subst e e2
      obtain ⟨x0, x1, x2⟩ := x
      obtain ⟨A4, c4, e4, _, _, _, _⟩ := hr.open_
      have e5 : x1 = m.items[j].length := by injection e4
      subst e5
      have hss := sumTo_succ hjl
      have hle := sumTo_le HIT.out j
      have hil := HIT.out m.items[j] (List.getElem_mem hjl)
      have HSS := Lib.hid hss
      obtain ⟨q, hq⟩ : ∃ q, q = m.items[j].length := ⟨_, rfl⟩
      rw [← hq] at hc hil HSS
      clear hx hr e4 hss hq
      go_wp2_with fail
      go_roundw
      case rel => exact ⟨j + 1, by omega, by go_num, by rw [HSS.out]; go_num, by first | rfl | trivial⟩
      case measure => simp [intOf]; omega
    · obtain rfl : j = m.items.length := by omega
      have hf : m.free k = 512 - (18 + 2 * k) - (sumTo m.items m.items.length : Nat) := by rw [sumTo_all]; rfl
      have HF := Lib.hid hf
      clear hf
      go_wp2_with fail
      go_ret
      exact ⟨by rw [HF.out]; rfl, rfl⟩
set_option maxRecDepth 100000 in
theorem pageRoom_any (w : World) (p B : Nat) (v : Value) (xs : List Sl) (m : PG) (h : PageAt w p B v xs m) : Calls Try.prog 20 #[.pointer (some ⟨p, 0, none⟩)] w fun e w' => e = .returned (.int .i64 m.room) ∧ w = w' := by
  have H := Lib.hid h
  have hnum := h.ok.num
  obtain ⟨f, hf⟩ : ∃ f, f = m.free (m.items.length + 1) := ⟨_, rfl⟩
  have hr : m.room = if f < 0 ∨ 100 ≤ m.items.length then -1 else min f 200 := by rw [hf]; rfl
  have HF := Lib.hid hf
  have HR := Lib.hid hr
  have hmin : ∀ W ty, (Builtin.min_ #[3, 3] ty #[.int .i64 f, .int .i64 200]).run Try.prog W = .ok (.int .i64 (min f 200)) W := by
    intro W ty
    simp [Builtin.min_, Builtin.min2, List.foldlM]
    split <;> omega
  clear h hf hr
  by_cases hf0 : f < 0
  · go_enter Try.func20, Try.ntmps20
    go_wp2_with fail
    refine (pageLen_any w p B v xs m H.out).mono ?_
    rintro e w1 ⟨rfl, rfl⟩
    go_wp2_with fail
    refine (pageFree_any w p B v xs m H.out _ (by omega)).mono ?_
    rw [← HF.out]
    rintro e w1 ⟨rfl, rfl⟩
    go_wp2_with fail
    go_ret
    exact ⟨by rw [HR.out, if_pos (.inl hf0)]; rfl, rfl⟩
  · have g0 : decide (f < 0) = false := by simpa using hf0
    have HF0 := Lib.hid hf0
    clear hf0
    by_cases hn : 100 ≤ m.items.length
    · have g1 : decide (100 ≤ m.items.length) = true := by simpa using hn
      have HNN := Lib.hid hn
      have HN3 := Lib.hid hn
      clear hn
      go_enter Try.func20, Try.ntmps20
      go_wp2_with fail
      refine (pageLen_any w p B v xs m H.out).mono ?_
      rintro e w1 ⟨rfl, rfl⟩
      go_wp2_with fail
      refine (pageFree_any w p B v xs m H.out _ (by omega)).mono ?_
      rw [← HF.out]
      rintro e w1 ⟨rfl, rfl⟩
      clear hnum
      go_wp2_with fail
      refine (pageLen_any w p B v xs m H.out).mono ?_
      rintro e w1 ⟨rfl, rfl⟩
      obtain ⟨q, hq⟩ : ∃ q, q = m.items.length := ⟨_, rfl⟩
      rw [← hq] at HNN
      rw [← hq]
      have hqq : 100 ≤ q := HNN.out
      clear g1 hq HNN
      go_wp2_with fail
      go_ret
      exact ⟨by rw [HR.out, if_pos (.inr HN3.out)]; rfl, rfl⟩
    · have g1 : decide (100 ≤ m.items.length) = false := by simpa using hn
      have HNN := Lib.hid hn
      have HN3 := Lib.hid hn
      clear hn
      go_enter Try.func20, Try.ntmps20
      go_wp2_with fail
      refine (pageLen_any w p B v xs m H.out).mono ?_
      rintro e w1 ⟨rfl, rfl⟩
      go_wp2_with fail
      refine (pageFree_any w p B v xs m H.out _ (by omega)).mono ?_
      rw [← HF.out]
      rintro e w1 ⟨rfl, rfl⟩
      clear hnum
      go_wp2_with fail
      refine (pageLen_any w p B v xs m H.out).mono ?_
      rintro e w1 ⟨rfl, rfl⟩
      obtain ⟨q, hq⟩ : ∃ q, q = m.items.length := ⟨_, rfl⟩
      rw [← hq] at HNN
      rw [← hq]
      have hqq : ¬ 100 ≤ q := HNN.out
      clear g1 hq HNN
      go_wp2_with fail
      go_ret
      exact ⟨by rw [HR.out, if_neg (by have := HF0.out; have := HN3.out; omega)]; rfl, rfl⟩
end Go.Proofs.Ytdghanhpeekbhaa
