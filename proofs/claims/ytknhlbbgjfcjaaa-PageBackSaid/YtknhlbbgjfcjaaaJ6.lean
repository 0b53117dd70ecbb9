/-
  The walk of page's Replace.
-/
import Derived.Test.YtknhlbbgjfcjaaaJ5
namespace Go.Proofs.Ytknhlbbgjfcjaaa
open Go.RowKit Go.Maps Go.Sort Go.Shelf
set_option linter.unusedVariables false

theorem pageLen_n {w : World} {p B : Nat} {v : Value} {xs : List Sl} {m : PG} (h : PageAt w p B v xs m) {n : Nat} (hn : n = m.items.length) : Calls Try.prog 29 #[.pointer (some ⟨p, 0, none⟩)] w fun e w' => e = .returned (.int .i64 (n : Int)) ∧ w' = w := by
  rw [hn]; exact (pageLen_any w p B v xs m h).mono fun _ _ h => ⟨h.1, h.2.symm⟩
theorem pageFree_f {w : World} {p B : Nat} {v : Value} {xs : List Sl} {m : PG} (h : PageAt w p B v xs m) {k : Int} (hk : 0 ≤ k ∧ k ≤ 1000) {f : Int} (hf : f = m.free k) : Calls Try.prog 96 #[.pointer (some ⟨p, 0, none⟩), .int .i64 k] w fun e w' => e = .returned (.int .i64 f) ∧ w' = w := by
  rw [hf]; exact (pageFree_any w p B v xs m h k hk).mono fun _ _ h => ⟨h.1, h.2.symm⟩
theorem PageAt.drewN {w : World} {p B : Nat} {v : Value} {xs : List Sl} {m : PG} (h : PageAt w p B v xs m) (n : Nat) : PageAt (w.drewN n) p B v xs m := h.below (below_drewN (Below.refl _ _) n)
theorem OK.setSl {w : World} {B n c k : Nat} {A : Option Addr} {xs : List Sl} (h : OK encSl 1 22 w B (.slice A n c) xs) (hk : k < xs.length) (hx : xs.length ≤ 1000) (y : Sl) :
    ∃ b, A = some ⟨b, 0, none⟩ ∧ OK encSl 1 22 (w.setCell ⟨b, k, none⟩ (slV y)) B (.slice A n c) (xs.set k y) := by
  obtain ⟨h1, h2, h3⟩ := h
  rcases h3 with ⟨e, hn⟩ | ⟨g, cap, cur, e, hgB, hg, hnc, hcm, hsz, htk⟩
  · omega
  · injection e with e1 e2 e3
    subst e1 e2 e3
    have hblk : Blk w g 22 cur := hg
    refine ⟨g, rfl, OK.ofBlk (hblk.set_ k (slV y)) hgB (by rw [List.length_set]) ?_ (by omega) hcm (by simpa using hsz) ?_⟩
    · omega
    · rw [flat_encSl, Nat.mul_one] at htk
      rw [Array.toList_setIfInBounds, List.take_set, htk, List.map_set]
theorem OK.unfrozen {α : Type} {enc : α → List Value} {k E : Nat} {w : World} {B b o n c : Nat} {xs : List α} (h : OK enc k E w B (.slice (some ⟨b, o, none⟩) n c) xs) (i : Nat) : w.frozen? ⟨b, i, none⟩ = false := by
  rcases h.2.2 with ⟨e, _⟩ | ⟨g, cap, cur, e, _, hg, _⟩
  · cases e
  · injection e with e1
    injection e1 with e1
    injection e1 with e1 e2
    subst e1
    exact Blk.frozen (t := E) (cs := cur) hg i
def PG.replace (m : PG) (i : Nat) (l : List Nat) : PG := { m with items := m.items.set i l }
def PG.repE (m : PG) (i : Int) (l : List Nat) : Int := if m.isSlot i = false then 82 else if 200 < l.length then 4 else if m.free m.items.length + ((m.items.getD i.toNat []).length : Int) < (l.length : Int) then 81 else 0
theorem PG.Ok.replace {m : PG} (h : m.Ok) {i : Nat} {l : List Nat} (hl : l.length ≤ 200) : (m.replace i l).Ok := by
  refine ⟨by unfold PG.replace; simpa using h.num, fun q hq => ?_, h.lsn, h.kind, h.extra⟩
  unfold PG.replace at hq
  rcases List.mem_or_eq_of_mem_set hq with hq | hq
  · exact h.item q hq
  · rw [hq]; exact hl
/-- What a store of a new item leaves. -/
theorem rep_arm {w W1 : World} {p B : Nat} {A : Option Addr} {n c k : Nat} {xs : List Sl} {m : PG} (h : PageAt w p B (.slice A n c) xs m) (hn : n = m.items.length) (hk : k < n) {l : List Nat} (hl : l.length ≤ 200) {A1 : Option Addr} {c1 b o : Nat} (hA : A = some ⟨b, o, none⟩) (hb1 : Below w.heap.size w W1) (ho1 : OB W1 w.heap.size (.slice A1 l.length c1) l) :
    PageAt (W1.setCell ⟨b, o + k, none⟩ (.slice A1 l.length c1)) p B (.slice A n c) (xs.set k (A1, l.length, c1)) (m.replace k l) ∧ PgStep w (W1.setCell ⟨b, o + k, none⟩ (.slice A1 l.length c1)) p (.slice A n c) (.slice A n c) ∧ Off (fun k => k < w.heap.size) (slV ((A1, l.length, c1) : Sl)) l := by
  have hz1 := hb1.size
  have hplt := h.lt
  have hxn : xs.length = n := by rw [h.len, hn]
  obtain ⟨b', e, hok⟩ := (h.row.below hb1).setSl (k := k) (by omega) (by have := h.ok.num; omega) (A1, l.length, c1)
  rw [hA] at e
  injection e with e
  injection e with e1 e2
  subst e1 e2
  subst hA
  rw [Nat.zero_add]
  have hbp : b ≠ p := fun e => h.far (by rw [e]; rfl)
  have hbz := (h.row.lt b rfl).2
  have hst : Mod (fun q => q = b) W1 (W1.setCell ⟨b, k, none⟩ (.slice A1 l.length c1)) := (Mod.refl (fun q => q = b) W1).setCell (p := ⟨b, k, none⟩) (fun _ => rfl) _
  have hall : Mod (fun q => q = p ∨ (Value.slice (some ⟨b, 0, none⟩) n c).ownBlock = some q) w (W1.setCell ⟨b, k, none⟩ (.slice A1 l.length c1)) := (Mod.of_below hb1 _).trans hst (fun q _ e => .inr (by subst e; rfl))
  refine ⟨⟨h.ok.replace hl, (h.blk.below hb1 hplt).far (p := ⟨b, k, none⟩) (Ne.symm hbp) _, hok, by unfold PG.replace; rw [List.length_set, List.length_set]; exact h.len, fun j x l' hx hl' => ?_, h.far, h.base⟩, ⟨hall, .inl rfl⟩, .inr fun b hb e => by have h1 := (ho1.lt b hb).1; omega⟩
  unfold PG.replace at hl'
  dsimp only at hl'
  rw [List.getElem?_set] at hx hl'
  by_cases hj : k = j
  · subst hj
    rw [if_pos rfl, if_pos (by omega)] at hx hl'
    injection hx with hx
    injection hl' with hl'
    subst hx hl'
    refine ⟨(ho1.mod hst (fun b' hb e => by have h1 := (ho1.lt b' hb).1; subst e; omega)).rbn, .inr fun b' hb e => ?_⟩
    have h1 := (ho1.lt b' hb).1
    rcases e with e | e
    · subst e; omega
    · injection e with e; simp at e; omega
  · rw [if_neg hj] at hx hl'
    obtain ⟨r1, r2⟩ := h.item j x l' hx hl'
    exact ⟨r1.mod hall r2, r2⟩

set_option maxRecDepth 100000 in
set_option maxHeartbeats 4000000 in
theorem pageReplace_any (w : World) (p B : Nat) (v : Value) (xs : List Sl) (m : PG) (h : PageAt w p B v xs m) (i : Int) (iv : Value) (l : List Nat) (hv : RB w w.heap.size iv l) :
    Calls Try.prog 38 #[.pointer (some ⟨p, 0, none⟩), .int .i64 i, iv] w fun e w' => e = .returned (.int .i64 (m.repE i l)) ∧
      ((m.repE i l ≠ 0 ∧ ∃ q, w' = w.drewN q) ∨ (m.repE i l = 0 ∧ ∃ x, Off (fun k => k < w.heap.size) (slV x) l ∧ PageAt w' p B v (xs.set i.toNat x) (m.replace i.toNat l) ∧ PgStep w w' p v v)) := by
  have H := Lib.hid h
  have HV := Lib.hid hv
  obtain ⟨AI, cI, rfl, _, _, hl47, _⟩ := hv.open_
  have hnum := h.ok.num
  cases hs : m.isSlot i with
  | false =>
    have HE : Hid (m.repE i l = 82) := by show _ = _; unfold PG.repE; rw [if_pos hs]
    have HS := Lib.hid hs
    clear h hv hs
    go_enter Try.func38, Try.ntmps38
    go_wp2_with fail
    refine (pageIsSlot_any w p B v xs m H.out i).mono ?_
    rw [HS.out]
    rintro e w1 ⟨rfl, rfl⟩
    go_wp2_with fail
    go_ret
    exact ⟨by rw [HE.out]; rfl, .inl ⟨by rw [HE.out]; decide, 0, rfl⟩⟩
  | true =>
    obtain ⟨k, rfl⟩ : ∃ k : Nat, i = (k : Int) := ⟨i.toNat, by unfold PG.isSlot at hs; simp at hs; omega⟩
    obtain ⟨n, hn⟩ : ∃ n, n = m.items.length := ⟨_, rfl⟩
    have hk : k < n := by unfold PG.isSlot at hs; simp at hs; omega
    have HS := Lib.hid hs
    have HN := Lib.hid hn
    have hn100 : n ≤ 100 := by omega
    by_cases h2 : 200 < l.length
    · have HE : Hid (m.repE (k : Int) l = 4) := by show _ = _; unfold PG.repE; rw [hs, if_neg (by simp), if_pos h2]
      clear h hv hs hn
      go_enter Try.func38, Try.ntmps38
      go_wp2_with fail
      refine (pageIsSlot_any w p B v xs m H.out _).mono ?_
      rw [HS.out]
      rintro e w1 ⟨rfl, rfl⟩
      go_wp2_with fail
      go_ret
      exact ⟨by rw [HE.out]; rfl, .inl ⟨by rw [HE.out]; decide, 0, rfl⟩⟩
    · obtain ⟨b, o, ⟨c, rfl⟩, hb, x, hx, hcx, hrx⟩ := h.at_ (i := k) (by omega)
      rw [← hn] at h H ⊢
      obtain ⟨x0, x1, x2⟩ := x
      obtain ⟨A4, c4, e4, -, -, -, -⟩ := hrx.open_
      obtain ⟨q, hq⟩ : ∃ q, q = (m.items.getD k []).length := ⟨_, rfl⟩
      have hgd : m.items.getD k [] = m.items[k] := by rw [List.getD, List.getElem?_eq_getElem (by omega)]; rfl
      have hq5 : x1 = q := by injection e4; rw [hq, hgd]; assumption
      subst hq5
      obtain ⟨f, hf⟩ : ∃ f, f = m.free n := ⟨_, rfl⟩
      have hq200 : x1 ≤ 200 := by rw [hq, hgd]; exact h.ok.item _ (List.getElem_mem _)
      have hfb : -100000 ≤ f ∧ f ≤ 512 := by
        rw [hf]; unfold PG.free
        have h1 := sumTo_le h.ok.item m.items.length
        rw [sumTo_all] at h1
        omega
      have hw0 : IntKind.i64.wrap (f + (x1 : Int)) = f + (x1 : Int) := by rw [IntKind.wrap_i64]; omega
      have c3 : w.cell? ⟨p, 3, none⟩ = some (.slice (some ⟨b, o, none⟩) n c) := H.out.blk.cell 3
      have hcx' : w.cell? ⟨b, o + k, none⟩ = some (.slice x0 x1 x2) := hcx
      have HF := Lib.hid hf
      have HQ := Lib.hid hq
      have hkn : k ≤ n := by omega
      by_cases h3 : f + (x1 : Int) < (l.length : Int)
      · have HE : Hid (m.repE (k : Int) l = 81) := by show _ = _; unfold PG.repE; rw [hs, if_neg (by simp), if_neg h2, Int.toNat_natCast, ← hn, ← hf, ← hq, if_pos h3]
        clear h hv hs hn hf hq hx hcx hrx e4 hgd
        go_enter Try.func38, Try.ntmps38
        go_wp2_with fail
        refine (pageIsSlot_any w p B _ xs m H.out _).mono ?_
        rw [HS.out]
        rintro e w1 ⟨rfl, rfl⟩
        go_wp2_with fail
        go_quiet (first
          | (go_at_call 29; exact Calls.quiet_of_same (pageLen_n (H.out.drewN _) HN.out))
          | (go_at_call 96; exact Calls.quiet_of_same (pageFree_f (H.out.drewN _) (by omega) HF.out)))
        go_wp2_with fail
        go_ret
        exact ⟨by rw [HE.out]; rfl, .inl ⟨by rw [HE.out]; decide, nq, rfl⟩⟩
      · have HE : Hid (m.repE (k : Int) l = 0) := by show _ = _; unfold PG.repE; rw [hs, if_neg (by simp), if_neg h2, Int.toNat_natCast, ← hn, ← hf, ← hq, if_neg h3]
        have hplt := H.out.lt
        have f3 : w.frozen? ⟨b, o + k, none⟩ = false := H.out.row.unfrozen _
        have h3' : ¬ f + (x1 : Int) < (l.length : Int) := h3
        clear h hv hs hn hf hq hx hcx hrx e4 hgd
        go_enter Try.func38, Try.ntmps38
        go_wp2_with fail
        refine (pageIsSlot_any w p B _ xs m H.out _).mono ?_
        rw [HS.out]
        rintro e w1 ⟨rfl, rfl⟩
        go_wp2_with fail
        go_quiet (first
          | (go_at_call 29; exact Calls.quiet_of_same (pageLen_n (H.out.drewN _) HN.out))
          | (go_at_call 96; exact Calls.quiet_of_same (pageFree_f (H.out.drewN _) (by omega) HF.out)))
        go_wp2_with fail
        go_region_law (first
            | (go_simp; go_at_call 84; refine (clone_any (w.drewN (nq + 1)) _ l (HV.out.drewN _)).mono ?_; rintro e W1 ⟨v1, rfl, ho1, hb1⟩; obtain ⟨A1, c1, rfl, _, _, _, _⟩ := ho1.rbn.open_; have HB1 : Hid (Below w.heap.size w W1) := ⟨hb1.os, hb1.tape, hb1.output, hb1.size, hb1.block⟩; have HO1 : Hid (OB W1 w.heap.size (.slice A1 l.length c1) l) := Lib.hid ho1; have k1 : W1.cell? ⟨p, 3, none⟩ = some (.slice (some ⟨b, o, none⟩) n c) := (HB1.out.cell (p := ⟨p, 3, none⟩) hplt).trans c3; have kx1 : W1.cell? ⟨b, o + k, none⟩ = some (.slice x0 x1 x2) := (HB1.out.cell (p := ⟨b, o + k, none⟩) hb).trans hcx'; have f1 : W1.frozen? ⟨b, o + k, none⟩ = false := (HB1.out.frozen (p := ⟨b, o + k, none⟩) hb).trans f3; clear ho1 hb1))
        all_goals (
          go_wp2_with fail
          go_ret
          obtain ⟨g1, g2, g3⟩ := rep_arm H.out HN.out hk (l := l) (by omega) (A1 := A1) (c1 := c1) rfl HB1.out HO1.out
          exact ⟨by rw [HE.out]; rfl, .inr ⟨HE.out, _, g3, g1, g2⟩⟩)

/-- The items lie in blocks of which Q holds. -/
def ItemsIn (Q : Nat → Prop) (xs : List Sl) (L : List (List Nat)) : Prop := ∀ (j : Nat) x l, xs[j]? = some x → L[j]? = some l → Off (fun k => ¬ Q k) (slV x) l
theorem ItemsIn.mono {Q Q' : Nat → Prop} {xs : List Sl} {L : List (List Nat)} (h : ItemsIn Q xs L) (hq : ∀ k, Q k → Q' k) : ItemsIn Q' xs L := fun j x l h1 h2 => (h j x l h1 h2).mono fun k hk e => hk (hq k e)
theorem PageAt.itemsIn {w : World} {p B : Nat} {v : Value} {xs : List Sl} {m : PG} (h : PageAt w p B v xs m) : ItemsIn (fun k => k < w.heap.size) xs m.items := fun j x l h1 h2 => RB.off (h.item j x l h1 h2).1 fun k hk hn => hn hk
theorem ItemsIn.off {Q S : Nat → Prop} {xs : List Sl} {L : List (List Nat)} (h : ItemsIn Q xs L) (hs : ∀ k, S k → ¬ Q k) : ∀ (j : Nat) x l, xs[j]? = some x → L[j]? = some l → Off S (slV x) l := fun j x l h1 h2 => (h j x l h1 h2).mono hs
theorem ItemsIn.insert {Q : Nat → Prop} {xs : List Sl} {L : List (List Nat)} {i : Nat} {y : Sl} {it : List Nat} (h : ItemsIn Q xs L) (h1 : i ≤ xs.length) (h2 : xs.length = L.length) (hy : Off (fun k => ¬ Q k) (slV y) it) : ItemsIn Q (xs.take i ++ [y] ++ xs.drop i) (L.take i ++ [it] ++ L.drop i) := fun j x l hx hl => by
  have e1 := ins_get h1 hx
  have e2 := ins_get (by omega) hl
  rcases e1 with ⟨q1, q2⟩ | ⟨q1, q2⟩ | ⟨q1, q2⟩ <;> rcases e2 with ⟨q3, q4⟩ | ⟨q3, q4⟩ | ⟨q3, q4⟩ <;> first | omega | exact h _ _ _ q2 q4 | (subst q2 q4; exact hy)
theorem ItemsIn.set_ {Q : Nat → Prop} {xs : List Sl} {L : List (List Nat)} {i : Nat} {y : Sl} {it : List Nat} (h : ItemsIn Q xs L) (hy : Off (fun k => ¬ Q k) (slV y) it) : ItemsIn Q (xs.set i y) (L.set i it) := fun j x l hx hl => by
  rw [List.getElem?_set] at hx hl
  by_cases hj : i = j
  · rw [if_pos hj] at hx hl
    split at hx
    · split at hl
      · injection hx with hx; injection hl with hl; subst hx hl; exact hy
      · cases hl
    · cases hx
  · rw [if_neg hj] at hx hl; exact h j x l hx hl
theorem ItemsIn.erase {Q : Nat → Prop} {xs : List Sl} {L : List (List Nat)} {i : Nat} (h : ItemsIn Q xs L) : ItemsIn Q (xs.eraseIdx i) (L.eraseIdx i) := fun j x l hx hl => by
  rw [List.getElem?_eraseIdx] at hx hl
  by_cases hj : j < i
  · rw [if_pos hj] at hx hl; exact h j x l hx hl
  · rw [if_neg hj] at hx hl; exact h _ x l hx hl
/-- Behind a call on a page: the page, what the call turned, and that its items are those that it had, or new. -/
def PgOut (w w' : World) (p B : Nat) (v : Value) (xs : List Sl) (m m' : PG) : Prop := ∃ v' xs', PageAt w' p B v' xs' m' ∧ PgStep w w' p v v' ∧ ∀ Q : Nat → Prop, ItemsIn Q xs m.items → (∀ k, w.heap.size ≤ k → Q k) → ItemsIn Q xs' m'.items
theorem PgOut.same {w w' : World} {p B : Nat} {v : Value} {xs : List Sl} {m : PG} (h : PageAt w p B v xs m) (hb : Below w.heap.size w w') : PgOut w w' p B v xs m m := ⟨v, xs, h.below hb, ⟨Mod.of_below hb _, .inl rfl⟩, fun Q h _ => h⟩
theorem pageInsert_u {w : World} {p B : Nat} {v : Value} {xs : List Sl} {m : PG} (h : PageAt w p B v xs m) (i : Int) {iv : Value} {l : List Nat} (hv : RB w w.heap.size iv l) {m' : PG} (hm' : m' = if m.insE i l = 0 then m.insert i.toNat l else m) :
    Calls Try.prog 35 #[.pointer (some ⟨p, 0, none⟩), .int .i64 i, iv] w fun e w' => e = .returned (.int .i64 (m.insE i l)) ∧ PgOut w w' p B v xs m m' := by
  refine (pageInsert_any w p B v xs m h i iv l hv).mono ?_
  rintro e w' ⟨he, h1 | h1⟩
  · obtain ⟨h1, rfl⟩ := h1
    rw [if_neg h1] at hm'
    subst hm'
    exact ⟨he, PgOut.same h (Below.refl _ _)⟩
  · obtain ⟨h1, v', x, h2, h3, h4⟩ := h1
    rw [if_pos h1] at hm'
    subst hm'
    refine ⟨he, v', _, h3, h4, fun Q hq hk => ?_⟩
    have hi : i.toNat ≤ m.items.length := by
      unfold PG.insE at h1
      split at h1
      · omega
      · omega
    exact hq.insert (by rw [h.len]; exact hi) h.len (h2.mono fun k hn => Nat.lt_of_not_le fun hge => hn (hk k hge))
theorem pageReplace_u {w : World} {p B : Nat} {v : Value} {xs : List Sl} {m : PG} (h : PageAt w p B v xs m) (i : Int) {iv : Value} {l : List Nat} (hv : RB w w.heap.size iv l) {m' : PG} (hm' : m' = if m.repE i l = 0 then m.replace i.toNat l else m) :
    Calls Try.prog 38 #[.pointer (some ⟨p, 0, none⟩), .int .i64 i, iv] w fun e w' => e = .returned (.int .i64 (m.repE i l)) ∧ PgOut w w' p B v xs m m' := by
  refine (pageReplace_any w p B v xs m h i iv l hv).mono ?_
  rintro e w' ⟨he, h1 | h1⟩
  · obtain ⟨h1, q, rfl⟩ := h1
    rw [if_neg h1] at hm'
    subst hm'
    exact ⟨he, PgOut.same h (below_drewN (Below.refl _ _) q)⟩
  · obtain ⟨h1, x, h2, h3, h4⟩ := h1
    rw [if_pos h1] at hm'
    subst hm'
    exact ⟨he, v, _, h3, h4, fun Q hq hk => hq.set_ (h2.mono fun k hn => Nat.lt_of_not_le fun hge => hn (hk k hge))⟩
theorem pageRemove_u {w : World} {p B : Nat} {v : Value} {xs : List Sl} {m : PG} (h : PageAt w p B v xs m) (i : Int) {m' : PG} (hm' : m' = if m.isSlot i = true then m.remove i.toNat else m) :
    Calls Try.prog 37 #[.pointer (some ⟨p, 0, none⟩), .int .i64 i] w fun e w' => e = .returned (.int .i64 (if m.isSlot i = true then 0 else 82)) ∧ PgOut w w' p B v xs m m' := by
  refine (pageRemove_any w p B v xs m h i).mono ?_
  rintro e w' (⟨h1, he, rfl⟩ | ⟨h1, he, v', h3, h4⟩)
  · rw [h1] at hm' ⊢
    subst hm'
    exact ⟨he, PgOut.same h (Below.refl _ _)⟩
  · rw [h1] at hm' ⊢
    subst hm'
    exact ⟨he, v', _, h3, h4, fun Q hq hk => hq.erase⟩
end Go.Proofs.Ytknhlbbgjfcjaaa
