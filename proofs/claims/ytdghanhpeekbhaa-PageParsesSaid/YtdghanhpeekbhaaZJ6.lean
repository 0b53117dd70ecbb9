/-
  The walk of page's Replace.
-/
import Derived.Test.YtdghanhpeekbhaaZJ5
namespace Go.Proofs.Ytdghanhpeekbhaa
open Go.RowKit Go.Maps Go.Sort Go.Shelf
set_option linter.unusedVariables false

theorem pageLen_n {w : World} {p B : Nat} {v : Value} {xs : List Sl} {m : PG} (h : PageAt w p B v xs m) {n : Nat} (hn : n = m.items.length) : Calls Try.prog 22 #[.pointer (some ⟨p, 0, none⟩)] w fun e w' => e = .returned (.int .i64 (n : Int)) ∧ w' = w := by
  rw [hn]; exact (pageLen_any w p B v xs m h).mono fun _ _ h => ⟨h.1, h.2.symm⟩

theorem pageFree_f {w : World} {p B : Nat} {v : Value} {xs : List Sl} {m : PG} (h : PageAt w p B v xs m) {k : Int} (hk : 0 ≤ k ∧ k ≤ 1000) {f : Int} (hf : f = m.free k) : Calls Try.prog 60 #[.pointer (some ⟨p, 0, none⟩), .int .i64 k] w fun e w' => e = .returned (.int .i64 f) ∧ w' = w := by
  rw [hf]; exact (pageFree_any w p B v xs m h k hk).mono fun _ _ h => ⟨h.1, h.2.symm⟩

theorem PageAt.drewN {w : World} {p B : Nat} {v : Value} {xs : List Sl} {m : PG} (h : PageAt w p B v xs m) (n : Nat) : PageAt (w.drewN n) p B v xs m := h.below (below_drewN (Below.refl _ _) n)

theorem OK.setSl {w : World} {B n c k : Nat} {A : Option Addr} {xs : List Sl} (h : OK encSl 1 22 w B (.slice A n c) xs) (hk : k < xs.length) (hx : xs.length ≤ 1000) (y : Sl) :
    ∃ b, A = some ⟨b, 0, none⟩ ∧ OK encSl 1 22 (w.setCell ⟨b, k, none⟩ (slV y)) B (.slice A n c) (xs.set k y) := by
  obtain ⟨h1, h2, h3⟩ := h
  rcases h3 with ⟨e, hn⟩ | ⟨g, cap, cur, e, hgB, hg, hnc, hcm, hsz, htk⟩
  · omega
  · injection e with e1 e2 e3
    subst e1 e2 e3
    have hblk : Blk w g 22 cur := hg
    refine ⟨g, rfl, OK.ofBlk (hblk.set_ k (slV y)) hgB (by rw [List.length_set]) ?_ (by omega) hcm (by simpa using hsz) ?_⟩
    · omega
    · rw [flat_encSl, Nat.mul_one] at htk
      rw [Array.toList_setIfInBounds, List.take_set, htk, List.map_set]

theorem OK.unfrozen {α : Type} {enc : α → List Value} {k E : Nat} {w : World} {B b o n c : Nat} {xs : List α} (h : OK enc k E w B (.slice (some ⟨b, o, none⟩) n c) xs) (i : Nat) : w.frozen? ⟨b, i, none⟩ = false := by
  rcases h.2.2 with ⟨e, _⟩ | ⟨g, cap, cur, e, _, hg, _⟩
  · cases e
  · injection e with e1
    injection e1 with e1
    injection e1 with e1 e2
    subst e1
    exact Blk.frozen (t := E) (cs := cur) hg i

def PG.replace (m : PG) (i : Nat) (l : List Nat) : PG := { m with items := m.items.set i l }

def PG.repE (m : PG) (i : Int) (l : List Nat) : Int := if m.isSlot i = false then 82 else if 200 < l.length then 4 else if m.free m.items.length + ((m.items.getD i.toNat []).length : Int) < (l.length : Int) then 81 else 0

theorem PG.Ok.replace {m : PG} (h : m.Ok) {i : Nat} {l : List Nat} (hl : l.length ≤ 200) : (m.replace i l).Ok := by
  refine ⟨by unfold PG.replace; simpa using h.num, fun q hq => ?_, h.lsn, h.kind, h.extra⟩
  unfold PG.replace at hq
  rcases List.mem_or_eq_of_mem_set hq with hq | hq
  · exact h.item q hq
  · rw [hq]; exact hl

/-- What a store of a new item leaves. -/
theorem rep_arm {w W1 : World} {p B : Nat} {A : Option Addr} {n c k : Nat} {xs : List Sl} {m : PG} (h : PageAt w p B (.slice A n c) xs m) (hn : n = m.items.length) (hk : k < n) {l : List Nat} (hl : l.length ≤ 200) {A1 : Option Addr} {c1 b o : Nat} (hA : A = some ⟨b, o, none⟩) (hb1 : Below w.heap.size w W1) (ho1 : OB W1 w.heap.size (.slice A1 l.length c1) l) :
    PageAt (W1.setCell ⟨b, o + k, none⟩ (.slice A1 l.length c1)) p B (.slice A n c) (xs.set k (A1, l.length, c1)) (m.replace k l) ∧ PgStep w (W1.setCell ⟨b, o + k, none⟩ (.slice A1 l.length c1)) p (.slice A n c) (.slice A n c) ∧ Off (fun k => k < w.heap.size) (slV ((A1, l.length, c1) : Sl)) l := by
  have hz1 := hb1.size
  have hplt := h.lt
  have hxn : xs.length = n := by rw [h.len, hn]
  obtain ⟨b', e, hok⟩ := (h.row.below hb1).setSl (k := k) (by omega) (by have := h.ok.num; omega) (A1, l.length, c1)
  rw [hA] at e
  injection e with e
  injection e with e1 e2
  subst e1 e2
  subst hA
  rw [Nat.zero_add]
  have hbp : b ≠ p := fun e => h.far (by rw [e]; rfl)
  have hbz := (h.row.lt b rfl).2
  have hst : Mod (fun q => q = b) W1 (W1.setCell ⟨b, k, none⟩ (.slice A1 l.length c1)) := (Mod.refl (fun q => q = b) W1).setCell (p := ⟨b, k, none⟩) (fun _ => rfl) _
  have hall : Mod (fun q => q = p ∨ (Value.slice (some ⟨b, 0, none⟩) n c).ownBlock = some q) w (W1.setCell ⟨b, k, none⟩ (.slice A1 l.length c1)) := (Mod.of_below hb1 _).trans hst (fun q _ e => .inr (by subst e; rfl))
  refine ⟨⟨h.ok.replace hl, (h.blk.below hb1 hplt).far (p := ⟨b, k, none⟩) (Ne.symm hbp) _, hok, by unfold PG.replace; rw [List.length_set, List.length_set]; exact h.len, fun j x l' hx hl' => ?_, h.far, h.base⟩, ⟨hall, .inl rfl⟩, .inr fun b hb e => by have h1 := (ho1.lt b hb).1; omega⟩
  unfold PG.replace at hl'
  dsimp only at hl'
  rw [List.getElem?_set] at hx hl'
  by_cases hj : k = j
  · subst hj
    rw [if_pos rfl, if_pos (by omega)] at hx hl'
    injection hx with hx
    injection hl' with hl'
    subst hx hl'
    refine ⟨(ho1.mod hst (fun b' hb e => by have h1 := (ho1.lt b' hb).1; subst e; omega)).rbn, .inr fun b' hb e => ?_⟩
    have h1 := (ho1.lt b' hb).1
    rcases e with e | e
    · subst e; omega
    · injection e with e; simp at e; omega
  · rw [if_neg hj] at hx hl'
    obtain ⟨r1, r2⟩ := h.item j x l' hx hl'
    exact ⟨r1.mod hall r2, r2⟩

/-- The items lie in blocks of which Q holds. -/
def ItemsIn (Q : Nat → Prop) (xs : List Sl) (L : List (List Nat)) : Prop := ∀ (j : Nat) x l, xs[j]? = some x → L[j]? = some l → Off (fun k => ¬ Q k) (slV x) l

theorem ItemsIn.mono {Q Q' : Nat → Prop} {xs : List Sl} {L : List (List Nat)} (h : ItemsIn Q xs L) (hq : ∀ k, Q k → Q' k) : ItemsIn Q' xs L := fun j x l h1 h2 => (h j x l h1 h2).mono fun k hk e => hk (hq k e)

theorem PageAt.itemsIn {w : World} {p B : Nat} {v : Value} {xs : List Sl} {m : PG} (h : PageAt w p B v xs m) : ItemsIn (fun k => k < w.heap.size) xs m.items := fun j x l h1 h2 => RB.off (h.item j x l h1 h2).1 fun k hk hn => hn hk

theorem ItemsIn.off {Q S : Nat → Prop} {xs : List Sl} {L : List (List Nat)} (h : ItemsIn Q xs L) (hs : ∀ k, S k → ¬ Q k) : ∀ (j : Nat) x l, xs[j]? = some x → L[j]? = some l → Off S (slV x) l := fun j x l h1 h2 => (h j x l h1 h2).mono hs

theorem ItemsIn.insert {Q : Nat → Prop} {xs : List Sl} {L : List (List Nat)} {i : Nat} {y : Sl} {it : List Nat} (h : ItemsIn Q xs L) (h1 : i ≤ xs.length) (h2 : xs.length = L.length) (hy : Off (fun k => ¬ Q k) (slV y) it) : ItemsIn Q (xs.take i ++ [y] ++ xs.drop i) (L.take i ++ [it] ++ L.drop i) := fun j x l hx hl => by
  have e1 := ins_get h1 hx
  have e2 := ins_get (by omega) hl
  rcases e1 with ⟨q1, q2⟩ | ⟨q1, q2⟩ | ⟨q1, q2⟩ <;> rcases e2 with ⟨q3, q4⟩ | ⟨q3, q4⟩ | ⟨q3, q4⟩ <;> first | omega | exact h _ _ _ q2 q4 | (subst q2 q4; exact hy)

theorem ItemsIn.set_ {Q : Nat → Prop} {xs : List Sl} {L : List (List Nat)} {i : Nat} {y : Sl} {it : List Nat} (h : ItemsIn Q xs L) (hy : Off (fun k => ¬ Q k) (slV y) it) : ItemsIn Q (xs.set i y) (L.set i it) := fun j x l hx hl => by
  rw [List.getElem?_set] at hx hl
  by_cases hj : i = j
  · rw [if_pos hj] at hx hl
    split at hx
    · split at hl
      · injection hx with hx; injection hl with hl; subst hx hl; exact hy
      · cases hl
    · cases hx
  · rw [if_neg hj] at hx hl; exact h j x l hx hl

theorem ItemsIn.erase {Q : Nat → Prop} {xs : List Sl} {L : List (List Nat)} {i : Nat} (h : ItemsIn Q xs L) : ItemsIn Q (xs.eraseIdx i) (L.eraseIdx i) := fun j x l hx hl => by
  rw [List.getElem?_eraseIdx] at hx hl
  by_cases hj : j < i
  · rw [if_pos hj] at hx hl; exact h j x l hx hl
  · rw [if_neg hj] at hx hl; exact h _ x l hx hl

/-- Behind a call on a page: the page, what the call turned, and that its items are those that it had, or new. -/
def PgOut (w w' : World) (p B : Nat) (v : Value) (xs : List Sl) (m m' : PG) : Prop := ∃ v' xs', PageAt w' p B v' xs' m' ∧ PgStep w w' p v v' ∧ ∀ Q : Nat → Prop, ItemsIn Q xs m.items → (∀ k, w.heap.size ≤ k → Q k) → ItemsIn Q xs' m'.items

theorem PgOut.same {w w' : World} {p B : Nat} {v : Value} {xs : List Sl} {m : PG} (h : PageAt w p B v xs m) (hb : Below w.heap.size w w') : PgOut w w' p B v xs m m := ⟨v, xs, h.below hb, ⟨Mod.of_below hb _, .inl rfl⟩, fun Q h _ => h⟩

theorem pageInsert_u {w : World} {p B : Nat} {v : Value} {xs : List Sl} {m : PG} (h : PageAt w p B v xs m) (i : Int) {iv : Value} {l : List Nat} (hv : RB w w.heap.size iv l) {m' : PG} (hm' : m' = if m.insE i l = 0 then m.insert i.toNat l else m) :
    Calls Try.prog 21 #[.pointer (some ⟨p, 0, none⟩), .int .i64 i, iv] w fun e w' => e = .returned (.int .i64 (m.insE i l)) ∧ PgOut w w' p B v xs m m' := by
  refine (pageInsert_any w p B v xs m h i iv l hv).mono ?_
  rintro e w' ⟨he, h1 | h1⟩
  · obtain ⟨h1, rfl⟩ := h1
    rw [if_neg h1] at hm'
    subst hm'
    exact ⟨he, PgOut.same h (Below.refl _ _)⟩
  · obtain ⟨h1, v', x, h2, h3, h4⟩ := h1
    rw [if_pos h1] at hm'
    subst hm'
    refine ⟨he, v', _, h3, h4, fun Q hq hk => ?_⟩
    have hi : i.toNat ≤ m.items.length := by
      unfold PG.insE at h1
      split at h1
      · omega
      · omega
    exact hq.insert (by rw [h.len]; exact hi) h.len (h2.mono fun k hn => Nat.lt_of_not_le fun hge => hn (hk k hge))
end Go.Proofs.Ytdghanhpeekbhaa
