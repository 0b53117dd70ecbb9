/-
  The walk of skeinlaw08's asks, the document's page being empty: what a call does to a page.
-/
import Derived.Test.YtdghanhpeekbhaaZJ11
namespace Go.Proofs.Ytdghanhpeekbhaa
open Go.RowKit Go.Maps
set_option linter.unusedVariables false

/-- A call on a page, as the laws write it. -/
structure PgOp where
  kind : Int
  i : Int
  data : List Nat
def PG.run (m : PG) (o : PgOp) : PG :=
  if o.kind = 1 then (if m.insE o.i o.data = 0 then m.insert o.i.toNat o.data else m)
  else if o.kind = 2 then (if m.repE o.i o.data = 0 then m.replace o.i.toNat o.data else m)
  else if o.kind = 3 then (if m.isSlot o.i = true then m.remove o.i.toNat else m)
  else if o.kind = 5 then { m with extra := (o.i % 4294967296).toNat }
  else if o.kind = 6 then { m with lsn := max o.i 0 }
  else m
def AskOut (w : World) (p B : Nat) (v : Value) (xs : List Sl) (m m' : PG) (e : Ending) (w' : World) : Prop := (∃ x, e = .returned x) ∧ PgOut w w' p B v xs m m'
/-- What a call leaves, and what is turned behind it in blocks laid since. -/
theorem PgOut.around {w w3 w4 w9 : World} {p B : Nat} {v : Value} {xs : List Sl} {m m' : PG} {S : Nat → Prop} (h : PageAt w p B v xs m) (hb : Below w.heap.size w w3) (h4 : PgOut w3 w4 p B v xs m m') (hm : Mod S w4 w9) (hs : ∀ k, S k → w.heap.size ≤ k ∧ k < w3.heap.size) : PgOut w w9 p B v xs m m' := by
  obtain ⟨v', xs', h1, h2, h3⟩ := h4
  have hz := hb.size
  have hp := h.lt
  have hit := (h3 (fun k => k < w.heap.size ∨ w3.heap.size ≤ k) (h.itemsIn.mono fun k hk => .inl hk) (fun k hk => .inr hk)).off (S := S) (fun k hk e => by have := hs k hk; rcases e with e | e <;> omega)
  have hown : ∀ b, v'.ownBlock = some b → ¬ S b := fun b hb' e => by
    have h5 := hs b e
    rcases h2.own with h6 | h6
    · rw [h6] at hb'; have := (h.row.lt b hb').2; omega
    · have := h6 b hb'; omega
  refine ⟨v', xs', h1.mod hm (fun e => by have := hs p e; omega) hown hit, ⟨?_, ?_⟩, fun Q hq hk => h3 Q hq fun k hk2 => hk k (by omega)⟩
  · exact ((Mod.of_below hb _).trans h2.mod (fun k _ e => e)).trans hm (fun k hk e => by have := hs k e; omega)
  · rcases h2.own with h6 | h6
    · exact .inl h6
    · exact .inr fun b hb' => by have := h6 b hb'; omega
theorem PageAt.rowlt {w : World} {p B : Nat} {v : Value} {xs : List Sl} {m : PG} (h : PageAt w p B v xs m) : ∀ k, (k = p ∨ v.ownBlock = some k) → k < w.heap.size := fun k e => by
  rcases e with rfl | e
  · exact h.lt
  · exact (h.row.lt k e).2
/-- Three structs laid ahead of a call. -/
theorem three_laid (w : World) (A C D : Array Value) (ta tc td : TypeId) : ∃ W, W = ((w.alloc (.cells A ta)).alloc (.cells C tc)).alloc (.cells D td) ∧ Blk W w.heap.size ta A ∧ Blk W (w.heap.size + 1) tc C ∧ Blk W (w.heap.size + 2) td D ∧ Below w.heap.size w W ∧ W.heap.size = w.heap.size + 3 := by
  have h1 := ((Blk.new w ta A).alloc (.cells C tc)).alloc (.cells D td)
  have h2 := (Blk.new (w.alloc (.cells A ta)) tc C).alloc (.cells D td)
  have h3 := Blk.new ((w.alloc (.cells A ta)).alloc (.cells C tc)) td D
  simp only [size_alloc_] at h2 h3
  exact ⟨_, rfl, h1, h2, h3, (((Below.refl _ w).alloc (Nat.le_refl _) _).alloc (by simp) _).alloc (by simp; omega) _, by simp⟩
end Go.Proofs.Ytdghanhpeekbhaa
