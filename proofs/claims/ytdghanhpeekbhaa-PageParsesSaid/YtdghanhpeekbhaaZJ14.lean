/-
  The walk of skeinlaw08's asks, the document's page being empty: the other calls; filled.
-/
import Derived.Test.YtdghanhpeekbhaaZJ13
namespace Go.Proofs.Ytdghanhpeekbhaa
open Go.RowKit Go.Maps
set_option linter.unusedVariables false

theorem pageItem_no {w : World} {p B : Nat} {v : Value} {xs : List Sl} {m : PG} (h : PageAt w p B v xs m) {i : Int} (hi : m.isSlot i = false) : Calls Try.prog 23 #[.pointer (some ⟨p, 0, none⟩), .int .i64 i] w fun e w' => (∃ A n c f, e = .returned (.tuple #[.slice A n c, .int .i64 f]) ∧ f = 82 ∧ A = none ∧ n = 0 ∧ c = 0) ∧ Below w.heap.size w w' := by
  refine (pageItem_any w p B v xs m h i).mono ?_
  rintro e w' (⟨_, rfl, rfl⟩ | ⟨h1, _⟩)
  · exact ⟨⟨none, 0, 0, 82, rfl, rfl, rfl, rfl, rfl⟩, Below.refl _ _⟩
  · rw [hi] at h1; cases h1
theorem pageItem_yes {w : World} {p B : Nat} {v : Value} {xs : List Sl} {m : PG} (h : PageAt w p B v xs m) {i : Int} (hi : m.isSlot i = true) : Calls Try.prog 23 #[.pointer (some ⟨p, 0, none⟩), .int .i64 i] w fun e w' => (∃ A n c, e = .returned (.tuple #[.slice A n c, .int .i64 0]) ∧ OB w' w.heap.size (.slice A n c) (m.items.getD i.toNat []) ∧ n = (m.items.getD i.toNat []).length) ∧ Below w.heap.size w w' := by
  refine (pageItem_any w p B v xs m h i).mono ?_
  rintro e w' (⟨h1, _⟩ | ⟨_, v', rfl, ho, hb⟩)
  · rw [hi] at h1; cases h1
  · obtain ⟨A, c, rfl, _, _, _, _⟩ := ho.rbn.open_
    exact ⟨⟨A, _, c, rfl, ho, rfl⟩, hb⟩
theorem PgOut.eq {w w' : World} {p B : Nat} {v : Value} {xs : List Sl} {m m' : PG} (h : PageAt w' p B v xs m') (hs : PgStep w w' p v v) (hi : m'.items = m.items) : PgOut w w' p B v xs m m' := ⟨v, xs, h, hs, fun Q hq _ => by rw [hi]; exact hq⟩
end Go.Proofs.Ytdghanhpeekbhaa
