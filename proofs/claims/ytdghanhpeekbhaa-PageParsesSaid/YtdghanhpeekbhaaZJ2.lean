/-
  slices.Delete at a row of slices, one element; page's Remove.
-/
import Derived.Test.YtdghanhpeekbhaaShelfD
import Derived.Test.YtdghanhpeekbhaaZJ1
namespace Go.Proofs.Ytdghanhpeekbhaa
open Go.RowKit Go.Maps Go.Sort Go.Shelf
set_option linter.unusedVariables false

theorem putRow_blk {α : Type} [Inhabited α] {en : α → Value} {w : World} {g t q : Nat} {cs : Array Value} (h : Blk w g t cs) (d : Array α) : Blk (putRow en (Sort.ahead w q) g 0 d) g t (putCells en 0 d cs) := by
  unfold Blk at h ⊢
  simp [putRow, mapBlock, onCells, Sort.ahead, Array.getElem?_modify, h]

theorem putRow_mod {α : Type} [Inhabited α] {en : α → Value} {w : World} {g q : Nat} (d : Array α) : Mod (fun k => k = g) w (putRow en (Sort.ahead w q) g 0 d) := by
  refine ⟨rfl, rfl, rfl, by simp [putRow, mapBlock, Sort.ahead], fun k hk hn => ?_⟩
  have hn' : ¬ g = k := fun e => hn e.symm
  simp [putRow, mapBlock, Sort.ahead, Array.getElem?_modify, hn']

theorem flat_encSl (xs : List Sl) : xs.flatMap encSl = xs.map slV := by
  induction xs with
  | nil => rfl
  | cons x r ih => rw [List.flatMap_cons, List.map_cons, ih]; rfl

theorem putCells_take (R Z : List Sl) (cur : Array Value) (h : R.length ≤ cur.size) : (putCells slV 0 (R ++ Z).toArray cur).toList.take R.length = R.map slV := by
  apply List.ext_getElem?
  intro j
  rw [List.getElem?_take]
  split
  · rename_i hj
    have hj2 : j < cur.size := by omega
    rw [Array.getElem?_toList]
    simp [putCells, hj, hj2, List.getElem?_append_left hj]
    omega
  · rename_i hj
    rw [List.getElem?_map, List.getElem?_eq_none (by omega)]; rfl

/-- What a call on a page turns, and where its row lies behind it. -/
structure PgStep (w w' : World) (p : Nat) (v v' : Value) : Prop where
  mod : Mod (fun k => k = p ∨ v.ownBlock = some k) w w'
  own : v'.ownBlock = v.ownBlock ∨ ∀ b, v'.ownBlock = some b → w.heap.size ≤ b

theorem PgStep.refl (w : World) (p : Nat) (v : Value) : PgStep w w p v v := ⟨Mod.refl _ _, .inl rfl⟩

def PG.remove (m : PG) (k : Nat) : PG := { m with items := m.items.eraseIdx k }

theorem mem_erase {α : Type} {l : List α} {k : Nat} {x : α} (h : x ∈ l.eraseIdx k) : x ∈ l := List.mem_of_mem_eraseIdx h

theorem PG.Ok.remove {m : PG} (h : m.Ok) (k : Nat) : (m.remove k).Ok :=
  ⟨by unfold PG.remove; dsimp only; rw [List.length_eraseIdx]; have := h.num; split <;> omega, fun l hl => h.item l (mem_erase hl), h.lsn, h.kind, h.extra⟩
end Go.Proofs.Ytdghanhpeekbhaa
