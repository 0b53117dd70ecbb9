/-
  Words for memory: slices that read as lists of elements of k cells, rows that the call owns, blocks that are known whole. No walk.
-/
import Derived.WalkKit
import Derived.Deep.AppendLies
import Derived.Maps.AppendAt
import Derived.Deep.Draws
import Derived.Deep.QuietTactic
import Derived.BigQuiet
import Derived.Laws.Cells
import Derived.Lib.Hide
import Derived.Maps.OwnSet
import Derived.Maps.RangeWalk
import Derived.Deep.MidRow
import Derived.Test.YtdghanhpeekbhaaZBase
import Derived.Test.YtdghanhpeekbhaaZG11
namespace Go.Proofs.Ytdghanhpeekbhaa
open Go.RowKit
set_option linter.unusedVariables false

def encI (x : Int) : List Value := [.int .i64 x]
theorem encI_len (x : Int) : (encI x).length = 1 := rfl
theorem encI_one (x : Int) : ∀ u ∈ encI x, u.oneCell' = true := by intro u hu; simp [encI] at hu; subst hu; rfl

section
variable {α : Type} {enc : α → List Value} {k : Nat} {w w' : World} {B B' : Nat} {v : Value} {xs : List α}

/-- The slice value v reads as the elements xs, each of k cells, in blocks below B. -/
def RK (enc : α → List Value) (k : Nat) (w : World) (B : Nat) (v : Value) (xs : List α) : Prop :=
  xs.length * k ≤ 140737488355328 ∧ ∃ A c, v = .slice A xs.length c ∧ xs.length ≤ c ∧ c ≤ 9223372036854775807 ∧
    (xs = [] ∨ ∃ b off, A = some ⟨b, off, none⟩ ∧ b < B ∧ ∀ (i : Nat) x, xs[i]? = some x → ∀ (j : Nat) u, (enc x)[j]? = some u → w.cell? ⟨b, off + i * k + j, none⟩ = some u)
theorem RK.len (h : RK enc k w B v xs) : xs.length * k ≤ 140737488355328 := h.1
theorem RK.keep (h : RK enc k w B v xs) (hk : ∀ b o, b < B → w'.cell? ⟨b, o, none⟩ = w.cell? ⟨b, o, none⟩) : RK enc k w' B v xs := by
  obtain ⟨h1, A, c, rfl, h3, h4, h5⟩ := h
  refine ⟨h1, A, c, rfl, h3, h4, ?_⟩
  rcases h5 with h5 | ⟨b, off, rfl, hb, hc⟩
  · exact .inl h5
  · exact .inr ⟨b, off, rfl, hb, fun i x hx j u hu => (hk b _ hb).trans (hc i x hx j u hu)⟩
theorem RK.below (h : RK enc k w B v xs) (hb : Below B w w') : RK enc k w' B v xs := h.keep fun b o hlt => hb.cell (p := ⟨b, o, none⟩) hlt
theorem RK.more (h : RK enc k w B v xs) (hB : B ≤ B') : RK enc k w B' v xs := by
  obtain ⟨h1, A, c, rfl, h3, h4, h5⟩ := h
  refine ⟨h1, A, c, rfl, h3, h4, ?_⟩
  rcases h5 with h5 | ⟨b, off, rfl, hb, hc⟩
  · exact .inl h5
  · exact .inr ⟨b, off, rfl, by omega, hc⟩
theorem RK.alloc (h : RK enc k w B v xs) (hB : B ≤ w.heap.size) (o : Obj) : RK enc k (w.alloc o) B v xs := h.below ((Below.refl B w).alloc hB o)
theorem RK.drew (h : RK enc k w B v xs) : RK enc k w.drew B v xs := h
theorem RK.drewN (h : RK enc k w B v xs) (n : Nat) : RK enc k (w.drewN n) B v xs := h
theorem RK.nil (w : World) (B : Nat) : RK enc k w B (.slice none 0 0) [] := ⟨by simp, none, 0, rfl, by simp, by simp, .inl rfl⟩
theorem RK.open_ (h : RK enc k w B v xs) : ∃ A c, v = .slice A xs.length c ∧ xs.length ≤ c ∧ c ≤ 9223372036854775807 ∧ xs.length * k ≤ 140737488355328 ∧
    Hid (∀ i, (hi : i < xs.length) → ∃ b off, A = some ⟨b, off, none⟩ ∧ b < B ∧ ∀ (j : Nat) u, (enc xs[i])[j]? = some u → w.cell? ⟨b, off + i * k + j, none⟩ = some u) := by
  obtain ⟨h1, A, c, rfl, h3, h4, h5⟩ := h
  refine ⟨A, c, rfl, h3, h4, h1, ?_⟩
  intro i hi
  rcases h5 with rfl | ⟨b, off, rfl, hb, hc⟩
  · simp at hi
  · exact ⟨b, off, rfl, hb, fun j u hu => hc i _ (List.getElem?_eq_getElem hi) j u hu⟩
end

/-- .. of numbers. -/
abbrev RI := RK encI 1

/-- A number's cell, out of what is known of a row. -/
theorem cellI {w : World} {b off : Nat} {i : Nat} {x : Int} (h : ∀ (j : Nat) u, (encI x)[j]? = some u → w.cell? ⟨b, off + i * 1 + j, none⟩ = some u) : w.cell? ⟨b, off + i, none⟩ = some (.int .i64 x) := by
  have := h 0 _ rfl
  simpa using this
/-- Old cells and marks read as before. -/
theorem belowCells {W w1 : World} {B : Nat} (hb : Below B W w1) : (∀ b o, b < B → w1.cell? ⟨b, o, none⟩ = W.cell? ⟨b, o, none⟩) ∧ (∀ b o, b < B → w1.frozen? ⟨b, o, none⟩ = W.frozen? ⟨b, o, none⟩) :=
  ⟨fun b o h => hb.cell (p := ⟨b, o, none⟩) h, fun b o h => hb.frozen (p := ⟨b, o, none⟩) h⟩

/-- The block g is just the cells cs of element type t, none frozen. -/
def Blk (w : World) (g : Nat) (t : TypeId) (cs : Array Value) : Prop := w.heap[g]? = some (.cells cs t (0, 0))
section
variable {w w' : World} {g : Nat} {t : TypeId} {cs : Array Value}
theorem Blk.lt (h : Blk w g t cs) : g < w.heap.size := by
  rcases Nat.lt_or_ge g w.heap.size with hlt | hge
  · exact hlt
  · unfold Blk at h; rw [Array.getElem?_eq_none hge] at h; cases h
theorem Blk.cell (h : Blk w g t cs) (i : Nat) : w.cell? ⟨g, i, none⟩ = cs[i]? := cell_of_row w g i cs t (0, 0) h
theorem Blk.frozen (h : Blk w g t cs) (i : Nat) : w.frozen? ⟨g, i, none⟩ = false := by unfold Blk at h; simp [World.frozen?, h]
theorem Blk.new (w : World) (t : TypeId) (cs : Array Value) : Blk (w.alloc (.cells cs t)) w.heap.size t cs := heap_alloc_new w _
theorem Blk.drew (h : Blk w g t cs) : Blk w.drew g t cs := h
theorem Blk.drewN (h : Blk w g t cs) (n : Nat) : Blk (w.drewN n) g t cs := h
theorem Blk.alloc (h : Blk w g t cs) (o : Obj) : Blk (w.alloc o) g t cs := (Below.heap_alloc w o g h.lt).trans h
theorem Blk.set_ (h : Blk w g t cs) (i : Nat) (u : Value) : Blk (w.setCell ⟨g, i, none⟩ u) g t (cs.setIfInBounds i u) := by
  unfold Blk at h ⊢
  simp [World.setCell, Array.getElem?_modify, h]
theorem Blk.far (h : Blk w g t cs) {p : Addr} (hp : g ≠ p.block) (u : Value) : Blk (w.setCell p u) g t cs := (Below.heap_setCell w p u g hp).trans h
theorem Blk.below {B : Nat} (h : Blk w g t cs) (hb : Below B w w') (hg : g < B) : Blk w' g t cs := (hb.block g hg).trans h
theorem Blk.grown {row : Option Nat} (h : Blk w g t cs) (hb : w.grownBy w' row) (hg : some g ≠ row) : Blk w' g t cs := (hb.block g h.lt hg).trans h
theorem Blk.ne_ {g' : Nat} {t' : TypeId} {cs' : Array Value} (h : Blk w g t cs) (h' : Blk w g' t' cs') (hne : t ≠ t') : g ≠ g' := by
  rintro rfl
  unfold Blk at h h'
  rw [h] at h'
  injection h' with h'
  injection h' with _ ht
  exact hne ht
end
/-- Growth and what lies below. -/
theorem grownBy_trans {w w1 w2 : World} {row : Option Nat} (h : w.grownBy w1 row) (h' : w1.grownBy w2 row) : w.grownBy w2 row :=
  ⟨h'.os.trans h.os, h'.tape.trans h.tape, h'.output.trans h.output, Nat.le_trans h.size h'.size, fun i hi hr => (h'.block i (Nat.lt_of_lt_of_le hi h.size) hr).trans (h.block i hi hr)⟩
theorem grownBy_below {w w1 : World} {row : Option Nat} (h : Below w.heap.size w w1) : w.grownBy w1 row := ⟨h.os, h.tape, h.output, h.size, fun i hi _ => h.block i hi⟩
theorem below_grownBy {B : Nat} {w w1 : World} {row : Option Nat} (h : w.grownBy w1 row) (hB : B ≤ w.heap.size) (hr : ∀ g, row = some g → B ≤ g) : Below B w w1 := (Below.refl B w).grown h hB hr

/-- A slice of the call's own: it owns the elements xs, from block B on. -/
def OK {α : Type} (enc : α → List Value) (k : Nat) (E : TypeId) (w : World) (B : Nat) (v : Value) (xs : List α) : Prop :=
  xs.length * k ≤ 140737488355328 ∧ w.ownsRow B E k v xs.length (xs.flatMap enc)
section
variable {α : Type} {enc : α → List Value} {k : Nat} {E : TypeId} {w w' : World} {B B' : Nat} {v : Value} {xs : List α}
theorem flat_len (hk : ∀ x, (enc x).length = k) : ∀ xs : List α, (xs.flatMap enc).length = xs.length * k
  | [] => by simp
  | x :: r => by rw [List.flatMap_cons, List.length_append, hk, flat_len hk r, List.length_cons, Nat.add_mul]; omega
theorem flat_get (hk : ∀ x, (enc x).length = k) : ∀ (xs : List α) (i : Nat) x, xs[i]? = some x → ∀ (j : Nat) u, (enc x)[j]? = some u → (xs.flatMap enc)[i * k + j]? = some u
  | [], i, x, h, _, _, _ => by simp at h
  | a :: r, 0, x, h, j, u, hu => by
    simp at h; subst h
    have hj := (List.getElem?_eq_some_iff.1 hu).1
    rw [List.flatMap_cons, Nat.zero_mul, Nat.zero_add, List.getElem?_append_left hj]; exact hu
  | a :: r, i + 1, x, h, j, u, hu => by
    have h' : r[i]? = some x := by simpa using h
    have := flat_get hk r i x h' j u hu
    rw [List.flatMap_cons, List.getElem?_append_right (by rw [hk, Nat.add_mul]; omega), hk, Nat.add_mul, Nat.one_mul]
    rw [show i * k + k + j - k = i * k + j by omega]; exact this
theorem OK.rk (hk : ∀ x, (enc x).length = k) (h : OK enc k E w B v xs) (hB : w.heap.size ≤ B') : RK enc k w B' v xs := by
  obtain ⟨h1, h3⟩ := h
  have h4 := h3
  rcases h3.2 with ⟨rfl, hn⟩ | ⟨g, cap, cur, rfl, hb, hg, hn, hc, hs, ht⟩
  · have : xs = [] := List.eq_nil_of_length_eq_zero hn
    subst this
    exact .nil _ _
  · refine ⟨h1, some ⟨g, 0, none⟩, cap, rfl, hn, by simpa [maxLen] using hc, .inr ⟨g, 0, rfl, ?_, ?_⟩⟩
    · have := (Array.getElem?_eq_some_iff.1 hg).1; omega
    · intro i x hx j u hu
      have h5 := flat_get hk xs i x hx j u hu
      have h6 := (List.getElem?_eq_some_iff.1 h5).1
      rw [flat_len hk] at h6
      rw [Nat.zero_add, h4.cellAt _ h6, h5]
theorem OK.alloc (h : OK enc k E w B v xs) (o : Obj) : OK enc k E (w.alloc o) B v xs := ⟨h.1, h.2.alloc o⟩
theorem OK.drew (h : OK enc k E w B v xs) : OK enc k E w.drew B v xs := h
theorem OK.drewN (h : OK enc k E w B v xs) (n : Nat) : OK enc k E (w.drewN n) B v xs := h
theorem OK.kept {row : Option Nat} (h : OK enc k E w B v xs) (hg : w.grownBy w' row) (hne : v.ownBlock = none ∨ v.ownBlock ≠ row) : OK enc k E w' B v xs := ⟨h.1, h.2.kept hg hne⟩
theorem OK.lt (h : OK enc k E w B v xs) : ∀ g, v.ownBlock = some g → B ≤ g ∧ g < w.heap.size := h.2.lt
theorem OK.below (h : OK enc k E w B v xs) (hb : Below w.heap.size w w') : OK enc k E w' B v xs :=
  h.kept (row := none) ⟨hb.os, hb.tape, hb.output, hb.size, fun i hi _ => hb.block i hi⟩ (by cases v.ownBlock <;> simp)
theorem OK.base (h : OK enc k E w B v xs) (hB : B' ≤ B) : OK enc k E w B' v xs := by
  obtain ⟨h1, h3, h4⟩ := h
  refine ⟨h1, h3, ?_⟩
  rcases h4 with h4 | ⟨g, cap, cur, hv, hg, r⟩
  · exact .inl h4
  · exact .inr ⟨g, cap, cur, hv, by omega, r⟩
theorem OK.nil (w : World) (B : Nat) : OK enc k E w B (.slice none 0 0) [] := ⟨by simp, World.ownsRow_nil _ _ _ _⟩
theorem OK.len (h : OK enc k E w B v xs) : xs.length * k ≤ 140737488355328 := h.1
end
end Go.Proofs.Ytdghanhpeekbhaa

/-
  Plain words: a disk of sectors, by its safe and its pending ones; maps of numbers that read as functions; what a call may have turned. No walk.
-/
namespace Go.Proofs.Ytdghanhpeekbhaa
open Go.RowKit Go.Maps
open Go.ChangeMaps Go.MapKept
set_option linter.unusedVariables false

/-! ### What a call may have turned: blocks of which S holds, and new ones -/
structure Mod (S : Nat → Prop) (w w' : World) : Prop where
  os : w'.os = w.os
  tape : w'.tape = w.tape
  output : w'.output = w.output
  size : w.heap.size ≤ w'.heap.size
  block : ∀ k, k < w.heap.size → ¬ S k → w'.heap[k]? = w.heap[k]?
section
variable {S S' : Nat → Prop} {w w' w1 : World}
theorem Mod.refl (S : Nat → Prop) (w : World) : Mod S w w := ⟨rfl, rfl, rfl, Nat.le_refl _, fun _ _ _ => rfl⟩
theorem Mod.trans (h : Mod S w w1) (h' : Mod S' w1 w') (hs : ∀ k, k < w.heap.size → S' k → S k) : Mod S w w' :=
  ⟨h'.os.trans h.os, h'.tape.trans h.tape, h'.output.trans h.output, Nat.le_trans h.size h'.size, fun k hk hn =>
    (h'.block k (Nat.lt_of_lt_of_le hk h.size) (fun e => hn (hs k hk e))).trans (h.block k hk hn)⟩
theorem Mod.trans' (h : Mod S w w1) (h' : Mod S w1 w') : Mod S w w' := h.trans h' fun _ _ e => e
theorem Mod.mono (h : Mod S w w') (hs : ∀ k, k < w.heap.size → S k → S' k) : Mod S' w w' := ⟨h.os, h.tape, h.output, h.size, fun k hk hn => h.block k hk fun e => hn (hs k hk e)⟩
theorem Mod.of_below (h : Below w.heap.size w w') (S : Nat → Prop) : Mod S w w' := ⟨h.os, h.tape, h.output, h.size, fun k hk _ => h.block k hk⟩
theorem Mod.below {B : Nat} (h : Mod S w w') (hB : B ≤ w.heap.size) (hs : ∀ k, S k → B ≤ k) : Below B w w' :=
  ⟨h.os, h.tape, h.output, h.size, fun k hk => h.block k (by omega) fun e => by have := hs k e; omega⟩
theorem Mod.of_grown {row : Option Nat} (h : w.grownBy w' row) : Mod (fun k => some k = row) w w' := ⟨h.os, h.tape, h.output, h.size, fun k hk hn => h.block k hk hn⟩
theorem Mod.alloc (h : Mod S w w1) (o : Obj) : Mod S w (w1.alloc o) := h.trans (Mod.of_below ((Below.refl _ _).alloc (Nat.le_refl _) _) S) fun _ _ e => e
theorem Mod.drew (h : Mod S w w1) : Mod S w w1.drew := ⟨h.os, h.tape, h.output, h.size, h.block⟩
theorem Mod.drewN (h : Mod S w w1) (n : Nat) : Mod S w (w1.drewN n) := ⟨h.os, h.tape, h.output, h.size, h.block⟩
theorem Mod.setCell (h : Mod S w w1) {p : Addr} (hp : p.block < w.heap.size → S p.block) (u : Value) : Mod S w (w1.setCell p u) :=
  h.trans (S' := fun k => k = p.block) ⟨rfl, rfl, rfl, by simp, fun k hk hn => Below.heap_setCell w1 p u k hn⟩ fun k hk e => by subst e; exact hp hk
theorem Mod.setCells (h : Mod S w w1) {b : Nat} (hp : b < w.heap.size → S b) : ∀ (vs : List Value) (o : Nat), Mod S w (w1.setCells b o vs) := by
  intro vs
  induction vs generalizing w1 with
  | nil => intro o; exact h
  | cons v r ih => intro o; exact ih (h.setCell (p := ⟨b, o, none⟩) hp v) (o + 1)
theorem Mod.turned {b : Nat} (h : Mod S w w1) (ht : w1.mapTurned w' b) (hb : b < w.heap.size → S b) : Mod S w w' :=
  h.trans (Mod.of_grown ht.grown) fun k hk e => by injection e with e; subst e; exact hb hk
theorem Mod.cell (h : Mod S w w') {b : Nat} (hb : b < w.heap.size) (hn : ¬ S b) (o : Nat) : w'.cell? ⟨b, o, none⟩ = w.cell? ⟨b, o, none⟩ := World.cell?_of_block (w := w) (h.block b hb hn)
theorem Mod.frozen (h : Mod S w w') {b : Nat} (hb : b < w.heap.size) (hn : ¬ S b) (o : Nat) : w'.frozen? ⟨b, o, none⟩ = w.frozen? ⟨b, o, none⟩ := World.frozen?_of_block (w := w) (h.block b hb hn)
theorem Blk.mod {g : Nat} {t : TypeId} {cs : Array Value} (h : Blk w g t cs) (hm : Mod S w w') (hn : ¬ S g) : Blk w' g t cs := (hm.block g h.lt hn).trans h
/-- A slice has no element, or lies in no block of which S holds. -/
def Off {α : Type} (S : Nat → Prop) (v : Value) (l : List α) : Prop := l = [] ∨ ∀ b, v.ownBlock = some b → ¬ S b
theorem Off.mono {α : Type} {S S' : Nat → Prop} {v : Value} {l : List α} (h : Off S v l) (hs : ∀ k, S' k → S k) : Off S' v l := h.imp id fun h b hb e => h b hb (hs b e)
/-- A slice that reads, in whatever blocks there are. -/
theorem RB.off {B : Nat} {v : Value} {l : List Nat} (h : RB w B v l) (hs : ∀ k, k < B → ¬ S k) : Off S v l := by
  obtain ⟨h1, h2, A, c, rfl, h3, h4, h5⟩ := h
  rcases h5 with h5 | ⟨b, off, rfl, hb, hc⟩
  · exact .inl h5
  · exact .inr fun b' e => by injection e with e; subst e; exact hs _ hb
theorem RK.off {α : Type} {enc : α → List Value} {k B : Nat} {v : Value} {xs : List α} (h : RK enc k w B v xs) (hs : ∀ k, k < B → ¬ S k) : Off S v xs := by
  obtain ⟨h1, A, c, rfl, h3, h4, h5⟩ := h
  rcases h5 with h5 | ⟨b, off, rfl, hb, hc⟩
  · exact .inl h5
  · exact .inr fun b' e => by injection e with e; subst e; exact hs _ hb
theorem RB.mod {v : Value} {l : List Nat} (h : RB w w.heap.size v l) (hm : Mod S w w') (hn : Off S v l) : RB w' w'.heap.size v l := by
  obtain ⟨h1, h2, A, c, rfl, h3, h4, h5⟩ := h
  refine ⟨h1, h2, A, c, rfl, h3, h4, ?_⟩
  rcases h5 with h5 | ⟨b, off, rfl, hb, hc⟩
  · exact .inl h5
  · rcases hn with hn | hn
    · exact .inl hn
    · exact .inr ⟨b, off, rfl, Nat.lt_of_lt_of_le hb hm.size, fun j x hx => (hm.cell hb (hn b rfl) _).trans (hc j x hx)⟩
theorem OB.mod {B : Nat} {v : Value} {l : List Nat} (h : OB w B v l) (hm : Mod S w w') (hn : ∀ b, v.ownBlock = some b → ¬ S b) : OB w' B v l := by
  refine ⟨h.1, h.2.1, h.2.2.1, ?_⟩
  rcases h.2.2.2 with h4 | ⟨g, cap, cur, hv, hg, hh, r⟩
  · exact .inl h4
  · exact .inr ⟨g, cap, cur, hv, hg, (hm.block g (Array.getElem?_eq_some_iff.1 hh).1 (hn g (by rw [hv]; rfl))).trans hh, r⟩
theorem RK.mod {α : Type} {enc : α → List Value} {k : Nat} {v : Value} {xs : List α} (h : RK enc k w w.heap.size v xs) (hm : Mod S w w') (hn : Off S v xs) : RK enc k w' w'.heap.size v xs := by
  obtain ⟨h1, A, c, rfl, h3, h4, h5⟩ := h
  refine ⟨h1, A, c, rfl, h3, h4, ?_⟩
  rcases h5 with h5 | ⟨b, off, rfl, hb, hc⟩
  · exact .inl h5
  · rcases hn with hn | hn
    · exact .inl hn
    · exact .inr ⟨b, off, rfl, Nat.lt_of_lt_of_le hb hm.size, fun i x hx j u hu => (hm.cell hb (hn b rfl) _).trans (hc i x hx j u hu)⟩
end

/-! ### Maps of numbers, read as functions -/
noncomputable def heldR (p : Value → Prop) (v : Value) : Option (DataW Value × List MemPlace) := by
  classical exact if p v then some (.held v, []) else none
theorem heldR_yes {p : Value → Prop} {v : Value} (h : p v) : heldR p v = some (.held v, []) := by unfold heldR; simp [h]
theorem heldR_inv {p : Value → Prop} {v : Value} {z : DataW Value × List MemPlace} (h : heldR p v = some z) : p v ∧ z = (.held v, []) := by
  unfold heldR at h
  split at h
  · rename_i hp; injection h with h; exact ⟨hp, h.symm⟩
  · cases h

/-- Block b is a map of at most n entries from numbers to values of which p holds; it reads as f. -/
def MapI (p : Value → Prop) (w : World) (b n : Nat) (f : Int → Option Value) : Prop :=
  ∃ D : DataW Value, w.ownsMap Try.prog 3 (heldR p) b n D ∧ ∀ (i : Int) (z : DataW Value), D.atKey (.int .i64 i) z = (f i).elim z .held
theorem keyed3 : Keyed Try.prog 3 := int_keyed Try.underlying3
/-- A number that an int holds. -/
abbrev I64 (i : Int) : Prop := -9223372036854775808 ≤ i ∧ i ≤ 9223372036854775807
theorem wf64 {i : Int} (hi : I64 i) : (Lit.int .i64 i).wf = true := by
  obtain ⟨h1, h2⟩ := hi
  simp [Lit.wf, IntKind.min, IntKind.max, IntKind.signed, IntKind.bits]; omega
theorem key3 {i : Int} (hi : I64 i) : keyOf Try.prog 3 (.int .i64 i) = some (.int .i64 i) := keyOf_int_mk Try.underlying3 (wf64 hi)
theorem isKey3 (i : Int) (hi : I64 i) : WideAt.IsKeyLit (.int .i64 i) := keyed3.key (key3 hi)

section
variable {p : Value → Prop} {w w' : World} {b n : Nat} {f : Int → Option Value}
theorem MapI.lt (h : MapI p w b n f) : b < w.heap.size := by obtain ⟨D, h1, _⟩ := h; exact h1.lt
theorem MapI.mono {n' : Nat} (h : MapI p w b n f) (hn : n ≤ n') : MapI p w b n' f := by obtain ⟨D, h1, h2⟩ := h; exact ⟨D, h1.mono hn, h2⟩
theorem MapI.same {w' : World} (h : MapI p w b n f) (hb : w'.heap[b]? = w.heap[b]?) : MapI p w' b n f := by
  obtain ⟨D, ⟨es, clock, h1, r⟩, h2⟩ := h
  exact ⟨D, ⟨es, clock, hb.trans h1, r⟩, h2⟩
theorem MapI.mod {S : Nat → Prop} (h : MapI p w b n f) (hm : Mod S w w') (hn : ¬ S b) : MapI p w' b n f := h.same (hm.block b h.lt hn)
theorem MapI.made (w : World) : MapI p (w.alloc (.map #[] 0)) w.heap.size 0 (fun _ => none) := ⟨_, World.ownsMap_made _ _ _ _, fun _ _ => rfl⟩
theorem MapI.cast {f' : Int → Option Value} (h : MapI p w b n f) (e : ∀ i, f i = f' i) : MapI p w b n f' := by
  have : f = f' := funext e
  rw [← this]; exact h

theorem MapI.look_ok {t e : TypeId} (h : MapI p w b n f) (ht : Try.prog.underlying t = some (.map 3 e)) {z : Value} (hz : (zeroValue e).run Try.prog w = .ok z w) (hp : p z) {i : Int} (hi : I64 i) :
    (Instr.lookup t (.map (some b)) (.int .i64 i) true).run Try.prog w = .ok (.tuple #[(f i).getD z, .bool (f i).isSome]) w ∧ p ((f i).getD z) := by
  obtain ⟨D, h1, h2⟩ := h
  obtain ⟨v, ps, hrun, hv⟩ := h1.look_ok keyed3 ht hz (heldR_yes hp) (key3 hi)
  obtain ⟨hpv, e1⟩ := heldR_inv hv
  rw [h2 i] at e1
  have e2 := congrArg Prod.fst e1
  cases hf : f i with
  | none =>
    rw [hf] at e2
    simp at e2
    subst e2
    have : Maps.has D (.int .i64 i) = false := Maps.has_false_of_atKey fun zd => by rw [h2 i, hf]; rfl
    rw [this] at hrun
    exact ⟨hrun, hpv⟩
  | some u =>
    rw [hf] at e2
    simp at e2
    subst e2
    have : Maps.has D (.int .i64 i) = true := Maps.has_true_of_atKey fun zd => by rw [h2 i, hf]; rfl
    rw [this] at hrun
    exact ⟨hrun, hpv⟩
theorem MapI.look {t e : TypeId} (h : MapI p w b n f) (ht : Try.prog.underlying t = some (.map 3 e)) {z : Value} (hz : (zeroValue e).run Try.prog w = .ok z w) (hp : p z) {i : Int} (hi : I64 i) :
    (Instr.lookup t (.map (some b)) (.int .i64 i) false).run Try.prog w = .ok ((f i).getD z) w := by
  obtain ⟨D, h1, h2⟩ := h
  obtain ⟨v, ps, hrun, hv⟩ := h1.lookup keyed3 ht hz (heldR_yes hp) (key3 hi)
  obtain ⟨hpv, e1⟩ := heldR_inv hv
  rw [h2 i] at e1
  have e2 := congrArg Prod.fst e1
  cases hf : f i with
  | none => rw [hf] at e2; simp at e2; subst e2; exact hrun
  | some u => rw [hf] at e2; simp at e2; subst e2; exact hrun
theorem MapI.val (h : MapI p w b n f) {t e : TypeId} (ht : Try.prog.underlying t = some (.map 3 e)) {z : Value} (hz : (zeroValue e).run Try.prog w = .ok z w) (hp : p z) {i : Int} (hi : I64 i) {u : Value} (hu : f i = some u) : p u := by
  have := (h.look_ok ht hz hp hi).2
  rw [hu] at this
  exact this

/-- The function with another value at one number. -/
def updI (f : Int → Option Value) (i : Int) (u : Option Value) : Int → Option Value := fun k => if k = i then u else f k
theorem MapI.store {t e : TypeId} (h : MapI p w b n f) (ht : Try.prog.underlying t = some (.map 3 e)) (hn : n < 9223372036854775807) {i : Int} (hi : I64 i) {v : Value} (hv : p v) :
    ∃ w', (Instr.mapUpdate t (.map (some b)) (.int .i64 i) v).run Try.prog w = .ok () w' ∧ MapI p w' b (n + 1) (updI f i (some v)) ∧ w.mapTurned w' b := by
  obtain ⟨D, h1, h2⟩ := h
  obtain ⟨w', hrun, h3, h4⟩ := h1.store keyed3 ht (by unfold maxLen; omega) (key3 hi) (heldR_yes hv)
  refine ⟨w', hrun, ⟨_, h3, fun k z => ?_⟩, h4⟩
  unfold updI
  by_cases hk : k = i
  · subst hk
    rw [if_pos rfl, atKey_put_same h1.isMap (isKey3 k hi)]
    rfl
  · rw [if_neg hk, atKey_put_other (fun e => hk (by injection e))]
    exact h2 k z
theorem MapI.clear {t e : TypeId} (h : MapI p w b n f) (ht : Try.prog.underlying t = some (.map 3 e)) (ty : TypeId) :
    ∃ w', (Builtin.clear_ #[t] ty #[.map (some b)]).run Try.prog w = .ok (.tuple #[]) w' ∧ MapI p w' b 0 (fun _ => none) ∧ w.mapTurned w' b := by
  obtain ⟨D, ⟨es, clock, hb, F, hs, hD⟩, h2⟩ := h
  refine ⟨setBlock w b (.map #[] clock), ?_, ⟨.map [], ⟨#[], clock, heap_setBlock_same hb _, ?_, Nat.le_refl _, rfl⟩, fun _ _ => rfl⟩, ⟨es, clock, #[], clock, hb, rfl⟩⟩
  · simp [Builtin.clear_, run_underlying ht, MapKept.run_getObj_map hb, MapKept.run_setObj_map _ hb, Result.andThen, setBlock]
  · exact ⟨by simp, stamped_empty _, by simp⟩

/-- 'for k, v := range m' under way over such a map: left says which numbers are still to come. -/
def RangeI (p : Value → Prop) (w : World) (b r n : Nat) (f : Int → Option Value) (left : Int → Bool) (cnt : Nat) : Prop :=
  ∃ (D : DataW Value) (L : Lit → Bool), w.ranges Try.prog 3 (heldR p) b r n D L cnt ∧ (∀ (i : Int) (z : DataW Value), D.atKey (.int .i64 i) z = (f i).elim z .held) ∧ ∀ i : Int, L (.int .i64 i) = left i
theorem RangeI.map {r cnt : Nat} {left : Int → Bool} (h : RangeI p w b r n f left cnt) : MapI p w b n f := by obtain ⟨D, L, h1, h2, _⟩ := h; exact ⟨D, h1.owns, h2⟩
theorem RangeI.left_eq {r cnt : Nat} {left : Int → Bool} (h : RangeI p w b r n f left cnt) : w.rangeLeft b r = cnt := by obtain ⟨D, L, h1, _⟩ := h; exact h1.left_eq
theorem RangeI.ne {r cnt : Nat} {left : Int → Bool} (h : RangeI p w b r n f left cnt) : r ≠ b := by obtain ⟨D, L, h1, _⟩ := h; exact h1.ne
theorem RangeI.lt {r cnt : Nat} {left : Int → Bool} (h : RangeI p w b r n f left cnt) : r < w.heap.size := by obtain ⟨D, L, h1, _⟩ := h; exact h1.lt
theorem RangeI.mod {S : Nat → Prop} {r cnt : Nat} {left : Int → Bool} (h : RangeI p w b r n f left cnt) (hm : Mod S w w') (h1 : ¬ S b) (h2 : ¬ S r) : RangeI p w' b r n f left cnt := by
  have hb := h.map.lt
  have hr := h.lt
  obtain ⟨D, L, ⟨es, clock, since, seen, c0, a1, a2, a3, a4, a5, rest⟩, h4⟩ := h
  exact ⟨D, L, ⟨es, clock, since, seen, c0, (hm.block b hb h1).trans a1, a2, a3, a4, (hm.block r hr h2).trans a5, rest⟩, h4⟩
theorem isSome_has {D : DataW Value} (h2 : ∀ (i : Int) (z : DataW Value), D.atKey (.int .i64 i) z = (f i).elim z .held) (i : Int) : Maps.has D (.int .i64 i) = (f i).isSome := by
  cases hf : f i with
  | none => exact Maps.has_false_of_atKey fun zd => by rw [h2 i, hf]; rfl
  | some u => exact Maps.has_true_of_atKey (y := .held u) fun zd => by rw [h2 i, hf]; rfl
/-- So many entries as numbers that it may be asked for. -/
theorem MapI.bound (h : MapI p w b n f) (N : Nat) (hf : ∀ i u, f i = some u → 0 ≤ i ∧ i < (N : Int)) : MapI p w b N f := by
  obtain ⟨D, ⟨es, clock, hb, F, hs, hD⟩, h2⟩ := h
  have hkey : ∀ x ∈ es.toList, ∃ i : Nat, x.key = .int .i64 (i : Int) ∧ i < N := by
    intro x hx
    obtain ⟨y, hy⟩ := F.reads x hx
    have h3 := WideElems.rd_key hy
    obtain ⟨i, e1, e2, hwf⟩ := keyOf_int_inv Try.underlying3 h3
    have h4 : Maps.has D (.int .i64 i) = true := by
      rw [hD, ← e2]
      refine List.any_eq_true.2 ⟨_, mem_sorted.2 (List.mem_map.2 ⟨x, hx, rfl⟩), ?_⟩
      rw [WideElems.rg_of hy]
      exact WideAt.sameKey_self (keyed3.key h3)
    rw [isSome_has h2 i] at h4
    obtain ⟨u, hu⟩ := Option.isSome_iff_exists.1 h4
    have := hf i u hu
    exact ⟨i.toNat, by rw [e1, Int.toNat_of_nonneg this.1], by omega⟩
  refine ⟨D, ⟨es, clock, hb, F, ?_, hD⟩, h2⟩
  let g : MapEntry → Nat := fun x => match x.key with | .int _ i => i.toNat | _ => 0
  have hap := ((stamped_iff es clock).1 F.stamped).2.2
  have hnd : (es.toList.map g).Nodup := by
    refine List.pairwise_map.2 (hap.imp_of_mem (fun {x y} hx hy hne e => hne ?_))
    obtain ⟨i, e1, _⟩ := hkey x hx
    obtain ⟨j, e2, _⟩ := hkey y hy
    simp only [g, e1, e2] at e
    rw [e1, e2]
    have : i = j := by simpa using e
    rw [this]
  have hsub : (es.toList.map g) ⊆ List.range N := by
    intro k hk
    obtain ⟨x, hx, rfl⟩ := List.mem_map.1 hk
    obtain ⟨i, e1, hi⟩ := hkey x hx
    simp only [g, e1]
    simpa using hi
  have := hnd.length_le_of_subset hsub
  simpa using this
theorem sameKey64 (k i : Int) (hi : I64 i) : (Lit.int .i64 k).sameKey (.int .i64 i) = decide (k = i) := by
  by_cases h : k = i
  · subst h; rw [WideAt.sameKey_self (isKey3 k hi)]; simp
  · rw [sameKey_ne (fun e => h (by injection e))]; simp [h]

/-- What is known of an entry that has come. -/
structure NextI (p : Value → Prop) (f : Int → Option Value) (left : Int → Bool) (i : Int) (v : Value) : Prop where
  i64 : I64 i
  left : left i = true
  val : f i = some v
  prop : p v
section
variable {ops : Array Oper} {rest : List Oper} {o : Oper} {a : Act} {Q : Exit → Act → World → Prop} {d : Option Tmp} {ty : TypeId} {pos : String} {af : Array Edge}
theorem wpList_lookI_ (hg : o.guard = none) (m x : Operand) (t : TypeId) (hop : o.op = Op.lookup t m x true) (e : TypeId) (ht : Try.prog.underlying t = some (.map 3 e)) {z : Value} (hz : (zeroValue e).run Try.prog w = .ok z w) (hp : p z) (b n : Nat) (f : Int → Option Value)
    (hm : a.eval m = .map (some b)) (hM : MapI p w b n f) (i : Int) (hx : a.eval x = .int .i64 i) (hi : I64 i) (u : Value) (y : Bool) (hu : (f i).getD z = u) (hy : (f i).isSome = y)
    (hK : wpList Try.prog ops Q rest (a.put o.dst (.tuple #[u, .bool y])) w) : wpList Try.prog ops Q (o :: rest) a w := by
  subst hu hy
  refine wpList_plain hg fun K' hK' => ?_
  unfold Oper.wp
  simp [execOp, hop, hm, hx, (hM.look_ok ht hz hp hi).1, Result.andThen]
  exact hK' _ _ hK
theorem wpList_storeI_ (hg : o.guard = none) (m x v : Operand) (t : TypeId) (hop : o.op = Op.mapUpdate t m x v) (e : TypeId) (ht : Try.prog.underlying t = some (.map 3 e)) (b n : Nat) (f : Int → Option Value)
    (hm : a.eval m = .map (some b)) (hM : MapI p w b n f) (hn : n < 9223372036854775807) (i : Int) (hx : a.eval x = .int .i64 i) (hi : I64 i) (u : Value) (hv : a.eval v = u) (hu : p u)
    (hK : ∀ w', MapI p w' b (n + 1) (updI f i (some u)) → w.mapTurned w' b → wpList Try.prog ops Q rest (a.put o.dst undef) w') : wpList Try.prog ops Q (o :: rest) a w := by
  refine wpList_plain hg fun K' hK' => ?_
  obtain ⟨w', hrun, r1, r2⟩ := hM.store ht hn hi hu
  unfold Oper.wp
  simp [execOp, hop, hm, hx, hv, hrun, Result.andThen]
  exact hK' _ _ (hK w' r1 r2)
theorem wpList_clearI_ (hg : o.guard = none) (m : Operand) (t : TypeId) (hop : o.op = Op.call { callee := Callee.builtin Builtin.clear, args := #[m], argTypes := #[t] }) (e : TypeId) (ht : Try.prog.underlying t = some (.map 3 e)) (b n : Nat) (f : Int → Option Value)
    (hm : a.eval m = .map (some b)) (hM : MapI p w b n f)
    (hK : ∀ w', MapI p w' b 0 (fun _ => none) → w.mapTurned w' b → wpList Try.prog ops Q rest (a.put o.dst (.tuple #[])) w') : wpList Try.prog ops Q (o :: rest) a w := by
  refine wpList_plain hg fun K' hK' => ?_
  obtain ⟨w', hrun, r1, r2⟩ := hM.clear ht o.type
  unfold Oper.wp
  simp [execOp, hop, resolve, invoke, builtin, hm, hrun, Result.andThen]
  exact hK' _ _ (hK w' r1 r2)
theorem wpList_rangeI_ (hg : o.guard = none) (m : Operand) (t : TypeId) (hop : o.op = Op.range t m) (e : TypeId) (ht : Try.prog.underlying t = some (.map 3 e)) (b n : Nat) (f : Int → Option Value)
    (hm : a.eval m = .map (some b)) (hM : MapI p w b n f)
    (hK : ∀ w' cnt, RangeI p w' b w.heap.size n f (fun i => (f i).isSome) cnt → w.grownBy w' none → w'.heap.size = w.heap.size + 1 → wpList Try.prog ops Q rest (a.put o.dst (.pointer (some ⟨w.heap.size, 0, none⟩))) w') :
    wpList Try.prog ops Q (o :: rest) a w := by
  obtain ⟨D, h1, h2⟩ := hM
  exact wpList_range_own w hg m t hop 3 e keyed3 ht (heldR p) b n D hm h1 fun w' r1 r2 r3 => hK w' _ ⟨D, _, r1, h2, fun i => isSome_has h2 i⟩ r2 r3
theorem wpList_nextI_ {β : Type} (hg : o.guard = none) (it : Operand) (hop : o.op = Op.next it false) (mkV : β → Value) (invV : ∀ v, p v → ∃ c, v = mkV c) (b r n : Nat) (f : Int → Option Value) (left : Int → Bool) (cnt : Nat)
    (hit : a.eval it = .pointer (some ⟨r, 0, none⟩)) (h : RangeI p w b r n f left cnt)
    (hDone : (∀ i, left i = false) → wpList Try.prog ops Q rest (a.put o.dst (.tuple #[.bool false])) w)
    (hMore : ∀ (i : Int) (c : β) (w' : World) (cnt' : Nat), NextI p f left i (mkV c) → RangeI p w' b r n f (fun k => left k && !decide (k = i)) cnt' → cnt' < cnt →
      w.grownBy w' (some r) → w'.heap.size = w.heap.size → (Instr.entry (.pointer (some ⟨r, 0, none⟩))).run Try.prog w' = .ok (.tuple #[.int .i64 i, mkV c]) w' → wpList Try.prog ops Q rest (a.put o.dst (.tuple #[.bool true, .int .i64 i, mkV c])) w') :
    wpList Try.prog ops Q (o :: rest) a w := by
  obtain ⟨D, L, h1, h2, h3⟩ := h
  refine wpList_next_ranges w hg it hop 3 keyed3 (heldR p) (Value.int .i64) mkV (fun key kl hk => by obtain ⟨x, hx, _⟩ := keyOf_int_inv Try.underlying3 hk; exact ⟨x, hx⟩) (fun v y hv => invV v (heldR_inv hv).1) b r n D L cnt hit h1 (fun _ hL => hDone fun i => (h3 i).symm.trans (hL _)) ?_
  intro x c kl y w' cnt' hkey hlk hv hat hrg hlt hgr hsz hen
  obtain ⟨x', ex, rfl, hwf⟩ := keyOf_int_inv Try.underlying3 hkey
  injection ex with _ ex
  subst ex
  have hi : I64 x := by
    simp [Lit.wf, IntKind.min, IntKind.max, IntKind.signed, IntKind.bits] at hwf
    unfold I64; omega
  obtain ⟨hpv, rfl⟩ := heldR_inv hv
  refine hMore x c w' cnt' ⟨hi, (h3 x).symm.trans hlk, ?_, hpv⟩ ⟨D, _, hrg, h2, fun k => ?_⟩ hlt hgr hsz hen
  · have := hat .nil
    rw [h2 x] at this
    cases hf : f x with
    | none => rw [hf] at this; simp at this
    | some u => rw [hf] at this; simp at this; rw [this]
  · dsimp only
    rw [h3 k, sameKey64 k x hi]
theorem wpList_lookI {m x : Operand} {t : TypeId} (e : TypeId) (ht : Try.prog.underlying t = some (.map 3 e)) {z : Value} (hz : (zeroValue e).run Try.prog w = .ok z w) (hp : p z) (b n : Nat) (f : Int → Option Value)
    (hm : a.eval m = .map (some b)) (hM : MapI p w b n f) (i : Int) (hx : a.eval x = .int .i64 i) (hi : I64 i) (u : Value) (y : Bool) (hu : (f i).getD z = u) (hy : (f i).isSome = y)
    (hK : wpList Try.prog ops Q rest (a.put d (.tuple #[u, .bool y])) w) : wpList Try.prog ops Q ({ dst := d, op := .lookup t m x true, type := ty, pos := pos, after := af, guard := none } :: rest) a w :=
  wpList_lookI_ rfl m x t rfl e ht hz hp b n f hm hM i hx hi u y hu hy hK
theorem wpList_storeI {m x v : Operand} {t : TypeId} (e : TypeId) (ht : Try.prog.underlying t = some (.map 3 e)) (b n : Nat) (f : Int → Option Value)
    (hm : a.eval m = .map (some b)) (hM : MapI p w b n f) (hn : n < 9223372036854775807) (i : Int) (hx : a.eval x = .int .i64 i) (hi : I64 i) (u : Value) (hv : a.eval v = u) (hu : p u)
    (hK : ∀ w', MapI p w' b (n + 1) (updI f i (some u)) → w.mapTurned w' b → wpList Try.prog ops Q rest (a.put d undef) w') : wpList Try.prog ops Q ({ dst := d, op := .mapUpdate t m x v, type := ty, pos := pos, after := af, guard := none } :: rest) a w :=
  wpList_storeI_ rfl m x v t rfl e ht b n f hm hM hn i hx hi u hv hu hK
theorem wpList_clearI {m : Operand} {t : TypeId} (e : TypeId) (ht : Try.prog.underlying t = some (.map 3 e)) (b n : Nat) (f : Int → Option Value)
    (hm : a.eval m = .map (some b)) (hM : MapI p w b n f)
    (hK : ∀ w', MapI p w' b 0 (fun _ => none) → w.mapTurned w' b → wpList Try.prog ops Q rest (a.put d (.tuple #[])) w') : wpList Try.prog ops Q ({ dst := d, op := .call { callee := .builtin .clear, args := #[m], argTypes := #[t] }, type := ty, pos := pos, after := af, guard := none } :: rest) a w :=
  wpList_clearI_ rfl m t rfl e ht b n f hm hM hK
theorem wpList_rangeI {m : Operand} {t : TypeId} (e : TypeId) (ht : Try.prog.underlying t = some (.map 3 e)) (b n : Nat) (f : Int → Option Value)
    (hm : a.eval m = .map (some b)) (hM : MapI p w b n f)
    (hK : ∀ w' cnt, RangeI p w' b w.heap.size n f (fun i => (f i).isSome) cnt → w.grownBy w' none → w'.heap.size = w.heap.size + 1 → wpList Try.prog ops Q rest (a.put d (.pointer (some ⟨w.heap.size, 0, none⟩))) w') :
    wpList Try.prog ops Q ({ dst := d, op := .range t m, type := ty, pos := pos, after := af, guard := none } :: rest) a w :=
  wpList_rangeI_ rfl m t rfl e ht b n f hm hM hK
theorem wpList_nextI {it : Operand} {β : Type} (mkV : β → Value) (invV : ∀ v, p v → ∃ c, v = mkV c) (b r n : Nat) (f : Int → Option Value) (left : Int → Bool) (cnt : Nat)
    (hit : a.eval it = .pointer (some ⟨r, 0, none⟩)) (h : RangeI p w b r n f left cnt)
    (hDone : (∀ i, left i = false) → wpList Try.prog ops Q rest (a.put d (.tuple #[.bool false])) w)
    (hMore : ∀ (i : Int) (c : β) (w' : World) (cnt' : Nat), NextI p f left i (mkV c) → RangeI p w' b r n f (fun k => left k && !decide (k = i)) cnt' → cnt' < cnt →
      w.grownBy w' (some r) → w'.heap.size = w.heap.size → (Instr.entry (.pointer (some ⟨r, 0, none⟩))).run Try.prog w' = .ok (.tuple #[.int .i64 i, mkV c]) w' → wpList Try.prog ops Q rest (a.put d (.tuple #[.bool true, .int .i64 i, mkV c])) w') :
    wpList Try.prog ops Q ({ dst := d, op := .next it false, type := ty, pos := pos, after := af, guard := none } :: rest) a w :=
  wpList_nextI_ rfl it rfl mkV invV b r n f left cnt hit h hDone hMore
end

/-! ### A disk, by its safe and its pending sectors -/
/-- A sector: 512 bytes. -/
def SecOk (l : List Nat) : Prop := l.length = 512 ∧ ∀ x ∈ l, x < 256
def pad (l : List Nat) : List Nat := l ++ List.replicate (512 - l.length) 0
theorem SecOk.pad {l : List Nat} (h1 : l.length ≤ 512) (h2 : ∀ x ∈ l, x < 256) : SecOk (pad l) := by
  refine ⟨by unfold Proofs.Ytdghanhpeekbhaa.pad; rw [List.length_append, List.length_replicate]; omega, fun x hx => ?_⟩
  unfold Proofs.Ytdghanhpeekbhaa.pad at hx
  rcases List.mem_append.1 hx with hx | hx
  · exact h2 x hx
  · rw [(List.mem_replicate.1 hx).2]; omega
def sec0 : List Nat := List.replicate 512 0
theorem sec0_ok : SecOk sec0 := ⟨List.length_replicate, fun x hx => by unfold sec0 at hx; rw [(List.mem_replicate.1 hx).2]; omega⟩
structure DS where
  safe : List (List Nat)
  pend : Int → Option (List Nat)
  plan : Int → Int
  steps : Nat
  off : Bool
structure DS.Ok (s : DS) : Prop where
  num : s.safe.length ≤ 4096
  safe : ∀ l ∈ s.safe, SecOk l
  pend : ∀ i l, s.pend i = some l → 0 ≤ i ∧ i < s.safe.length ∧ SecOk l
/-- What sector i has. -/
def DS.has (s : DS) (i : Nat) : List Nat := (s.pend i).getD (s.safe.getD i [])
def DS.isSec (s : DS) (i : Int) : Bool := decide (0 ≤ i) && decide (i < s.safe.length)
theorem DS.Ok.at_ {s : DS} (h : s.Ok) {i : Nat} (hi : i < s.safe.length) : SecOk (s.safe.getD i []) := by
  have : s.safe.getD i [] = s.safe[i] := by simp [List.getD, hi]
  rw [this]; exact h.safe _ (List.getElem_mem hi)
theorem DS.Ok.has {s : DS} (h : s.Ok) {i : Nat} (hi : i < s.safe.length) : SecOk (s.has i) := by
  unfold DS.has
  cases hp : s.pend i with
  | none => exact h.at_ hi
  | some l => exact (h.pend _ l hp).2.2
/-- One step more. -/
def DS.tick (s : DS) : DS := { s with steps := s.steps + 1 }
def DS.fate (s : DS) : Int := s.plan (s.steps + 1)
/-- A step, f what it does. -/
def DS.step (s : DS) (f : DS → DS) : DS := if s.fate = 1 then s.tick else if s.fate = 2 then { s.tick with off := true } else if s.fate = 3 then { f s.tick with off := true } else f s.tick
def DS.code (s : DS) : Int := if s.fate = 1 then 71 else if s.fate = 2 then 70 else if s.fate = 3 then 70 else 0
def DS.put (i : Int) (l : List Nat) (s : DS) : DS := { s with pend := fun k => if k = i then some l else s.pend k }
def DS.settle (s : DS) : DS := { s with safe := (List.range s.safe.length).map s.has, pend := fun _ => none }
/-- Write: the disk behind it, and what it answers. -/
def DS.write (s : DS) (i : Int) (l : List Nat) : DS := if s.off = true then s else if s.isSec i = false then s else if 512 < l.length then s else s.step (DS.put i (Proofs.Ytdghanhpeekbhaa.pad l))
def DS.writeE (s : DS) (i : Int) (l : List Nat) : Int := if s.off = true then 70 else if s.isSec i = false then 1 else if 512 < l.length then 1 else s.code
def DS.sync (s : DS) : DS := if s.off = true then s else s.step DS.settle
def DS.syncE (s : DS) : Int := if s.off = true then 70 else s.code
def DS.on (s : DS) (keeps : List Int) : DS := { s with safe := (List.range s.safe.length).map (fun i : Nat => if keeps.contains (i : Int) then s.has i else s.safe.getD i []), pend := fun _ => none, off := false }
/-- The plan that fates make: the first right one at each step counts. -/
def firstFate : List (Int × Int) → Int → Int
  | [], _ => 0
  | f :: r, k => if f.1 = k ∧ 1 ≤ f.2 ∧ f.2 ≤ 3 then f.2 else firstFate r k
def DS.planned (s : DS) (fs : List (Int × Int)) : DS := { s with plan := fun k => if k ≤ s.steps then 0 else firstFate fs k }
def DS.new (n : Int) : DS := ⟨List.replicate (min (max n 0) 4096).toNat sec0, fun _ => none, fun _ => 0, 0, false⟩
def secsOf (l : List Nat) : Nat := min ((l.length + 511) / 512) 4096
def DS.load (l : List Nat) : DS := ⟨(List.range (secsOf l)).map fun i => Proofs.Ytdghanhpeekbhaa.pad ((l.drop (i * 512)).take 512), fun _ => none, fun _ => 0, 0, false⟩
def DS.all (s : DS) : List Nat := (List.range s.safe.length).flatMap s.has
def DS.safes (s : DS) : List Nat := s.safe.flatMap id
def DS.loose (s : DS) : List Int := ((List.range s.safe.length).filter fun i : Nat => (s.pend (i : Int)).isSome).map fun i : Nat => (i : Int)
end
end Go.Proofs.Ytdghanhpeekbhaa
