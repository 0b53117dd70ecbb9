/-
  Words for memory: slices that read as lists of elements of k cells, rows that the call owns, blocks that are known whole. No walk.
-/
import Derived.Test.YtbagmmncjmbboaaGreatBase
import Derived.WalkKit
import Derived.Deep.AppendLies
import Derived.Maps.AppendAt
import Derived.Deep.Draws
import Derived.Deep.QuietTactic
import Derived.BigQuiet
import Derived.Laws.Cells
import Derived.Lib.Hide
namespace Go.Proofs.YtbagmmncjmbboaaGreat
open Go.RowKit
set_option linter.unusedVariables false

def encI (x : Int) : List Value := [.int .i64 x]

theorem encI_len (x : Int) : (encI x).length = 1 := rfl

theorem encI_one (x : Int) : ∀ u ∈ encI x, u.oneCell' = true := by intro u hu; simp [encI] at hu; subst hu; rfl

section

variable {α : Type} {enc : α → List Value} {k : Nat} {w w' : World} {B B' : Nat} {v : Value} {xs : List α}

/-- The slice value v reads as the elements xs, each of k cells, in blocks below B. -/
def RK (enc : α → List Value) (k : Nat) (w : World) (B : Nat) (v : Value) (xs : List α) : Prop :=
  xs.length * k ≤ 140737488355328 ∧ ∃ A c, v = .slice A xs.length c ∧ xs.length ≤ c ∧ c ≤ 9223372036854775807 ∧
    (xs = [] ∨ ∃ b off, A = some ⟨b, off, none⟩ ∧ b < B ∧ ∀ (i : Nat) x, xs[i]? = some x → ∀ (j : Nat) u, (enc x)[j]? = some u → w.cell? ⟨b, off + i * k + j, none⟩ = some u)

theorem RK.len (h : RK enc k w B v xs) : xs.length * k ≤ 140737488355328 := h.1

theorem RK.keep (h : RK enc k w B v xs) (hk : ∀ b o, b < B → w'.cell? ⟨b, o, none⟩ = w.cell? ⟨b, o, none⟩) : RK enc k w' B v xs := by
  obtain ⟨h1, A, c, rfl, h3, h4, h5⟩ := h
  refine ⟨h1, A, c, rfl, h3, h4, ?_⟩
  rcases h5 with h5 | ⟨b, off, rfl, hb, hc⟩
  · exact .inl h5
  · exact .inr ⟨b, off, rfl, hb, fun i x hx j u hu => (hk b _ hb).trans (hc i x hx j u hu)⟩

theorem RK.below (h : RK enc k w B v xs) (hb : Below B w w') : RK enc k w' B v xs := h.keep fun b o hlt => hb.cell (p := ⟨b, o, none⟩) hlt

theorem RK.more (h : RK enc k w B v xs) (hB : B ≤ B') : RK enc k w B' v xs := by
  obtain ⟨h1, A, c, rfl, h3, h4, h5⟩ := h
  refine ⟨h1, A, c, rfl, h3, h4, ?_⟩
  rcases h5 with h5 | ⟨b, off, rfl, hb, hc⟩
  · exact .inl h5
  · exact .inr ⟨b, off, rfl, by omega, hc⟩

theorem RK.alloc (h : RK enc k w B v xs) (hB : B ≤ w.heap.size) (o : Obj) : RK enc k (w.alloc o) B v xs := h.below ((Below.refl B w).alloc hB o)

theorem RK.drew (h : RK enc k w B v xs) : RK enc k w.drew B v xs := h

theorem RK.drewN (h : RK enc k w B v xs) (n : Nat) : RK enc k (w.drewN n) B v xs := h

theorem RK.nil (w : World) (B : Nat) : RK enc k w B (.slice none 0 0) [] := ⟨by simp, none, 0, rfl, by simp, by simp, .inl rfl⟩

theorem RK.open_ (h : RK enc k w B v xs) : ∃ A c, v = .slice A xs.length c ∧ xs.length ≤ c ∧ c ≤ 9223372036854775807 ∧ xs.length * k ≤ 140737488355328 ∧
    Hid (∀ i, (hi : i < xs.length) → ∃ b off, A = some ⟨b, off, none⟩ ∧ b < B ∧ ∀ (j : Nat) u, (enc xs[i])[j]? = some u → w.cell? ⟨b, off + i * k + j, none⟩ = some u) := by
  obtain ⟨h1, A, c, rfl, h3, h4, h5⟩ := h
  refine ⟨A, c, rfl, h3, h4, h1, ?_⟩
  intro i hi
  rcases h5 with rfl | ⟨b, off, rfl, hb, hc⟩
  · simp at hi
  · exact ⟨b, off, rfl, hb, fun j u hu => hc i _ (List.getElem?_eq_getElem hi) j u hu⟩

end

/-- .. of numbers. -/
abbrev RI := RK encI 1

/-- A number's cell, out of what is known of a row. -/
theorem cellI {w : World} {b off : Nat} {i : Nat} {x : Int} (h : ∀ (j : Nat) u, (encI x)[j]? = some u → w.cell? ⟨b, off + i * 1 + j, none⟩ = some u) : w.cell? ⟨b, off + i, none⟩ = some (.int .i64 x) := by
  have := h 0 _ rfl
  simpa using this

/-- Old cells and marks read as before. -/
theorem belowCells {W w1 : World} {B : Nat} (hb : Below B W w1) : (∀ b o, b < B → w1.cell? ⟨b, o, none⟩ = W.cell? ⟨b, o, none⟩) ∧ (∀ b o, b < B → w1.frozen? ⟨b, o, none⟩ = W.frozen? ⟨b, o, none⟩) :=
  ⟨fun b o h => hb.cell (p := ⟨b, o, none⟩) h, fun b o h => hb.frozen (p := ⟨b, o, none⟩) h⟩

/-- The block g is just the cells cs of element type t, none frozen. -/
def Blk (w : World) (g : Nat) (t : TypeId) (cs : Array Value) : Prop := w.heap[g]? = some (.cells cs t (0, 0))

section

variable {w w' : World} {g : Nat} {t : TypeId} {cs : Array Value}

theorem Blk.lt (h : Blk w g t cs) : g < w.heap.size := by
  rcases Nat.lt_or_ge g w.heap.size with hlt | hge
  · exact hlt
  · unfold Blk at h; rw [Array.getElem?_eq_none hge] at h; cases h

theorem Blk.cell (h : Blk w g t cs) (i : Nat) : w.cell? ⟨g, i, none⟩ = cs[i]? := cell_of_row w g i cs t (0, 0) h

theorem Blk.frozen (h : Blk w g t cs) (i : Nat) : w.frozen? ⟨g, i, none⟩ = false := by unfold Blk at h; simp [World.frozen?, h]

theorem Blk.new (w : World) (t : TypeId) (cs : Array Value) : Blk (w.alloc (.cells cs t)) w.heap.size t cs := heap_alloc_new w _

theorem Blk.drew (h : Blk w g t cs) : Blk w.drew g t cs := h

theorem Blk.drewN (h : Blk w g t cs) (n : Nat) : Blk (w.drewN n) g t cs := h

theorem Blk.alloc (h : Blk w g t cs) (o : Obj) : Blk (w.alloc o) g t cs := (Below.heap_alloc w o g h.lt).trans h

theorem Blk.set_ (h : Blk w g t cs) (i : Nat) (u : Value) : Blk (w.setCell ⟨g, i, none⟩ u) g t (cs.setIfInBounds i u) := by
  unfold Blk at h ⊢
  simp [World.setCell, Array.getElem?_modify, h]

theorem Blk.far (h : Blk w g t cs) {p : Addr} (hp : g ≠ p.block) (u : Value) : Blk (w.setCell p u) g t cs := (Below.heap_setCell w p u g hp).trans h

theorem Blk.below {B : Nat} (h : Blk w g t cs) (hb : Below B w w') (hg : g < B) : Blk w' g t cs := (hb.block g hg).trans h

theorem Blk.grown {row : Option Nat} (h : Blk w g t cs) (hb : w.grownBy w' row) (hg : some g ≠ row) : Blk w' g t cs := (hb.block g h.lt hg).trans h

theorem Blk.ne_ {g' : Nat} {t' : TypeId} {cs' : Array Value} (h : Blk w g t cs) (h' : Blk w g' t' cs') (hne : t ≠ t') : g ≠ g' := by
  rintro rfl
  unfold Blk at h h'
  rw [h] at h'
  injection h' with h'
  injection h' with _ ht
  exact hne ht

end

/-- Growth and what lies below. -/
theorem grownBy_trans {w w1 w2 : World} {row : Option Nat} (h : w.grownBy w1 row) (h' : w1.grownBy w2 row) : w.grownBy w2 row :=
  ⟨h'.os.trans h.os, h'.tape.trans h.tape, h'.output.trans h.output, Nat.le_trans h.size h'.size, fun i hi hr => (h'.block i (Nat.lt_of_lt_of_le hi h.size) hr).trans (h.block i hi hr)⟩

theorem grownBy_below {w w1 : World} {row : Option Nat} (h : Below w.heap.size w w1) : w.grownBy w1 row := ⟨h.os, h.tape, h.output, h.size, fun i hi _ => h.block i hi⟩

theorem below_grownBy {B : Nat} {w w1 : World} {row : Option Nat} (h : w.grownBy w1 row) (hB : B ≤ w.heap.size) (hr : ∀ g, row = some g → B ≤ g) : Below B w w1 := (Below.refl B w).grown h hB hr

/-- A slice of the call's own: it owns the elements xs, from block B on. -/
def OK {α : Type} (enc : α → List Value) (k : Nat) (E : TypeId) (w : World) (B : Nat) (v : Value) (xs : List α) : Prop :=
  xs.length * k ≤ 140737488355328 ∧ w.ownsRow B E k v xs.length (xs.flatMap enc)

section

variable {α : Type} {enc : α → List Value} {k : Nat} {E : TypeId} {w w' : World} {B B' : Nat} {v : Value} {xs : List α}

theorem flat_len (hk : ∀ x, (enc x).length = k) : ∀ xs : List α, (xs.flatMap enc).length = xs.length * k
  | [] => by simp
  | x :: r => by rw [List.flatMap_cons, List.length_append, hk, flat_len hk r, List.length_cons, Nat.add_mul]; omega

theorem flat_get (hk : ∀ x, (enc x).length = k) : ∀ (xs : List α) (i : Nat) x, xs[i]? = some x → ∀ (j : Nat) u, (enc x)[j]? = some u → (xs.flatMap enc)[i * k + j]? = some u
  | [], i, x, h, _, _, _ => by simp at h
  | a :: r, 0, x, h, j, u, hu => by
    simp at h; subst h
    have hj := (List.getElem?_eq_some_iff.1 hu).1
    rw [List.flatMap_cons, Nat.zero_mul, Nat.zero_add, List.getElem?_append_left hj]; exact hu
  | a :: r, i + 1, x, h, j, u, hu => by
    have h' : r[i]? = some x := by simpa using h
    have := flat_get hk r i x h' j u hu
    rw [List.flatMap_cons, List.getElem?_append_right (by rw [hk, Nat.add_mul]; omega), hk, Nat.add_mul, Nat.one_mul]
    rw [show i * k + k + j - k = i * k + j by omega]; exact this

theorem OK.rk (hk : ∀ x, (enc x).length = k) (h : OK enc k E w B v xs) (hB : w.heap.size ≤ B') : RK enc k w B' v xs := by
  obtain ⟨h1, h3⟩ := h
  have h4 := h3
  rcases h3.2 with ⟨rfl, hn⟩ | ⟨g, cap, cur, rfl, hb, hg, hn, hc, hs, ht⟩
  · have : xs = [] := List.eq_nil_of_length_eq_zero hn
    subst this
    exact .nil _ _
  · refine ⟨h1, some ⟨g, 0, none⟩, cap, rfl, hn, by simpa [maxLen] using hc, .inr ⟨g, 0, rfl, ?_, ?_⟩⟩
    · have := (Array.getElem?_eq_some_iff.1 hg).1; omega
    · intro i x hx j u hu
      have h5 := flat_get hk xs i x hx j u hu
      have h6 := (List.getElem?_eq_some_iff.1 h5).1
      rw [flat_len hk] at h6
      rw [Nat.zero_add, h4.cellAt _ h6, h5]

theorem OK.alloc (h : OK enc k E w B v xs) (o : Obj) : OK enc k E (w.alloc o) B v xs := ⟨h.1, h.2.alloc o⟩

theorem OK.drew (h : OK enc k E w B v xs) : OK enc k E w.drew B v xs := h

theorem OK.drewN (h : OK enc k E w B v xs) (n : Nat) : OK enc k E (w.drewN n) B v xs := h

theorem OK.kept {row : Option Nat} (h : OK enc k E w B v xs) (hg : w.grownBy w' row) (hne : v.ownBlock = none ∨ v.ownBlock ≠ row) : OK enc k E w' B v xs := ⟨h.1, h.2.kept hg hne⟩

theorem OK.lt (h : OK enc k E w B v xs) : ∀ g, v.ownBlock = some g → B ≤ g ∧ g < w.heap.size := h.2.lt

theorem OK.below (h : OK enc k E w B v xs) (hb : Below w.heap.size w w') : OK enc k E w' B v xs :=
  h.kept (row := none) ⟨hb.os, hb.tape, hb.output, hb.size, fun i hi _ => hb.block i hi⟩ (by cases v.ownBlock <;> simp)

theorem OK.base (h : OK enc k E w B v xs) (hB : B' ≤ B) : OK enc k E w B' v xs := by
  obtain ⟨h1, h3, h4⟩ := h
  refine ⟨h1, h3, ?_⟩
  rcases h4 with h4 | ⟨g, cap, cur, hv, hg, r⟩
  · exact .inl h4
  · exact .inr ⟨g, cap, cur, hv, by omega, r⟩

theorem OK.nil (w : World) (B : Nat) : OK enc k E w B (.slice none 0 0) [] := ⟨by simp, World.ownsRow_nil _ _ _ _⟩

theorem OK.len (h : OK enc k E w B v xs) : xs.length * k ≤ 140737488355328 := h.1

end

end Go.Proofs.YtbagmmncjmbboaaGreat
