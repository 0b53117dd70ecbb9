/-
  A forest and rows of numbers beside it, kept together: one contract per call.
-/
import Derived.Test.YtlakcldgolpaiaaZEL10
import Derived.Test.YtlakcldgolpaiaaZEL15
import Derived.Test.YtlakcldgolpaiaaZEL16
namespace Go.Proofs.Ytlakcldgolpaiaa
open Go.RowKit Go.Maps
set_option linter.unusedVariables false

/-- A forest made since w, and rows made since w that none of its calls turns. -/
def Bes (w wr : World) (f : Nat) (F : FS) (L : List (Value × List Int)) : Prop := ∃ Q, FB w.heap.size Q wr f F ∧ Below w.heap.size w wr ∧ ∀ p ∈ L, OK encI 1 3 wr w.heap.size p.1 p.2 ∧ ∀ b, p.1.ownBlock = some b → Q b

section

variable {w wr w' : World} {f : Nat} {F : FS} {L : List (Value × List Int)}

theorem Bes.start (h : FB w.heap.size noQ wr f F) (hb : Below w.heap.size w wr) : Bes w wr f F [] := ⟨noQ, h, hb, fun p hp => by cases hp⟩

theorem Bes.good (h : Bes w wr f F L) : F.Good := by obtain ⟨Q, h1, -⟩ := h; exact h1.good

theorem Bes.size (h : Bes w wr f F L) : w.heap.size ≤ wr.heap.size := by obtain ⟨Q, -, h2, -⟩ := h; exact h2.size

theorem Bes.low (h : Bes w wr f F L) : Below w.heap.size w wr := by obtain ⟨Q, -, h2, -⟩ := h; exact h2

theorem Bes.ok (h : Bes w wr f F L) {v : Value} {V : List Int} (hm : (v, V) ∈ L) : OK encI 1 3 wr w.heap.size v V := by obtain ⟨Q, -, -, h3⟩ := h; exact (h3 _ hm).1

theorem Bes.ri (h : Bes w wr f F L) {v : Value} {V : List Int} (hm : (v, V) ∈ L) : RI wr wr.heap.size v V := (h.ok hm).rk encI_len (Nat.le_refl _)

theorem Bes.sub {L' : List (Value × List Int)} (h : Bes w wr f F L) (hs : ∀ p ∈ L', p ∈ L) : Bes w wr f F L' := by
  obtain ⟨Q, h1, h2, h3⟩ := h
  exact ⟨Q, h1, h2, fun p hp => h3 p (hs p hp)⟩

theorem Bes.below (h : Bes w wr f F L) (hb : Below wr.heap.size wr w') : Bes w w' f F L := by
  obtain ⟨Q, h1, h2, h3⟩ := h
  exact ⟨Q, h1.below hb, h2.trans (hb.mono h2.size), fun p hp => ⟨(h3 p hp).1.below hb, (h3 p hp).2⟩⟩

theorem Bes.drewN (h : Bes w wr f F L) (n : Nat) : Bes w (wr.drewN n) f F L := h.below (below_drewN (Below.refl _ _) n)

/-- One more row. -/
theorem Bes.add (h : Bes w wr f F L) (hb : Below wr.heap.size wr w') {v : Value} {V : List Int} (ho : OK encI 1 3 w' wr.heap.size v V) : Bes w w' f F ((v, V) :: L) := by
  obtain ⟨Q, h1, h2, h3⟩ := h
  refine ⟨andRow Q v, h1.andRow hb ho, h2.trans (hb.mono h2.size), fun p hp => ?_⟩
  rcases List.mem_cons.1 hp with rfl | hp
  · exact ⟨ho.base h2.size, fun b hb => .inr hb⟩
  · exact ⟨(h3 p hp).1.below hb, fun b hb => .inl ((h3 p hp).2 b hb)⟩

/-- The forest turns. -/
theorem bes_turn {F' : FS} {Q : Nat → Prop} (h2 : Below w.heap.size w wr) (h3 : ∀ p ∈ L, OK encI 1 3 wr w.heap.size p.1 p.2 ∧ ∀ b, p.1.ownBlock = some b → Q b) (h4 : FB w.heap.size Q w' f F') (ht : TameF w.heap.size Q wr w') : Bes w w' f F' L :=
  ⟨Q, h4, h2.trans ht.below, fun p hp => ⟨ht.row (h3 p hp).1 (h3 p hp).2, (h3 p hp).2⟩⟩

theorem sVerts (h : Bes w wr f F L) (u : Int) (hu : I64 u) :
    Calls Try.prog 16 #[.pointer (some ⟨f, 0, none⟩), .int .i64 u] wr fun e w' => ∃ A c, e = .returned (.tuple #[.slice A (F.treeV u).length c, .int .i64 (F.errV u)]) ∧ Bes w w' f F ((.slice A (F.treeV u).length c, F.treeV u) :: L) := by
  have h0 := h
  obtain ⟨Q, h1, h2, h3⟩ := h
  refine (bVerts _ _ wr f F h1 u hu).mono ?_
  rintro e w' ⟨v, rfl, o, b⟩
  obtain ⟨A, c, rfl, -, -, -, -⟩ := (o.rk encI_len (Nat.le_refl _)).open_
  exact ⟨A, c, rfl, h0.add b o⟩

theorem sEdges (h : Bes w wr f F L) (u : Int) (hu : I64 u) :
    Calls Try.prog 17 #[.pointer (some ⟨f, 0, none⟩), .int .i64 u] wr fun e w' => ∃ A c, e = .returned (.tuple #[.slice A (F.treeE u).length c, .int .i64 (F.errV u)]) ∧ Bes w w' f F ((.slice A (F.treeE u).length c, F.treeE u) :: L) := by
  have h0 := h
  obtain ⟨Q, h1, h2, h3⟩ := h
  refine (bEdges _ _ wr f F h1 u hu).mono ?_
  rintro e w' ⟨v, rfl, o, b⟩
  obtain ⟨A, c, rfl, -, -, -, -⟩ := (o.rk encI_len (Nat.le_refl _)).open_
  exact ⟨A, c, rfl, h0.add b o⟩

theorem sHas (h : Bes w wr f F L) (id : Int) (hi : I64 id) :
    Calls Try.prog 13 #[.pointer (some ⟨f, 0, none⟩), .int .i64 id] wr fun e w' => e = .returned (.bool (decide (id ∈ ids F.edges))) ∧ Bes w w' f F L := by
  have h0 := h
  obtain ⟨Q, h1, h2, h3⟩ := h
  refine (bHas _ _ wr f F h1 id hi).mono ?_
  rintro e w' ⟨rfl, b⟩
  exact ⟨rfl, h0.below b⟩

theorem sLink (h : Bes w wr f F L) (id u v : Int) (hi : I64 id) (hu : I64 u) (hv : I64 v) :
    Calls Try.prog 18 #[.pointer (some ⟨f, 0, none⟩), .int .i64 id, .int .i64 u, .int .i64 v] wr fun e w' => e = .returned (.int .i64 (F.linkE id u v)) ∧ Bes w w' f (F.linkA id u v) L := by
  obtain ⟨Q, h1, h2, h3⟩ := h
  refine (bLink _ _ wr f F h1 h2.size id u v hi hu hv).mono ?_
  rintro e w' ⟨rfl, h4, ht⟩
  exact ⟨rfl, bes_turn h2 h3 h4 ht⟩

theorem sCut (h : Bes w wr f F L) (id : Int) (hi : I64 id) :
    Calls Try.prog 23 #[.pointer (some ⟨f, 0, none⟩), .int .i64 id] wr fun e w' => e = .returned (.int .i64 (F.cutE id)) ∧ Bes w w' f (F.cutA id) L := by
  obtain ⟨Q, h1, h2, h3⟩ := h
  refine (bCut _ _ wr f F h1 h2.size id hi).mono ?_
  rintro e w' ⟨rfl, h4, ht⟩
  exact ⟨rfl, bes_turn h2 h3 h4 ht⟩

theorem sSame (h : Bes w wr f F L) {v v2 : Value} {V : List Int} (h1 : (v, V) ∈ L) (h2 : (v2, V) ∈ L) :
    Calls Try.prog 19 #[v, v2] wr fun e w' => e = .returned (.bool true) ∧ Bes w w' f F L := by
  refine (SameInts_yes _ _ V wr _ _ (h.ri h1) (h.ri h2)).mono ?_
  rintro e w' ⟨rfl, q, rfl⟩
  exact ⟨rfl, h.drewN q⟩

theorem sIn (h : Bes w wr f F L) {v : Value} {V : List Int} (h1 : (v, V) ∈ L) (n : Int) :
    Calls Try.prog 21 #[v, .int .i64 n] wr fun e w' => e = .returned (.bool (decide (n ∈ V))) ∧ Bes w w' f F L := by
  refine (has_any _ V wr _ (h.ri h1) n).mono ?_
  rintro e w' ⟨rfl, rfl⟩
  exact ⟨rfl, h⟩

theorem sCopy (h : Bes w wr f F L) {v : Value} {V : List Int} (h1 : (v, V) ∈ L) (hl : V.length ≤ 100000) :
    Calls Try.prog 20 #[v] wr fun e w' => ∃ A c, e = .returned (.slice A V.length c) ∧ Bes w w' f F ((.slice A V.length c, V) :: L) := by
  refine (CopyInts_any _ V wr _ (h.ri h1) (Nat.le_refl _) hl).mono ?_
  rintro e w' ⟨v', rfl, o, b⟩
  obtain ⟨A, c, rfl, -, -, -, -⟩ := (o.rk encI_len (Nat.le_refl _)).open_
  exact ⟨A, c, rfl, h.add b o⟩

theorem sWith (h : Bes w wr f F L) {v : Value} {V : List Int} (h1 : (v, V) ∈ L) (hl : V.length ≤ 100000) (x : Int) :
    Calls Try.prog 22 #[v, .int .i64 x] wr fun e w' => ∃ A c, e = .returned (.slice A (insI x V).length c) ∧ Bes w w' f F ((.slice A (insI x V).length c, insI x V) :: L) := by
  refine (With_any _ V x wr _ (h.ri h1) (Nat.le_refl _) hl).mono ?_
  rintro e w' ⟨v', rfl, o, b⟩
  obtain ⟨A, c, rfl, -, -, -, -⟩ := (o.rk encI_len (Nat.le_refl _)).open_
  exact ⟨A, c, rfl, h.add b o⟩

end

/-- A number of the tree that comes next is not among those before. -/
theorem next_new {V : List Int} (h : V.Nodup) {k : Nat} {y : Int} (ht : V.take (k + 1) = V.take k ++ [y]) : y ∉ V.take k := by
  have h1 : (V.take (k + 1)).Nodup := h.sublist (List.take_sublist _ _)
  rw [ht, List.nodup_append] at h1
  exact fun hm => h1.2.2 y hm y (List.mem_singleton.2 rfl) rfl

end Go.Proofs.Ytlakcldgolpaiaa
