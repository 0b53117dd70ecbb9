/-
  One table in a law: its blocks are new, all rows stay; the document's example.
-/
import Derived.Test.YtgahkloldpjnkaaMV13
namespace Go.Proofs.Ytgahkloldpjnkaa
open Go.RowKit Go.Maps
set_option linter.unusedVariables false

/-- What lies below B stays, and so do all rows and structs but tables. -/
structure Tame (B : Nat) (w w' : World) : Prop where
  below : Below B w w'
  size : w.heap.size ≤ w'.heap.size
  rows : ∀ (k : Nat) (cs : Array Value) (t : TypeId) (fr : Nat × Nat), w.heap[k]? = some (Obj.cells cs t fr) → t ≠ 60 → w'.heap[k]? = some (Obj.cells cs t fr)

theorem Tame.refl (B : Nat) (w : World) : Tame B w w := ⟨Below.refl _ _, Nat.le_refl _, fun _ _ _ _ h _ => h⟩

theorem Tame.trans {B : Nat} {w w1 w' : World} (h : Tame B w w1) (h' : Tame B w1 w') : Tame B w w' :=
  ⟨h.below.trans h'.below, Nat.le_trans h.size h'.size, fun k cs t fr hb ht => h'.rows k cs t fr (h.rows k cs t fr hb ht) ht⟩

theorem Tame.of_below {B : Nat} {w w' : World} (h : Below w.heap.size w w') (hB : B ≤ w.heap.size) : Tame B w w' :=
  ⟨h.mono hB, h.size, fun k cs t fr hb _ => (h.block k (Array.getElem?_eq_some_iff.1 hb).1).trans hb⟩

theorem Tame.alloc {B : Nat} {w w' : World} (h : Tame B w w') (hB : B ≤ w.heap.size) (o : Obj) : Tame B w (w'.alloc o) :=
  h.trans (Tame.of_below ((Below.refl _ _).alloc (Nat.le_refl _) _) (Nat.le_trans hB h.size))

theorem Tame.of_mod {B : Nat} {w w' : World} {g : Nat} {S : Nat → Prop} {M : MV} (h : Tb w g S M) (hS : ∀ k, S k → B ≤ k) (hB : B ≤ w.heap.size) (hm : Mod S w w') : Tame B w w' :=
  ⟨hm.below hB hS, hm.size, fun k cs t fr hb ht => (hm.block k (Array.getElem?_eq_some_iff.1 hb).1 (h.not_row hb ht)).trans hb⟩

/-- Only blocks of rows of another type than t have turned. -/
theorem Tame.row {B : Nat} {w w' : World} {α : Type} {enc : α → List Value} {k E : Nat} {B' : Nat} {v : Value} {xs : List α} (h : Tame B w w') (hE : E ≠ 60) (ho : OK enc k E w B' v xs) : OK enc k E w' B' v xs := by
  obtain ⟨h1, h3, h4⟩ := ho
  refine ⟨h1, h3, ?_⟩
  rcases h4 with h4 | ⟨g, cap, cur, hv, hg, hb, r⟩
  · exact .inl h4
  · exact .inr ⟨g, cap, cur, hv, hg, h.rows _ _ _ _ hb hE, r⟩

theorem Tame.blk {B : Nat} {w w' : World} {g : Nat} {t : TypeId} {cs : Array Value} (h : Tame B w w') (ht : t ≠ 60) (hb : Blk w g t cs) : Blk w' g t cs := h.rows _ _ _ _ hb ht

/-- A table whose blocks are all from B on. -/
def TbB (B : Nat) (w : World) (g : Nat) (M : MV) : Prop := ∃ S, Tb w g S M ∧ ∀ k, S k → B ≤ k

section

variable {B : Nat} {w w' : World} {g : Nat} {M : MV}

theorem TbB.ok (h : TbB B w g M) : M.Ok := by obtain ⟨S, h1, _⟩ := h; exact h1.ok

theorem TbB.calm (h : TbB B w g M) : M.Calm := by obtain ⟨S, h1, _⟩ := h; exact h1.calm

theorem TbB.below (h : TbB B w g M) (hb : Below w.heap.size w w') : TbB B w' g M := by
  obtain ⟨S, h1, h2⟩ := h
  exact ⟨S, h1.below hb, h2⟩

theorem TbB.alloc (h : TbB B w g M) (o : Obj) : TbB B (w.alloc o) g M := h.below ((Below.refl _ _).alloc (Nat.le_refl _) _)

theorem TbB.drew (h : TbB B w g M) : TbB B w.drew g M := h.below ⟨rfl, rfl, rfl, Nat.le_refl _, fun _ _ => rfl⟩

/-- A row of another type that is written or grown leaves the table as it was. -/
theorem TbB.grown {row : Option Nat} (h : TbB B w g M) (hg : w.grownBy w' row) (hr : ∀ b, row = some b → b < w.heap.size → ∃ cs t fr, w.heap[b]? = some (Obj.cells cs t fr) ∧ t ≠ 60) : TbB B w' g M := by
  obtain ⟨S, h1, h2⟩ := h
  refine ⟨S, h1.mod (Mod.of_grown hg) (fun k hk e => ?_), h2⟩
  obtain ⟨cs, t, fr, hb, ht⟩ := hr k e.symm (h1.lt hk)
  exact h1.not_row hb ht hk

theorem turn_b {M' : MV} {S : Nat → Prop} (h : Tb w g S M) (hS : ∀ k, S k → B ≤ k) (hB : B ≤ w.heap.size) (ht : Turn w g S M' w') : TbB B w' g M' ∧ Tame B w w' := by
  obtain ⟨S', h1, h2, h3⟩ := ht
  refine ⟨⟨S', h1, fun k hk => ?_⟩, Tame.of_mod h hS hB h2⟩
  rcases h3 k hk with h4 | h4
  · exact hS k h4
  · omega

end

theorem bNew (B : Nat) (w : World) (hB : B ≤ w.heap.size) (last : Int) (hl : I64 last) :
    Calls Try.prog 8 #[.int .i64 last] w fun e w' => e = .returned (.pointer (some ⟨w.heap.size + 2, 0, none⟩)) ∧ TbB B w' (w.heap.size + 2) (MV.new last) ∧ Tame B w w' :=
  (tNew w last hl).mono fun e w' ⟨h1, ⟨S, h2, h3⟩, h4⟩ => ⟨h1, ⟨S, h2, fun k hk => Nat.le_trans hB (h3 k hk)⟩, Tame.of_below h4 hB⟩

theorem bBegin (B : Nat) (w : World) (g : Nat) (M : MV) (h : TbB B w g M) (hB : B ≤ w.heap.size) (hc : M.txns.length < 4611686018427387904) :
    Calls Try.prog 18 #[.pointer (some ⟨g, 0, none⟩)] w fun e w' => e = .returned (.tuple #[.int .i64 M.beginN, .int .i64 M.beginE]) ∧ TbB B w' g M.begin ∧ Tame B w w' := by
  obtain ⟨S, h1, h2⟩ := h
  exact (tBegin w g S M h1 hc).mono fun e w' ⟨h3, h4⟩ => ⟨h3, turn_b h1 h2 hB h4⟩

theorem bTouch (B : Nat) (w : World) (g : Nat) (M : MV) (h : TbB B w g M) (hB : B ≤ w.heap.size) (n : Int) (hn : I64 n) (v : Value) (rs : List Rf) (hv : RR w w.heap.size v rs) (hr : ∀ r ∈ rs, I64 r.snd) (hb : M.bulk + rs.length ≤ 4611686018427387904) :
    Calls Try.prog 19 #[.pointer (some ⟨g, 0, none⟩), .int .i64 n, v] w fun e w' => e = .returned (.int .i64 (M.touchE n)) ∧ TbB B w' g (M.touch n rs) ∧ Tame B w w' := by
  obtain ⟨S, h1, h2⟩ := h
  exact (tTouch w g S M h1 n hn v rs hv hr hb).mono fun e w' ⟨h3, h4⟩ => ⟨h3, turn_b h1 h2 hB h4⟩

theorem bCommit (B : Nat) (w : World) (g : Nat) (M : MV) (h : TbB B w g M) (hB : B ≤ w.heap.size) (n : Int) (hn : I64 n) (hb : M.bulk ≤ 4611686018427387904) :
    Calls Try.prog 21 #[.pointer (some ⟨g, 0, none⟩), .int .i64 n] w fun e w' => e = .returned (.tuple #[.int .i64 (M.commitT n), .int .i64 (M.tryE n)]) ∧ TbB B w' g (M.commit n) ∧ Tame B w w' := by
  obtain ⟨S, h1, h2⟩ := h
  exact (tCommit w g S M h1 n hn hb).mono fun e w' ⟨h3, h4⟩ => ⟨h3, turn_b h1 h2 hB h4⟩

theorem bAbort (B : Nat) (w : World) (g : Nat) (M : MV) (h : TbB B w g M) (hB : B ≤ w.heap.size) (n : Int) (hn : I64 n) :
    Calls Try.prog 22 #[.pointer (some ⟨g, 0, none⟩), .int .i64 n] w fun e w' => e = .returned (.int .i64 (M.touchE n)) ∧ TbB B w' g (M.over n) ∧ Tame B w w' := by
  obtain ⟨S, h1, h2⟩ := h
  exact (tAbort w g S M h1 n hn).mono fun e w' ⟨h3, h4⟩ => ⟨h3, turn_b h1 h2 hB h4⟩

theorem bStart (B : Nat) (w : World) (g : Nat) (M : MV) (h : TbB B w g M) (n : Int) (hn : I64 n) :
    Calls Try.prog 20 #[.pointer (some ⟨g, 0, none⟩), .int .i64 n] w fun e w' => e = .returned (.tuple #[.int .i64 (M.startOf n), .int .i64 (M.touchE n)]) ∧ Below w.heap.size w w' := by
  obtain ⟨S, h1, h2⟩ := h
  exact tStart w g S M h1 n hn

theorem bTry (B : Nat) (w : World) (g : Nat) (M : MV) (h : TbB B w g M) (n : Int) (hn : I64 n) :
    Calls Try.prog 24 #[.pointer (some ⟨g, 0, none⟩), .int .i64 n] w fun e w' => e = .returned (.int .i64 (M.tryE n)) ∧ Below w.heap.size w w' := by
  obtain ⟨S, h1, h2⟩ := h
  exact tTry w g S M h1 n hn

theorem bLast (B : Nat) (w : World) (g : Nat) (M : MV) (h : TbB B w g M) :
    Calls Try.prog 13 #[.pointer (some ⟨g, 0, none⟩)] w fun e w' => e = .returned (.int .i64 M.last) ∧ w' = w := by
  obtain ⟨S, h1, h2⟩ := h
  exact tLast w g S M h1

theorem bHorizon (B : Nat) (w : World) (g : Nat) (M : MV) (h : TbB B w g M) :
    Calls Try.prog 14 #[.pointer (some ⟨g, 0, none⟩)] w fun e w' => e = .returned (.int .i64 M.hor) ∧ Below w.heap.size w w' := by
  obtain ⟨S, h1, h2⟩ := h
  exact tHorizon w g S M h1

theorem bLive (B : Nat) (w : World) (g : Nat) (M : MV) (h : TbB B w g M) :
    Calls Try.prog 12 #[.pointer (some ⟨g, 0, none⟩)] w fun e w' => ∃ v, e = .returned v ∧ OK encI 1 3 w' w.heap.size v M.nums ∧ Below w.heap.size w w' := by
  obtain ⟨S, h1, h2⟩ := h
  exact tLive w g S M h1

/-! ### The document's example -/
def ex0 : MV := MV.new 4

def ex1 : MV := ex0.begin

def ex2 : MV := ex1.begin

def ex3 : MV := ex2.touch 1 [⟨false, 7⟩]

def ex4 : MV := ex3.touch 2 [⟨false, 7⟩]

def ex5 : MV := ex4.commit 2

def ex6 : MV := ex5.commit 1

def ex7 : MV := ex6.begin

theorem ex_a : ex0.beginN = 1 ∧ ex0.beginE = 0 ∧ ex1.beginN = 2 ∧ ex1.beginE = 0 ∧ ex2.touchE 1 = 0 ∧ ex3.touchE 2 = 0 := by decide

theorem ex_b : ex4.commitT 2 = 5 ∧ ex4.tryE 2 = 0 ∧ ex5.commitT 1 = 0 ∧ ex5.tryE 1 = 140 ∧ ex6.beginN = 3 ∧ ex6.beginE = 0 := by decide

theorem ex_c : ex7.startOf 3 = 5 ∧ ex7.touchE 3 = 0 ∧ ex7.last = 5 ∧ ex7.nums.length = 1 ∧ ex7.hor = 5 ∧ ex7.tryE 3 = 0 := by decide

theorem ex_d : ex0.txns.length = 0 ∧ ex1.txns.length = 1 ∧ ex6.txns.length = 2 ∧ ex2.bulk = 0 ∧ ex3.bulk = 1 ∧ ex4.bulk = 2 ∧ ex5.bulk = 2 := by decide

end Go.Proofs.Ytgahkloldpjnkaa
