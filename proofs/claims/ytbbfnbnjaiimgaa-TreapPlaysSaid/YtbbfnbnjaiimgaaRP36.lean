/-
  Two ropes side by side; changes in a law's own words.
-/
import Derived.Test.YtbbfnbnjaiimgaaRP34
import Derived.Test.YtbbfnbnjaiimgaaRP31
import Derived.Test.YtbbfnbnjaiimgaaRP35
namespace Go.Proofs.Ytbbfnbnjaiimgaa
open Go.RowKit
set_option linter.unusedVariables false

/-- No block besides is kept. -/
def noQ : Nat → Prop := fun _ => False

theorem TameR.weak {B : Nat} {Q : Nat → Prop} {w w' : World} (h : TameR B Q w w') : TameR B noQ w w' := ⟨h.below, h.size, h.rows, fun _ hk => hk.elim⟩

theorem RpB.weak {B : Nat} {Q : Nat → Prop} {w : World} {g : Nat} {M : RM SV} (h : RpB B Q w g M) : RpB B noQ w g M := by
  obtain ⟨S, h1, h2, h3⟩ := h
  exact ⟨S, h1, fun k hk => ⟨(h2 k hk).1, fun h => h⟩, fun _ h => h.elim⟩

/-- What is known of a rope in a law: its rows and all that its nodes bear. -/
def RpT (B : Nat) (w : World) (g : Nat) (M : RM SV) : Prop := RpB B noQ w g M ∧ M.Tame

theorem RpT.below {B : Nat} {w w' : World} {g : Nat} {M : RM SV} (h : RpT B w g M) (hb : Below w.heap.size w w') : RpT B w' g M := ⟨h.1.below hb, h.2⟩

theorem tNew (w : World) (v : Value) (ss : List Int) (hv : RI w w.heap.size v ss) :
    Calls Try.prog 13 #[v] w fun e w' => ∃ g, e = .returned (.pointer (some ⟨g, 0, none⟩)) ∧ RpT w.heap.size w' g RM.new ∧ Below w.heap.size w w' := by
  refine (bNew w v ss hv noQ (fun _ h => h.elim)).mono ?_
  rintro e w' ⟨g, rfl, h1, h2⟩
  exact ⟨g, rfl, ⟨h1, tame_new⟩, h2⟩

theorem tChanges (B : Nat) (w : World) (g : Nat) (M : RM SV) (h : RpT B w g M) (hB : B ≤ w.heap.size) (kd a b n m : Int) (ho : OpTAt ⟨kd, a, b, n, m⟩) :
    Calls Try.prog 15 #[.pointer (some ⟨g, 0, none⟩), .agg #[.slice none 0 0, .slice none 0 0, .slice none 0 0], .agg #[.int .i64 kd, .int .i64 a, .int .i64 b, .int .i64 n, .int .u8 m]] w fun e w' => (∃ x y, e = .returned (.tuple #[x, .bool y])) ∧ RpT B w' g (M.runT ⟨kd, a, b, n, m⟩) ∧ TameR B noQ w w' := by
  refine (changes_any B noQ w g M h.1 hB kd a b n m ho.m0 ho.m1).mono ?_
  rintro e w' ⟨h1, h2, h3⟩
  exact ⟨h1, ⟨h2, tame_step h.2 ho⟩, h3⟩

/-- Two ropes, apart. -/
def Two (B : Nat) (w : World) (g1 g2 : Nat) (M1 M2 : RM SV) : Prop := ∃ S1 S2, Rp w g1 S1 M1 ∧ Rp w g2 S2 M2 ∧ (∀ k, S1 k → B ≤ k ∧ ¬ S2 k) ∧ (∀ k, S2 k → B ≤ k) ∧ M1.Tame ∧ M2.Tame

section

variable {B : Nat} {w w' : World} {g1 g2 : Nat} {M1 M2 : RM SV}

theorem Two.symm (h : Two B w g1 g2 M1 M2) : Two B w g2 g1 M2 M1 := by
  obtain ⟨S1, S2, h1, h2, h3, h4, h5, h6⟩ := h
  exact ⟨S2, S1, h2, h1, fun k hk => ⟨h4 k hk, fun h => (h3 k h).2 hk⟩, fun k hk => (h3 k hk).1, h6, h5⟩

theorem Two.fst (h : Two B w g1 g2 M1 M2) : RpT B w g1 M1 := by
  obtain ⟨S1, S2, h1, h2, h3, h4, h5, h6⟩ := h
  exact ⟨⟨S1, h1, fun k hk => ⟨(h3 k hk).1, fun h => h⟩, fun _ h => h.elim⟩, h5⟩

theorem Two.snd (h : Two B w g1 g2 M1 M2) : RpT B w g2 M2 := h.symm.fst

theorem Two.below (h : Two B w g1 g2 M1 M2) (hb : Below w.heap.size w w') : Two B w' g1 g2 M1 M2 := by
  obtain ⟨S1, S2, h1, h2, h3, h4, h5, h6⟩ := h
  exact ⟨S1, S2, h1.below hb, h2.below hb, h3, h4, h5, h6⟩

/-- A second rope is made. -/
theorem Two.made (h1 : RpT B w g1 M1) (hB : B ≤ w.heap.size) (h2 : RpT w.heap.size w' g2 M2) (hb : Below w.heap.size w w') : Two B w' g1 g2 M1 M2 := by
  obtain ⟨⟨S1, k1, k2, k3⟩, k4⟩ := h1
  obtain ⟨⟨S2, q1, q2, q3⟩, q4⟩ := h2
  exact ⟨S1, S2, k1.below hb, q1, fun k hk => ⟨(k2 k hk).1, fun h => by have := k1.lt hk; have := (q2 k h).1; omega⟩, fun k hk => Nat.le_trans hB (q2 k hk).1, k4, q4⟩

theorem Two.changes (h : Two B w g1 g2 M1 M2) (hB : B ≤ w.heap.size) (kd a b n m : Int) (ho : OpTAt ⟨kd, a, b, n, m⟩) :
    Calls Try.prog 15 #[.pointer (some ⟨g1, 0, none⟩), .agg #[.slice none 0 0, .slice none 0 0, .slice none 0 0], .agg #[.int .i64 kd, .int .i64 a, .int .i64 b, .int .i64 n, .int .u8 m]] w fun e w' => (∃ x y, e = .returned (.tuple #[x, .bool y])) ∧ Two B w' g1 g2 (M1.runT ⟨kd, a, b, n, m⟩) M2 ∧ TameR B noQ w w' := by
  obtain ⟨S1, S2, h1, h2, h3, h4, h5, h6⟩ := h
  refine (changes_any B S2 w g1 M1 ⟨S1, h1, h3, fun k hk => h2.lt hk⟩ hB kd a b n m ho.m0 ho.m1).mono ?_
  rintro e w' ⟨k1, ⟨S1', k2, k3, k4⟩, k5⟩
  exact ⟨k1, ⟨S1', S2, k2, h2.kept k5 (fun _ h => h), k3, h4, tame_step h5 ho, h6⟩, k5.weak⟩

end

end Go.Proofs.Ytbbfnbnjaiimgaa
