/-
  The walk of skeinlaw07's do: one call whose answer isn't looked at.
-/
import Derived.Test.YtbagmmncjmbboaaGreatE11
import Derived.Test.YtbagmmncjmbboaaGreatH2
import Derived.Deep.RegionHeld3
namespace Go.Proofs.YtbagmmncjmbboaaGreat
open Go.RowKit Go.Maps
set_option linter.unusedVariables false

/-- A call on a disk, as the laws write it: kind, number, bytes, numbers, fates. -/
structure OpD where
  kind : Int
  i : Int
  data : List Nat
  keeps : List Int
  fates : List (Int × Int)

/-- .. as a value, its three slices given. -/
def opC (o : OpD) (dv kv fv : Value) : Array Value := #[.int .i64 o.kind, .int .i64 o.i, dv, kv, fv]

/-- .. its slices read so. -/
structure OpAt (w : World) (o : OpD) (dv kv fv : Value) : Prop where
  data : RB w w.heap.size dv o.data
  keeps : RI w w.heap.size kv o.keeps
  fates : RF w w.heap.size fv o.fates
  k64 : ∀ x ∈ o.keeps, I64 x
  f64 : ∀ f ∈ o.fates, I64 f.1

/-- The slices lie apart from blocks. -/
def OpOff (S : Nat → Prop) (o : OpD) (dv kv fv : Value) : Prop := Off S dv o.data ∧ Off S kv o.keeps ∧ Off S fv o.fates

theorem OpAt.mod {S : Nat → Prop} {w w' : World} {o : OpD} {dv kv fv : Value} (h : OpAt w o dv kv fv) (hm : Mod S w w') (hn : OpOff S o dv kv fv) : OpAt w' o dv kv fv :=
  ⟨h.data.mod hm hn.1, h.keeps.mod hm hn.2.1, h.fates.mod hm hn.2.2, h.k64, h.f64⟩

theorem OpAt.below {w w' : World} {o : OpD} {dv kv fv : Value} (h : OpAt w o dv kv fv) (hb : Below w.heap.size w w') : OpAt w' o dv kv fv :=
  h.mod (Mod.of_below hb (fun _ => False)) ⟨.inr fun _ _ => id, .inr fun _ _ => id, .inr fun _ _ => id⟩

/-- What a call does to a disk. -/
def DS.run (s : DS) (o : OpD) : DS := if o.kind = 2 then s.write o.i o.data else if o.kind = 3 then s.sync else if o.kind = 4 then s.on o.keeps else if o.kind = 5 then s.planned o.fates else s

/-- Behind such a call. -/
def DoOut (w : World) (p sb mb : Nat) (pl : Option Nat) (s : DS) (o : OpD) (e : Ending) (w' : World) : Prop :=
  e = .returned (.tuple #[]) ∧ ∃ pl', DiskAt w' p sb mb pl' (s.run o) ∧ Mod (Own p sb mb) w w' ∧ ∀ b, pl' = some b → pl = some b ∨ w.heap.size ≤ b

theorem OB.rbn {w : World} {B : Nat} {v : Value} {l : List Nat} (h : OB w B v l) : RB w w.heap.size v l := h.rb (Nat.le_refl _)
end Go.Proofs.YtbagmmncjmbboaaGreat
