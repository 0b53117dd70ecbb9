/-
  Plain words: a disk of sectors, by its safe and its pending ones; maps of numbers that read as functions; what a call may have turned. No walk.
-/
import Derived.Test.YtbagmmncjmbboaaGreatD0
import Derived.Test.YtbagmmncjmbboaaGreatG11
import Derived.Maps.OwnSet
import Derived.Maps.RangeWalk
import Derived.Deep.MidRow
namespace Go.Proofs.YtbagmmncjmbboaaGreat
open Go.RowKit Go.Maps
open Go.ChangeMaps Go.MapKept
set_option linter.unusedVariables false

/-! ### What a call may have turned: blocks of which S holds, and new ones -/

structure Mod (S : Nat → Prop) (w w' : World) : Prop where
  os : w'.os = w.os
  tape : w'.tape = w.tape
  output : w'.output = w.output
  size : w.heap.size ≤ w'.heap.size
  block : ∀ k, k < w.heap.size → ¬ S k → w'.heap[k]? = w.heap[k]?

section

variable {S S' : Nat → Prop} {w w' w1 : World}

theorem Mod.refl (S : Nat → Prop) (w : World) : Mod S w w := ⟨rfl, rfl, rfl, Nat.le_refl _, fun _ _ _ => rfl⟩

theorem Mod.trans (h : Mod S w w1) (h' : Mod S' w1 w') (hs : ∀ k, k < w.heap.size → S' k → S k) : Mod S w w' :=
  ⟨h'.os.trans h.os, h'.tape.trans h.tape, h'.output.trans h.output, Nat.le_trans h.size h'.size, fun k hk hn =>
    (h'.block k (Nat.lt_of_lt_of_le hk h.size) (fun e => hn (hs k hk e))).trans (h.block k hk hn)⟩

theorem Mod.trans' (h : Mod S w w1) (h' : Mod S w1 w') : Mod S w w' := h.trans h' fun _ _ e => e

theorem Mod.mono (h : Mod S w w') (hs : ∀ k, k < w.heap.size → S k → S' k) : Mod S' w w' := ⟨h.os, h.tape, h.output, h.size, fun k hk hn => h.block k hk fun e => hn (hs k hk e)⟩

theorem Mod.of_below (h : Below w.heap.size w w') (S : Nat → Prop) : Mod S w w' := ⟨h.os, h.tape, h.output, h.size, fun k hk _ => h.block k hk⟩

theorem Mod.below {B : Nat} (h : Mod S w w') (hB : B ≤ w.heap.size) (hs : ∀ k, S k → B ≤ k) : Below B w w' :=
  ⟨h.os, h.tape, h.output, h.size, fun k hk => h.block k (by omega) fun e => by have := hs k e; omega⟩

theorem Mod.of_grown {row : Option Nat} (h : w.grownBy w' row) : Mod (fun k => some k = row) w w' := ⟨h.os, h.tape, h.output, h.size, fun k hk hn => h.block k hk hn⟩

theorem Mod.alloc (h : Mod S w w1) (o : Obj) : Mod S w (w1.alloc o) := h.trans (Mod.of_below ((Below.refl _ _).alloc (Nat.le_refl _) _) S) fun _ _ e => e

theorem Mod.drew (h : Mod S w w1) : Mod S w w1.drew := ⟨h.os, h.tape, h.output, h.size, h.block⟩

theorem Mod.drewN (h : Mod S w w1) (n : Nat) : Mod S w (w1.drewN n) := ⟨h.os, h.tape, h.output, h.size, h.block⟩

theorem Mod.setCell (h : Mod S w w1) {p : Addr} (hp : p.block < w.heap.size → S p.block) (u : Value) : Mod S w (w1.setCell p u) :=
  h.trans (S' := fun k => k = p.block) ⟨rfl, rfl, rfl, by simp, fun k hk hn => Below.heap_setCell w1 p u k hn⟩ fun k hk e => by subst e; exact hp hk

theorem Mod.setCells (h : Mod S w w1) {b : Nat} (hp : b < w.heap.size → S b) : ∀ (vs : List Value) (o : Nat), Mod S w (w1.setCells b o vs) := by
  intro vs
  induction vs generalizing w1 with
  | nil => intro o; exact h
  | cons v r ih => intro o; exact ih (h.setCell (p := ⟨b, o, none⟩) hp v) (o + 1)

theorem Mod.turned {b : Nat} (h : Mod S w w1) (ht : w1.mapTurned w' b) (hb : b < w.heap.size → S b) : Mod S w w' :=
  h.trans (Mod.of_grown ht.grown) fun k hk e => by injection e with e; subst e; exact hb hk

theorem Mod.cell (h : Mod S w w') {b : Nat} (hb : b < w.heap.size) (hn : ¬ S b) (o : Nat) : w'.cell? ⟨b, o, none⟩ = w.cell? ⟨b, o, none⟩ := World.cell?_of_block (w := w) (h.block b hb hn)

theorem Mod.frozen (h : Mod S w w') {b : Nat} (hb : b < w.heap.size) (hn : ¬ S b) (o : Nat) : w'.frozen? ⟨b, o, none⟩ = w.frozen? ⟨b, o, none⟩ := World.frozen?_of_block (w := w) (h.block b hb hn)

theorem Blk.mod {g : Nat} {t : TypeId} {cs : Array Value} (h : Blk w g t cs) (hm : Mod S w w') (hn : ¬ S g) : Blk w' g t cs := (hm.block g h.lt hn).trans h

/-- A slice has no element, or lies in no block of which S holds. -/
def Off {α : Type} (S : Nat → Prop) (v : Value) (l : List α) : Prop := l = [] ∨ ∀ b, v.ownBlock = some b → ¬ S b

theorem Off.mono {α : Type} {S S' : Nat → Prop} {v : Value} {l : List α} (h : Off S v l) (hs : ∀ k, S' k → S k) : Off S' v l := h.imp id fun h b hb e => h b hb (hs b e)

/-- A slice that reads, in whatever blocks there are. -/
theorem RB.off {B : Nat} {v : Value} {l : List Nat} (h : RB w B v l) (hs : ∀ k, k < B → ¬ S k) : Off S v l := by
  obtain ⟨h1, h2, A, c, rfl, h3, h4, h5⟩ := h
  rcases h5 with h5 | ⟨b, off, rfl, hb, hc⟩
  · exact .inl h5
  · exact .inr fun b' e => by injection e with e; subst e; exact hs _ hb

theorem RK.off {α : Type} {enc : α → List Value} {k B : Nat} {v : Value} {xs : List α} (h : RK enc k w B v xs) (hs : ∀ k, k < B → ¬ S k) : Off S v xs := by
  obtain ⟨h1, A, c, rfl, h3, h4, h5⟩ := h
  rcases h5 with h5 | ⟨b, off, rfl, hb, hc⟩
  · exact .inl h5
  · exact .inr fun b' e => by injection e with e; subst e; exact hs _ hb

theorem RB.mod {v : Value} {l : List Nat} (h : RB w w.heap.size v l) (hm : Mod S w w') (hn : Off S v l) : RB w' w'.heap.size v l := by
  obtain ⟨h1, h2, A, c, rfl, h3, h4, h5⟩ := h
  refine ⟨h1, h2, A, c, rfl, h3, h4, ?_⟩
  rcases h5 with h5 | ⟨b, off, rfl, hb, hc⟩
  · exact .inl h5
  · rcases hn with hn | hn
    · exact .inl hn
    · exact .inr ⟨b, off, rfl, Nat.lt_of_lt_of_le hb hm.size, fun j x hx => (hm.cell hb (hn b rfl) _).trans (hc j x hx)⟩

theorem OB.mod {B : Nat} {v : Value} {l : List Nat} (h : OB w B v l) (hm : Mod S w w') (hn : ∀ b, v.ownBlock = some b → ¬ S b) : OB w' B v l := by
  refine ⟨h.1, h.2.1, h.2.2.1, ?_⟩
  rcases h.2.2.2 with h4 | ⟨g, cap, cur, hv, hg, hh, r⟩
  · exact .inl h4
  · exact .inr ⟨g, cap, cur, hv, hg, (hm.block g (Array.getElem?_eq_some_iff.1 hh).1 (hn g (by rw [hv]; rfl))).trans hh, r⟩

theorem RK.mod {α : Type} {enc : α → List Value} {k : Nat} {v : Value} {xs : List α} (h : RK enc k w w.heap.size v xs) (hm : Mod S w w') (hn : Off S v xs) : RK enc k w' w'.heap.size v xs := by
  obtain ⟨h1, A, c, rfl, h3, h4, h5⟩ := h
  refine ⟨h1, A, c, rfl, h3, h4, ?_⟩
  rcases h5 with h5 | ⟨b, off, rfl, hb, hc⟩
  · exact .inl h5
  · rcases hn with hn | hn
    · exact .inl hn
    · exact .inr ⟨b, off, rfl, Nat.lt_of_lt_of_le hb hm.size, fun i x hx j u hu => (hm.cell hb (hn b rfl) _).trans (hc i x hx j u hu)⟩

end

/-! ### Maps of numbers, read as functions -/
noncomputable def heldR (p : Value → Prop) (v : Value) : Option (DataW Value × List MemPlace) := by
  classical exact if p v then some (.held v, []) else none

theorem heldR_yes {p : Value → Prop} {v : Value} (h : p v) : heldR p v = some (.held v, []) := by unfold heldR; simp [h]

theorem heldR_inv {p : Value → Prop} {v : Value} {z : DataW Value × List MemPlace} (h : heldR p v = some z) : p v ∧ z = (.held v, []) := by
  unfold heldR at h
  split at h
  · rename_i hp; injection h with h; exact ⟨hp, h.symm⟩
  · cases h

/-- Block b is a map of at most n entries from numbers to values of which p holds; it reads as f. -/
def MapI (p : Value → Prop) (w : World) (b n : Nat) (f : Int → Option Value) : Prop :=
  ∃ D : DataW Value, w.ownsMap Tryz.prog 3 (heldR p) b n D ∧ ∀ (i : Int) (z : DataW Value), D.atKey (.int .i64 i) z = (f i).elim z .held

theorem keyed3 : Keyed Tryz.prog 3 := int_keyed Tryz.underlying3

/-- A number that an int holds. -/
abbrev I64 (i : Int) : Prop := -9223372036854775808 ≤ i ∧ i ≤ 9223372036854775807

theorem wf64 {i : Int} (hi : I64 i) : (Lit.int .i64 i).wf = true := by
  obtain ⟨h1, h2⟩ := hi
  simp [Lit.wf, IntKind.min, IntKind.max, IntKind.signed, IntKind.bits]; omega

theorem key3 {i : Int} (hi : I64 i) : keyOf Tryz.prog 3 (.int .i64 i) = some (.int .i64 i) := keyOf_int_mk Tryz.underlying3 (wf64 hi)

theorem isKey3 (i : Int) (hi : I64 i) : WideAt.IsKeyLit (.int .i64 i) := keyed3.key (key3 hi)

section

variable {p : Value → Prop} {w w' : World} {b n : Nat} {f : Int → Option Value}

theorem MapI.lt (h : MapI p w b n f) : b < w.heap.size := by obtain ⟨D, h1, _⟩ := h; exact h1.lt

theorem MapI.mono {n' : Nat} (h : MapI p w b n f) (hn : n ≤ n') : MapI p w b n' f := by obtain ⟨D, h1, h2⟩ := h; exact ⟨D, h1.mono hn, h2⟩

theorem MapI.same {w' : World} (h : MapI p w b n f) (hb : w'.heap[b]? = w.heap[b]?) : MapI p w' b n f := by
  obtain ⟨D, ⟨es, clock, h1, r⟩, h2⟩ := h
  exact ⟨D, ⟨es, clock, hb.trans h1, r⟩, h2⟩

theorem MapI.mod {S : Nat → Prop} (h : MapI p w b n f) (hm : Mod S w w') (hn : ¬ S b) : MapI p w' b n f := h.same (hm.block b h.lt hn)

theorem MapI.made (w : World) : MapI p (w.alloc (.map #[] 0)) w.heap.size 0 (fun _ => none) := ⟨_, World.ownsMap_made _ _ _ _, fun _ _ => rfl⟩

theorem MapI.cast {f' : Int → Option Value} (h : MapI p w b n f) (e : ∀ i, f i = f' i) : MapI p w b n f' := by
  have : f = f' := funext e
  rw [← this]; exact h

theorem MapI.look_ok {t e : TypeId} (h : MapI p w b n f) (ht : Tryz.prog.underlying t = some (.map 3 e)) {z : Value} (hz : (zeroValue e).run Tryz.prog w = .ok z w) (hp : p z) {i : Int} (hi : I64 i) :
    (Instr.lookup t (.map (some b)) (.int .i64 i) true).run Tryz.prog w = .ok (.tuple #[(f i).getD z, .bool (f i).isSome]) w ∧ p ((f i).getD z) := by
  obtain ⟨D, h1, h2⟩ := h
  obtain ⟨v, ps, hrun, hv⟩ := h1.look_ok keyed3 ht hz (heldR_yes hp) (key3 hi)
  obtain ⟨hpv, e1⟩ := heldR_inv hv
  rw [h2 i] at e1
  have e2 := congrArg Prod.fst e1
  cases hf : f i with
  | none =>
    rw [hf] at e2
    simp at e2
    subst e2
    have : Maps.has D (.int .i64 i) = false := Maps.has_false_of_atKey fun zd => by rw [h2 i, hf]; rfl
    rw [this] at hrun
    exact ⟨hrun, hpv⟩
  | some u =>
    rw [hf] at e2
    simp at e2
    subst e2
    have : Maps.has D (.int .i64 i) = true := Maps.has_true_of_atKey fun zd => by rw [h2 i, hf]; rfl
    rw [this] at hrun
    exact ⟨hrun, hpv⟩

theorem MapI.look {t e : TypeId} (h : MapI p w b n f) (ht : Tryz.prog.underlying t = some (.map 3 e)) {z : Value} (hz : (zeroValue e).run Tryz.prog w = .ok z w) (hp : p z) {i : Int} (hi : I64 i) :
    (Instr.lookup t (.map (some b)) (.int .i64 i) false).run Tryz.prog w = .ok ((f i).getD z) w := by
  obtain ⟨D, h1, h2⟩ := h
  obtain ⟨v, ps, hrun, hv⟩ := h1.lookup keyed3 ht hz (heldR_yes hp) (key3 hi)
  obtain ⟨hpv, e1⟩ := heldR_inv hv
  rw [h2 i] at e1
  have e2 := congrArg Prod.fst e1
  cases hf : f i with
  | none => rw [hf] at e2; simp at e2; subst e2; exact hrun
  | some u => rw [hf] at e2; simp at e2; subst e2; exact hrun

theorem MapI.val (h : MapI p w b n f) {t e : TypeId} (ht : Tryz.prog.underlying t = some (.map 3 e)) {z : Value} (hz : (zeroValue e).run Tryz.prog w = .ok z w) (hp : p z) {i : Int} (hi : I64 i) {u : Value} (hu : f i = some u) : p u := by
  have := (h.look_ok ht hz hp hi).2
  rw [hu] at this
  exact this

/-- The function with another value at one number. -/
def updI (f : Int → Option Value) (i : Int) (u : Option Value) : Int → Option Value := fun k => if k = i then u else f k

theorem MapI.store {t e : TypeId} (h : MapI p w b n f) (ht : Tryz.prog.underlying t = some (.map 3 e)) (hn : n < 9223372036854775807) {i : Int} (hi : I64 i) {v : Value} (hv : p v) :
    ∃ w', (Instr.mapUpdate t (.map (some b)) (.int .i64 i) v).run Tryz.prog w = .ok () w' ∧ MapI p w' b (n + 1) (updI f i (some v)) ∧ w.mapTurned w' b := by
  obtain ⟨D, h1, h2⟩ := h
  obtain ⟨w', hrun, h3, h4⟩ := h1.store keyed3 ht (by unfold maxLen; omega) (key3 hi) (heldR_yes hv)
  refine ⟨w', hrun, ⟨_, h3, fun k z => ?_⟩, h4⟩
  unfold updI
  by_cases hk : k = i
  · subst hk
    rw [if_pos rfl, atKey_put_same h1.isMap (isKey3 k hi)]
    rfl
  · rw [if_neg hk, atKey_put_other (fun e => hk (by injection e))]
    exact h2 k z

theorem MapI.clear {t e : TypeId} (h : MapI p w b n f) (ht : Tryz.prog.underlying t = some (.map 3 e)) (ty : TypeId) :
    ∃ w', (Builtin.clear_ #[t] ty #[.map (some b)]).run Tryz.prog w = .ok (.tuple #[]) w' ∧ MapI p w' b 0 (fun _ => none) ∧ w.mapTurned w' b := by
  obtain ⟨D, ⟨es, clock, hb, F, hs, hD⟩, h2⟩ := h
  refine ⟨setBlock w b (.map #[] clock), ?_, ⟨.map [], ⟨#[], clock, heap_setBlock_same hb _, ?_, Nat.le_refl _, rfl⟩, fun _ _ => rfl⟩, ⟨es, clock, #[], clock, hb, rfl⟩⟩
  · simp [Builtin.clear_, run_underlying ht, MapKept.run_getObj_map hb, MapKept.run_setObj_map _ hb, Result.andThen, setBlock]
  · exact ⟨by simp, stamped_empty _, by simp⟩

/-- 'for k, v := range m' under way over such a map: left says which numbers are still to come. -/
def RangeI (p : Value → Prop) (w : World) (b r n : Nat) (f : Int → Option Value) (left : Int → Bool) (cnt : Nat) : Prop :=
  ∃ (D : DataW Value) (L : Lit → Bool), w.ranges Tryz.prog 3 (heldR p) b r n D L cnt ∧ (∀ (i : Int) (z : DataW Value), D.atKey (.int .i64 i) z = (f i).elim z .held) ∧ ∀ i : Int, L (.int .i64 i) = left i

theorem RangeI.map {r cnt : Nat} {left : Int → Bool} (h : RangeI p w b r n f left cnt) : MapI p w b n f := by obtain ⟨D, L, h1, h2, _⟩ := h; exact ⟨D, h1.owns, h2⟩

theorem RangeI.left_eq {r cnt : Nat} {left : Int → Bool} (h : RangeI p w b r n f left cnt) : w.rangeLeft b r = cnt := by obtain ⟨D, L, h1, _⟩ := h; exact h1.left_eq

theorem RangeI.ne {r cnt : Nat} {left : Int → Bool} (h : RangeI p w b r n f left cnt) : r ≠ b := by obtain ⟨D, L, h1, _⟩ := h; exact h1.ne

theorem RangeI.lt {r cnt : Nat} {left : Int → Bool} (h : RangeI p w b r n f left cnt) : r < w.heap.size := by obtain ⟨D, L, h1, _⟩ := h; exact h1.lt

theorem RangeI.mod {S : Nat → Prop} {r cnt : Nat} {left : Int → Bool} (h : RangeI p w b r n f left cnt) (hm : Mod S w w') (h1 : ¬ S b) (h2 : ¬ S r) : RangeI p w' b r n f left cnt := by
  have hb := h.map.lt
  have hr := h.lt
  obtain ⟨D, L, ⟨es, clock, since, seen, c0, a1, a2, a3, a4, a5, rest⟩, h4⟩ := h
  exact ⟨D, L, ⟨es, clock, since, seen, c0, (hm.block b hb h1).trans a1, a2, a3, a4, (hm.block r hr h2).trans a5, rest⟩, h4⟩

theorem isSome_has {D : DataW Value} (h2 : ∀ (i : Int) (z : DataW Value), D.atKey (.int .i64 i) z = (f i).elim z .held) (i : Int) : Maps.has D (.int .i64 i) = (f i).isSome := by
  cases hf : f i with
  | none => exact Maps.has_false_of_atKey fun zd => by rw [h2 i, hf]; rfl
  | some u => exact Maps.has_true_of_atKey (y := .held u) fun zd => by rw [h2 i, hf]; rfl

/-- So many entries as numbers that it may be asked for. -/
theorem MapI.bound (h : MapI p w b n f) (N : Nat) (hf : ∀ i u, f i = some u → 0 ≤ i ∧ i < (N : Int)) : MapI p w b N f := by
  obtain ⟨D, ⟨es, clock, hb, F, hs, hD⟩, h2⟩ := h
  have hkey : ∀ x ∈ es.toList, ∃ i : Nat, x.key = .int .i64 (i : Int) ∧ i < N := by
    intro x hx
    obtain ⟨y, hy⟩ := F.reads x hx
    have h3 := WideElems.rd_key hy
    obtain ⟨i, e1, e2, hwf⟩ := keyOf_int_inv Tryz.underlying3 h3
    have h4 : Maps.has D (.int .i64 i) = true := by
      rw [hD, ← e2]
      refine List.any_eq_true.2 ⟨_, mem_sorted.2 (List.mem_map.2 ⟨x, hx, rfl⟩), ?_⟩
      rw [WideElems.rg_of hy]
      exact WideAt.sameKey_self (keyed3.key h3)
    rw [isSome_has h2 i] at h4
    obtain ⟨u, hu⟩ := Option.isSome_iff_exists.1 h4
    have := hf i u hu
    exact ⟨i.toNat, by rw [e1, Int.toNat_of_nonneg this.1], by omega⟩
  refine ⟨D, ⟨es, clock, hb, F, ?_, hD⟩, h2⟩
  let g : MapEntry → Nat := fun x => match x.key with | .int _ i => i.toNat | _ => 0
  have hap := ((stamped_iff es clock).1 F.stamped).2.2
  have hnd : (es.toList.map g).Nodup := by
    refine List.pairwise_map.2 (hap.imp_of_mem (fun {x y} hx hy hne e => hne ?_))
    obtain ⟨i, e1, _⟩ := hkey x hx
    obtain ⟨j, e2, _⟩ := hkey y hy
    simp only [g, e1, e2] at e
    rw [e1, e2]
    have : i = j := by simpa using e
    rw [this]
  have hsub : (es.toList.map g) ⊆ List.range N := by
    intro k hk
    obtain ⟨x, hx, rfl⟩ := List.mem_map.1 hk
    obtain ⟨i, e1, hi⟩ := hkey x hx
    simp only [g, e1]
    simpa using hi
  have := hnd.length_le_of_subset hsub
  simpa using this

theorem sameKey64 (k i : Int) (hi : I64 i) : (Lit.int .i64 k).sameKey (.int .i64 i) = decide (k = i) := by
  by_cases h : k = i
  · subst h; rw [WideAt.sameKey_self (isKey3 k hi)]; simp
  · rw [sameKey_ne (fun e => h (by injection e))]; simp [h]

/-- What is known of an entry that has come. -/
structure NextI (p : Value → Prop) (f : Int → Option Value) (left : Int → Bool) (i : Int) (v : Value) : Prop where
  i64 : I64 i
  left : left i = true
  val : f i = some v
  prop : p v

section

variable {ops : Array Oper} {rest : List Oper} {o : Oper} {a : Act} {Q : Exit → Act → World → Prop} {d : Option Tmp} {ty : TypeId} {pos : String} {af : Array Edge}

theorem wpList_lookI_ (hg : o.guard = none) (m x : Operand) (t : TypeId) (hop : o.op = Op.lookup t m x true) (e : TypeId) (ht : Tryz.prog.underlying t = some (.map 3 e)) {z : Value} (hz : (zeroValue e).run Tryz.prog w = .ok z w) (hp : p z) (b n : Nat) (f : Int → Option Value)
    (hm : a.eval m = .map (some b)) (hM : MapI p w b n f) (i : Int) (hx : a.eval x = .int .i64 i) (hi : I64 i) (u : Value) (y : Bool) (hu : (f i).getD z = u) (hy : (f i).isSome = y)
    (hK : wpList Tryz.prog ops Q rest (a.put o.dst (.tuple #[u, .bool y])) w) : wpList Tryz.prog ops Q (o :: rest) a w := by
  subst hu hy
  refine wpList_plain hg fun K' hK' => ?_
  unfold Oper.wp
  simp [execOp, hop, hm, hx, (hM.look_ok ht hz hp hi).1, Result.andThen]
  exact hK' _ _ hK

theorem wpList_storeI_ (hg : o.guard = none) (m x v : Operand) (t : TypeId) (hop : o.op = Op.mapUpdate t m x v) (e : TypeId) (ht : Tryz.prog.underlying t = some (.map 3 e)) (b n : Nat) (f : Int → Option Value)
    (hm : a.eval m = .map (some b)) (hM : MapI p w b n f) (hn : n < 9223372036854775807) (i : Int) (hx : a.eval x = .int .i64 i) (hi : I64 i) (u : Value) (hv : a.eval v = u) (hu : p u)
    (hK : ∀ w', MapI p w' b (n + 1) (updI f i (some u)) → w.mapTurned w' b → wpList Tryz.prog ops Q rest (a.put o.dst undef) w') : wpList Tryz.prog ops Q (o :: rest) a w := by
  refine wpList_plain hg fun K' hK' => ?_
  obtain ⟨w', hrun, r1, r2⟩ := hM.store ht hn hi hu
  unfold Oper.wp
  simp [execOp, hop, hm, hx, hv, hrun, Result.andThen]
  exact hK' _ _ (hK w' r1 r2)

theorem wpList_clearI_ (hg : o.guard = none) (m : Operand) (t : TypeId) (hop : o.op = Op.call { callee := Callee.builtin Builtin.clear, args := #[m], argTypes := #[t] }) (e : TypeId) (ht : Tryz.prog.underlying t = some (.map 3 e)) (b n : Nat) (f : Int → Option Value)
    (hm : a.eval m = .map (some b)) (hM : MapI p w b n f)
    (hK : ∀ w', MapI p w' b 0 (fun _ => none) → w.mapTurned w' b → wpList Tryz.prog ops Q rest (a.put o.dst (.tuple #[])) w') : wpList Tryz.prog ops Q (o :: rest) a w := by
  refine wpList_plain hg fun K' hK' => ?_
  obtain ⟨w', hrun, r1, r2⟩ := hM.clear ht o.type
  unfold Oper.wp
  simp [execOp, hop, resolve, invoke, builtin, hm, hrun, Result.andThen]
  exact hK' _ _ (hK w' r1 r2)

theorem wpList_rangeI_ (hg : o.guard = none) (m : Operand) (t : TypeId) (hop : o.op = Op.range t m) (e : TypeId) (ht : Tryz.prog.underlying t = some (.map 3 e)) (b n : Nat) (f : Int → Option Value)
    (hm : a.eval m = .map (some b)) (hM : MapI p w b n f)
    (hK : ∀ w' cnt, RangeI p w' b w.heap.size n f (fun i => (f i).isSome) cnt → w.grownBy w' none → w'.heap.size = w.heap.size + 1 → wpList Tryz.prog ops Q rest (a.put o.dst (.pointer (some ⟨w.heap.size, 0, none⟩))) w') :
    wpList Tryz.prog ops Q (o :: rest) a w := by
  obtain ⟨D, h1, h2⟩ := hM
  exact wpList_range_own w hg m t hop 3 e keyed3 ht (heldR p) b n D hm h1 fun w' r1 r2 r3 => hK w' _ ⟨D, _, r1, h2, fun i => isSome_has h2 i⟩ r2 r3

theorem wpList_nextI_ {β : Type} (hg : o.guard = none) (it : Operand) (hop : o.op = Op.next it false) (mkV : β → Value) (invV : ∀ v, p v → ∃ c, v = mkV c) (b r n : Nat) (f : Int → Option Value) (left : Int → Bool) (cnt : Nat)
    (hit : a.eval it = .pointer (some ⟨r, 0, none⟩)) (h : RangeI p w b r n f left cnt)
    (hDone : (∀ i, left i = false) → wpList Tryz.prog ops Q rest (a.put o.dst (.tuple #[.bool false])) w)
    (hMore : ∀ (i : Int) (c : β) (w' : World) (cnt' : Nat), NextI p f left i (mkV c) → RangeI p w' b r n f (fun k => left k && !decide (k = i)) cnt' → cnt' < cnt →
      w.grownBy w' (some r) → w'.heap.size = w.heap.size → (Instr.entry (.pointer (some ⟨r, 0, none⟩))).run Tryz.prog w' = .ok (.tuple #[.int .i64 i, mkV c]) w' → wpList Tryz.prog ops Q rest (a.put o.dst (.tuple #[.bool true, .int .i64 i, mkV c])) w') :
    wpList Tryz.prog ops Q (o :: rest) a w := by
  obtain ⟨D, L, h1, h2, h3⟩ := h
  refine wpList_next_ranges w hg it hop 3 keyed3 (heldR p) (Value.int .i64) mkV (fun key kl hk => by obtain ⟨x, hx, _⟩ := keyOf_int_inv Tryz.underlying3 hk; exact ⟨x, hx⟩) (fun v y hv => invV v (heldR_inv hv).1) b r n D L cnt hit h1 (fun _ hL => hDone fun i => (h3 i).symm.trans (hL _)) ?_
  intro x c kl y w' cnt' hkey hlk hv hat hrg hlt hgr hsz hen
  obtain ⟨x', ex, rfl, hwf⟩ := keyOf_int_inv Tryz.underlying3 hkey
  injection ex with _ ex
  subst ex
  have hi : I64 x := by
    simp [Lit.wf, IntKind.min, IntKind.max, IntKind.signed, IntKind.bits] at hwf
    unfold I64; omega
  obtain ⟨hpv, rfl⟩ := heldR_inv hv
  refine hMore x c w' cnt' ⟨hi, (h3 x).symm.trans hlk, ?_, hpv⟩ ⟨D, _, hrg, h2, fun k => ?_⟩ hlt hgr hsz hen
  · have := hat .nil
    rw [h2 x] at this
    cases hf : f x with
    | none => rw [hf] at this; simp at this
    | some u => rw [hf] at this; simp at this; rw [this]
  · dsimp only
    rw [h3 k, sameKey64 k x hi]

theorem wpList_lookI {m x : Operand} {t : TypeId} (e : TypeId) (ht : Tryz.prog.underlying t = some (.map 3 e)) {z : Value} (hz : (zeroValue e).run Tryz.prog w = .ok z w) (hp : p z) (b n : Nat) (f : Int → Option Value)
    (hm : a.eval m = .map (some b)) (hM : MapI p w b n f) (i : Int) (hx : a.eval x = .int .i64 i) (hi : I64 i) (u : Value) (y : Bool) (hu : (f i).getD z = u) (hy : (f i).isSome = y)
    (hK : wpList Tryz.prog ops Q rest (a.put d (.tuple #[u, .bool y])) w) : wpList Tryz.prog ops Q ({ dst := d, op := .lookup t m x true, type := ty, pos := pos, after := af, guard := none } :: rest) a w :=
  wpList_lookI_ rfl m x t rfl e ht hz hp b n f hm hM i hx hi u y hu hy hK

theorem wpList_storeI {m x v : Operand} {t : TypeId} (e : TypeId) (ht : Tryz.prog.underlying t = some (.map 3 e)) (b n : Nat) (f : Int → Option Value)
    (hm : a.eval m = .map (some b)) (hM : MapI p w b n f) (hn : n < 9223372036854775807) (i : Int) (hx : a.eval x = .int .i64 i) (hi : I64 i) (u : Value) (hv : a.eval v = u) (hu : p u)
    (hK : ∀ w', MapI p w' b (n + 1) (updI f i (some u)) → w.mapTurned w' b → wpList Tryz.prog ops Q rest (a.put d undef) w') : wpList Tryz.prog ops Q ({ dst := d, op := .mapUpdate t m x v, type := ty, pos := pos, after := af, guard := none } :: rest) a w :=
  wpList_storeI_ rfl m x v t rfl e ht b n f hm hM hn i hx hi u hv hu hK

theorem wpList_clearI {m : Operand} {t : TypeId} (e : TypeId) (ht : Tryz.prog.underlying t = some (.map 3 e)) (b n : Nat) (f : Int → Option Value)
    (hm : a.eval m = .map (some b)) (hM : MapI p w b n f)
    (hK : ∀ w', MapI p w' b 0 (fun _ => none) → w.mapTurned w' b → wpList Tryz.prog ops Q rest (a.put d (.tuple #[])) w') : wpList Tryz.prog ops Q ({ dst := d, op := .call { callee := .builtin .clear, args := #[m], argTypes := #[t] }, type := ty, pos := pos, after := af, guard := none } :: rest) a w :=
  wpList_clearI_ rfl m t rfl e ht b n f hm hM hK

theorem wpList_rangeI {m : Operand} {t : TypeId} (e : TypeId) (ht : Tryz.prog.underlying t = some (.map 3 e)) (b n : Nat) (f : Int → Option Value)
    (hm : a.eval m = .map (some b)) (hM : MapI p w b n f)
    (hK : ∀ w' cnt, RangeI p w' b w.heap.size n f (fun i => (f i).isSome) cnt → w.grownBy w' none → w'.heap.size = w.heap.size + 1 → wpList Tryz.prog ops Q rest (a.put d (.pointer (some ⟨w.heap.size, 0, none⟩))) w') :
    wpList Tryz.prog ops Q ({ dst := d, op := .range t m, type := ty, pos := pos, after := af, guard := none } :: rest) a w :=
  wpList_rangeI_ rfl m t rfl e ht b n f hm hM hK

theorem wpList_nextI {it : Operand} {β : Type} (mkV : β → Value) (invV : ∀ v, p v → ∃ c, v = mkV c) (b r n : Nat) (f : Int → Option Value) (left : Int → Bool) (cnt : Nat)
    (hit : a.eval it = .pointer (some ⟨r, 0, none⟩)) (h : RangeI p w b r n f left cnt)
    (hDone : (∀ i, left i = false) → wpList Tryz.prog ops Q rest (a.put d (.tuple #[.bool false])) w)
    (hMore : ∀ (i : Int) (c : β) (w' : World) (cnt' : Nat), NextI p f left i (mkV c) → RangeI p w' b r n f (fun k => left k && !decide (k = i)) cnt' → cnt' < cnt →
      w.grownBy w' (some r) → w'.heap.size = w.heap.size → (Instr.entry (.pointer (some ⟨r, 0, none⟩))).run Tryz.prog w' = .ok (.tuple #[.int .i64 i, mkV c]) w' → wpList Tryz.prog ops Q rest (a.put d (.tuple #[.bool true, .int .i64 i, mkV c])) w') :
    wpList Tryz.prog ops Q ({ dst := d, op := .next it false, type := ty, pos := pos, after := af, guard := none } :: rest) a w :=
  wpList_nextI_ rfl it rfl mkV invV b r n f left cnt hit h hDone hMore

end

/-! ### A disk, by its safe and its pending sectors -/

/-- A sector: 512 bytes. -/
def SecOk (l : List Nat) : Prop := l.length = 512 ∧ ∀ x ∈ l, x < 256

def pad (l : List Nat) : List Nat := l ++ List.replicate (512 - l.length) 0

theorem SecOk.pad {l : List Nat} (h1 : l.length ≤ 512) (h2 : ∀ x ∈ l, x < 256) : SecOk (pad l) := by
  refine ⟨by unfold Proofs.YtbagmmncjmbboaaGreat.pad; rw [List.length_append, List.length_replicate]; omega, fun x hx => ?_⟩
  unfold Proofs.YtbagmmncjmbboaaGreat.pad at hx
  rcases List.mem_append.1 hx with hx | hx
  · exact h2 x hx
  · rw [(List.mem_replicate.1 hx).2]; omega

def sec0 : List Nat := List.replicate 512 0

theorem sec0_ok : SecOk sec0 := ⟨List.length_replicate, fun x hx => by unfold sec0 at hx; rw [(List.mem_replicate.1 hx).2]; omega⟩

structure DS where
  safe : List (List Nat)
  pend : Int → Option (List Nat)
  plan : Int → Int
  steps : Nat
  off : Bool

structure DS.Ok (s : DS) : Prop where
  num : s.safe.length ≤ 4096
  safe : ∀ l ∈ s.safe, SecOk l
  pend : ∀ i l, s.pend i = some l → 0 ≤ i ∧ i < s.safe.length ∧ SecOk l

/-- What sector i has. -/
def DS.has (s : DS) (i : Nat) : List Nat := (s.pend i).getD (s.safe.getD i [])

def DS.isSec (s : DS) (i : Int) : Bool := decide (0 ≤ i) && decide (i < s.safe.length)

theorem DS.Ok.at_ {s : DS} (h : s.Ok) {i : Nat} (hi : i < s.safe.length) : SecOk (s.safe.getD i []) := by
  have : s.safe.getD i [] = s.safe[i] := by simp [List.getD, hi]
  rw [this]; exact h.safe _ (List.getElem_mem hi)

theorem DS.Ok.has {s : DS} (h : s.Ok) {i : Nat} (hi : i < s.safe.length) : SecOk (s.has i) := by
  unfold DS.has
  cases hp : s.pend i with
  | none => exact h.at_ hi
  | some l => exact (h.pend _ l hp).2.2

/-- One step more. -/
def DS.tick (s : DS) : DS := { s with steps := s.steps + 1 }

def DS.fate (s : DS) : Int := s.plan (s.steps + 1)

/-- A step, f what it does. -/
def DS.step (s : DS) (f : DS → DS) : DS := if s.fate = 1 then s.tick else if s.fate = 2 then { s.tick with off := true } else if s.fate = 3 then { f s.tick with off := true } else f s.tick

def DS.code (s : DS) : Int := if s.fate = 1 then 71 else if s.fate = 2 then 70 else if s.fate = 3 then 70 else 0

def DS.put (i : Int) (l : List Nat) (s : DS) : DS := { s with pend := fun k => if k = i then some l else s.pend k }

def DS.settle (s : DS) : DS := { s with safe := (List.range s.safe.length).map s.has, pend := fun _ => none }

/-- Write: the disk behind it, and what it answers. -/
def DS.write (s : DS) (i : Int) (l : List Nat) : DS := if s.off = true then s else if s.isSec i = false then s else if 512 < l.length then s else s.step (DS.put i (Proofs.YtbagmmncjmbboaaGreat.pad l))

def DS.writeE (s : DS) (i : Int) (l : List Nat) : Int := if s.off = true then 70 else if s.isSec i = false then 1 else if 512 < l.length then 1 else s.code

def DS.sync (s : DS) : DS := if s.off = true then s else s.step DS.settle

def DS.syncE (s : DS) : Int := if s.off = true then 70 else s.code

def DS.on (s : DS) (keeps : List Int) : DS := { s with safe := (List.range s.safe.length).map (fun i : Nat => if keeps.contains (i : Int) then s.has i else s.safe.getD i []), pend := fun _ => none, off := false }

/-- The plan that fates make: the first right one at each step counts. -/
def firstFate : List (Int × Int) → Int → Int
  | [], _ => 0
  | f :: r, k => if f.1 = k ∧ 1 ≤ f.2 ∧ f.2 ≤ 3 then f.2 else firstFate r k

def DS.planned (s : DS) (fs : List (Int × Int)) : DS := { s with plan := fun k => if k ≤ s.steps then 0 else firstFate fs k }

def DS.new (n : Int) : DS := ⟨List.replicate (min (max n 0) 4096).toNat sec0, fun _ => none, fun _ => 0, 0, false⟩

def secsOf (l : List Nat) : Nat := min ((l.length + 511) / 512) 4096

def DS.load (l : List Nat) : DS := ⟨(List.range (secsOf l)).map fun i => Proofs.YtbagmmncjmbboaaGreat.pad ((l.drop (i * 512)).take 512), fun _ => none, fun _ => 0, 0, false⟩

def DS.all (s : DS) : List Nat := (List.range s.safe.length).flatMap s.has

def DS.safes (s : DS) : List Nat := s.safe.flatMap id

def DS.loose (s : DS) : List Int := ((List.range s.safe.length).filter fun i : Nat => (s.pend (i : Int)).isSome).map fun i : Nat => (i : Int)

end

end Go.Proofs.YtbagmmncjmbboaaGreat
