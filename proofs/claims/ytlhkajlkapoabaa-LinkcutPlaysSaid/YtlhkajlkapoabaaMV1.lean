/-
  Maps keyed by numbers and by elements (api.Ref), read as functions: one bundle of laws for both. No walk.
-/
import Derived.Test.YtlhkajlkapoabaaD1
import Derived.DeepKeys4
namespace Go.Proofs.Ytlhkajlkapoabaa
open Go.RowKit Go.Maps
open Go.ChangeMaps Go.MapKept
set_option linter.unusedVariables false

/-! ### An element as a key -/
/-- An element: is it an edge; its number. -/
structure Rf where
  mk ::
  fst : Bool
  snd : Int

instance : DecidableEq Rf := fun a b => decidable_of_iff (a.fst = b.fst ∧ a.snd = b.snd) (by
  cases a
  cases b
  simp)

def valR (r : Rf) : Value := .agg #[.bool r.fst, .int .i64 r.snd]

def litR (r : Rf) : Lit := .string (keyBytes [.bool r.fst, .int .i64 r.snd])

theorem laidOutM : laidOutB Try.prog = true := by kernel_rfl

theorem wideR : (match Try.prog.underlying 115 with | some (.array _ _) | some (.struct _) => true | _ => false) = true := by kernel_rfl

set_option maxRecDepth 100000 in
theorem keyedR : Keyed Try.prog 115 := Keyed.of_law (deep_law_laid laidOutM (m := 3) (by omega) (of_decide_eq_true (by kernel_rfl)) (by kernel_rfl) wideR)

theorem keyTypeR : Try.prog.keyType 115 = true := by kernel_rfl

theorem cellsR : Try.prog.cellsOf 115 = 2 := by kernel_rfl

theorem typesM : ∃ m, Try.prog.types.size + 1 = m + 2 := ⟨Try.prog.types.size - 1, by have : Try.prog.types.size ≠ 0 := of_decide_eq_true (by kernel_rfl); omega⟩

theorem formedR (xs : Array Value) : (Value.agg xs).formed Try.prog 115 = (xs.size == 2) := by
  simp [Value.formed, Try.underlying115, cellsR]

theorem keyR {r : Rf} (h : I64 r.snd) : keyOf Try.prog 115 (valR r) = some (litR r) := by
  have hw := wf64 h
  obtain ⟨m, hm⟩ := typesM
  unfold keyOf valR
  simp only [Try.underlying115]
  rw [if_pos (by rw [keyTypeR, formedR]; rfl), hm]
  have c3 : Try.prog.cellsOf 3 = 1 := by kernel_rfl
  have c4 : Try.prog.cellsOf 4 = 1 := by kernel_rfl
  unfold Program.keyLits
  simp only [Try.underlying115, Value.cells]
  rw [if_pos (by rw [cellsR]; exact ⟨rfl, by kernel_rfl⟩)]
  simp [List.mapM_cons, List.mapM_nil, c3, c4, Program.keyLits, Try.underlying3, Try.underlying4, hw, litR]

set_option maxRecDepth 100000 in
theorem keyR_inv {v : Value} {l : Lit} (h : keyOf Try.prog 115 v = some l) : ∃ r : Rf, I64 r.snd ∧ v = valR r ∧ l = litR r := by
  obtain ⟨m, hm⟩ := typesM
  have h0 := h
  unfold keyOf at h
  simp only [Try.underlying115] at h
  split at h
  · rename_i hf
    rw [keyTypeR, Bool.true_and] at hf
    cases v with
    | agg xs =>
      rw [formedR] at hf
      have hs : xs.size = 2 := by simpa using hf
      obtain ⟨l⟩ := xs
      match l, hs with
      | [a, b], _ =>
        rw [hm] at h
        have c3 : Try.prog.cellsOf 3 = 1 := by kernel_rfl
        have c4 : Try.prog.cellsOf 4 = 1 := by kernel_rfl
        unfold Program.keyLits at h
        simp only [Try.underlying115, Value.cells] at h
        rw [if_pos (by rw [cellsR]; exact ⟨rfl, by kernel_rfl⟩)] at h
        simp [List.mapM_cons, List.mapM_nil, c3, c4, Program.keyLits, Try.underlying3, Try.underlying4] at h
        cases a <;> simp at h
        cases b <;> simp at h
        rename_i bb kk nn _
        by_cases hk : kk = IntKind.i64 ∧ (Lit.int IntKind.i64 nn).wf = true
        · rw [if_pos hk] at h
          simp at h
          obtain ⟨rfl, hw⟩ := hk
          refine ⟨⟨bb, nn⟩, ?_, rfl, ?_⟩
          · simp [Lit.wf, IntKind.min, IntKind.max, IntKind.signed, IntKind.bits] at hw
            unfold I64; dsimp only; omega
          · rw [← h]; rfl
        · rw [if_neg hk] at h; simp at h
    | _ => simp [Value.formed, Try.underlying115] at hf
  · cases h

theorem valR_inj {a b : Rf} (h : valR a = valR b) : a = b := by
  obtain ⟨a1, a2⟩ := a
  obtain ⟨b1, b2⟩ := b
  simp only [valR, Value.agg.injEq] at h
  have h' := congrArg Array.toList h
  simp at h'
  simp [h'.1, h'.2]

/-! ### Keys of whatever kind -/

/-- A kind of keys: the type's number, how a key is a value and what it reads as, which keys there are. -/
structure KeyX where
  K : TypeId
  α : Type
  kv : α → Value
  kl : α → Lit
  ok : α → Prop
  keyed : Keyed Try.prog K
  key : ∀ {a : α}, ok a → keyOf Try.prog K (kv a) = some (kl a)
  inv : ∀ {v : Value} {l : Lit}, keyOf Try.prog K v = some l → ∃ a, ok a ∧ v = kv a ∧ l = kl a
  inj : ∀ {a b : α}, kv a = kv b → a = b

theorem invI {v : Value} {l : Lit} (h : keyOf Try.prog 3 v = some l) : ∃ a, I64 a ∧ v = .int .i64 a ∧ l = .int .i64 a := by
  obtain ⟨x, rfl, rfl, hwf⟩ := keyOf_int_inv Try.underlying3 h
  refine ⟨x, ?_, rfl, rfl⟩
  simp [Lit.wf, IntKind.min, IntKind.max, IntKind.signed, IntKind.bits] at hwf
  unfold I64; omega

/-- Numbers. -/
abbrev kI : KeyX := ⟨3, Int, .int .i64, .int .i64, I64, keyed3, key3, invI, fun h => by injection h⟩

/-- Elements. -/
abbrev kR : KeyX := ⟨115, Rf, valR, litR, fun r => I64 r.snd, keyedR, keyR, keyR_inv, valR_inj⟩

section

variable {X : KeyX} {p : Value → Prop} {w w' : World} {b n : Nat} {f : X.α → Option Value}

theorem KeyX.lit_inj {a c : X.α} (ha : X.ok a) (hc : X.ok c) (h : X.kl a = X.kl c) : a = c := X.inj (X.keyed.inj (X.key ha) (by rw [h]; exact X.key hc))

theorem KeyX.isKey {a : X.α} (ha : X.ok a) : WideAt.IsKeyLit (X.kl a) := X.keyed.key (X.key ha)

theorem KeyX.same [DecidableEq X.α] {a c : X.α} (ha : X.ok a) (hc : X.ok c) : (X.kl a).sameKey (X.kl c) = decide (a = c) := by
  by_cases h : a = c
  · subst h; rw [WideAt.sameKey_self (X.isKey ha)]; simp
  · rw [sameKey_ne (fun e => h (X.lit_inj ha hc e))]; simp [h]

/-- Block b is a map of at most n entries whose values have p; it reads as f. -/
def MapG (X : KeyX) (p : Value → Prop) (w : World) (b n : Nat) (f : X.α → Option Value) : Prop :=
  ∃ D : DataW Value, w.ownsMap Try.prog X.K (heldR p) b n D ∧ ∀ a, X.ok a → ∀ z : DataW Value, D.atKey (X.kl a) z = (f a).elim z .held

theorem MapG.lt (h : MapG X p w b n f) : b < w.heap.size := by obtain ⟨D, h1, _⟩ := h; exact h1.lt

theorem MapG.mono {n' : Nat} (h : MapG X p w b n f) (hn : n ≤ n') : MapG X p w b n' f := by obtain ⟨D, h1, h2⟩ := h; exact ⟨D, h1.mono hn, h2⟩

theorem MapG.same (h : MapG X p w b n f) (hb : w'.heap[b]? = w.heap[b]?) : MapG X p w' b n f := by
  obtain ⟨D, ⟨es, clock, h1, r⟩, h2⟩ := h
  exact ⟨D, ⟨es, clock, hb.trans h1, r⟩, h2⟩

theorem MapG.mod {S : Nat → Prop} (h : MapG X p w b n f) (hm : Mod S w w') (hn : ¬ S b) : MapG X p w' b n f := h.same (hm.block b h.lt hn)

theorem MapG.made (w : World) : MapG X p (w.alloc (.map #[] 0)) w.heap.size 0 (fun _ => none) := ⟨_, World.ownsMap_made _ _ _ _, fun _ _ _ => rfl⟩

theorem MapG.cast {f' : X.α → Option Value} (h : MapG X p w b n f) (e : ∀ a, X.ok a → f a = f' a) : MapG X p w b n f' := by
  obtain ⟨D, h1, h2⟩ := h
  exact ⟨D, h1, fun a ha z => by rw [h2 a ha, e a ha]⟩

theorem MapG.has_eq {D : DataW Value} (h2 : ∀ a, X.ok a → ∀ z : DataW Value, D.atKey (X.kl a) z = (f a).elim z .held) {a : X.α} (ha : X.ok a) : Maps.has D (X.kl a) = (f a).isSome := by
  cases hf : f a with
  | none => exact Maps.has_false_of_atKey fun zd => by rw [h2 a ha, hf]; rfl
  | some u => exact Maps.has_true_of_atKey (y := .held u) fun zd => by rw [h2 a ha, hf]; rfl

theorem MapG.look_ok {t e : TypeId} (h : MapG X p w b n f) (ht : Try.prog.underlying t = some (.map X.K e)) {z : Value} (hz : (zeroValue e).run Try.prog w = .ok z w) (hp : p z) {a : X.α} (ha : X.ok a) :
    (Instr.lookup t (.map (some b)) (X.kv a) true).run Try.prog w = .ok (.tuple #[(f a).getD z, .bool (f a).isSome]) w ∧ p ((f a).getD z) := by
  obtain ⟨D, h1, h2⟩ := h
  obtain ⟨v, ps, hrun, hv⟩ := h1.look_ok X.keyed ht hz (heldR_yes hp) (X.key ha)
  obtain ⟨hpv, e1⟩ := heldR_inv hv
  rw [h2 a ha] at e1
  have e2 := congrArg Prod.fst e1
  rw [MapG.has_eq h2 ha] at hrun
  cases hf : f a with
  | none => rw [hf] at e2 hrun; simp at e2; subst e2; exact ⟨hrun, hpv⟩
  | some u => rw [hf] at e2 hrun; simp at e2; subst e2; exact ⟨hrun, hpv⟩

theorem MapG.look {t e : TypeId} (h : MapG X p w b n f) (ht : Try.prog.underlying t = some (.map X.K e)) {z : Value} (hz : (zeroValue e).run Try.prog w = .ok z w) (hp : p z) {a : X.α} (ha : X.ok a) :
    (Instr.lookup t (.map (some b)) (X.kv a) false).run Try.prog w = .ok ((f a).getD z) w := by
  obtain ⟨D, h1, h2⟩ := h
  obtain ⟨v, ps, hrun, hv⟩ := h1.lookup X.keyed ht hz (heldR_yes hp) (X.key ha)
  obtain ⟨hpv, e1⟩ := heldR_inv hv
  rw [h2 a ha] at e1
  have e2 := congrArg Prod.fst e1
  cases hf : f a with
  | none => rw [hf] at e2; simp at e2; subst e2; exact hrun
  | some u => rw [hf] at e2; simp at e2; subst e2; exact hrun

theorem MapG.store [DecidableEq X.α] {t e : TypeId} (h : MapG X p w b n f) (ht : Try.prog.underlying t = some (.map X.K e)) (hn : n < 9223372036854775807) {a : X.α} (ha : X.ok a) {v : Value} (hv : p v) :
    ∃ w', (Instr.mapUpdate t (.map (some b)) (X.kv a) v).run Try.prog w = .ok () w' ∧ MapG X p w' b (n + 1) (fun c => if c = a then some v else f c) ∧ w.mapTurned w' b := by
  obtain ⟨D, h1, h2⟩ := h
  obtain ⟨w', hrun, h3, h4⟩ := h1.store X.keyed ht (by unfold maxLen; omega) (X.key ha) (heldR_yes hv)
  refine ⟨w', hrun, ⟨_, h3, fun c hc z => ?_⟩, h4⟩
  dsimp only
  by_cases hk : c = a
  · subst hk
    rw [if_pos rfl, atKey_put_same h1.isMap (X.isKey ha)]
    rfl
  · rw [if_neg hk, atKey_put_other (fun e => hk (X.lit_inj hc ha e))]
    exact h2 c hc z

theorem MapG.drop [DecidableEq X.α] {t e : TypeId} (h : MapG X p w b n f) (ht : Try.prog.underlying t = some (.map X.K e)) {a : X.α} (ha : X.ok a) (ty : TypeId) :
    ∃ w', (Builtin.delete_ #[t, X.K] ty #[.map (some b), X.kv a]).run Try.prog w = .ok (.tuple #[]) w' ∧ MapG X p w' b n (fun c => if c = a then none else f c) ∧ w.mapTurned w' b := by
  obtain ⟨D, h1, h2⟩ := h
  obtain ⟨w', hrun, h3, h4⟩ := h1.drop X.keyed ht (X.key ha) ty
  refine ⟨w', hrun, ⟨_, h3, fun c hc z => ?_⟩, h4⟩
  dsimp only
  by_cases hk : c = a
  · subst hk
    rw [if_pos rfl, atKey_del_same]
    rfl
  · rw [if_neg hk, atKey_del_other (fun e => hk (X.lit_inj hc ha e))]
    exact h2 c hc z

/-- How many entries there are: as many as keys that are there. -/
theorem size_of_keys [DecidableEq X.α] {D : DataW Value} (h1 : w.ownsMap Try.prog X.K (heldR p) b n D) (h2 : ∀ a, X.ok a → ∀ z : DataW Value, D.atKey (X.kl a) z = (f a).elim z .held) {L : List X.α} (hL : L.Nodup) (hin : ∀ a, a ∈ L ↔ X.ok a ∧ (f a).isSome = true) : Maps.size D = L.length := by
  obtain ⟨es, clock, hb, F, hs, hD⟩ := h1
  have hkey : ∀ x ∈ es.toList, ∃ a, X.ok a ∧ x.key = X.kv a ∧ (WideElems.rg Try.prog X.K (heldR p) x).1 = X.kl a := by
    intro x hx
    obtain ⟨y, hy⟩ := F.reads x hx
    obtain ⟨a, ha, e1, e2⟩ := X.inv (WideElems.rd_key hy)
    refine ⟨a, ha, e1, ?_⟩
    rw [WideElems.rg_of hy]; exact e2
  have e1 : Maps.size D = es.size := by subst hD; simp [Maps.size, length_sorted]
  rw [e1]
  have hap := ((stamped_iff es clock).1 F.stamped).2.2
  have hsz : ∀ a, X.ok a → ((f a).isSome = true ↔ ∃ x ∈ es.toList, x.key = X.kv a) := by
    intro a ha
    rw [← MapG.has_eq h2 ha, hD]
    constructor
    · intro hh
      obtain ⟨q, hq, hq2⟩ := List.any_eq_true.1 hh
      obtain ⟨x, hx, rfl⟩ := List.mem_map.1 (mem_sorted.1 hq)
      obtain ⟨c, hc, e3, e4⟩ := hkey x hx
      rw [e4, X.same hc ha] at hq2
      refine ⟨x, hx, ?_⟩
      rw [e3, of_decide_eq_true hq2]
    · rintro ⟨x, hx, e3⟩
      obtain ⟨c, hc, e4, e5⟩ := hkey x hx
      have hca : c = a := X.inj (by rw [← e4, e3])
      subst hca
      refine List.any_eq_true.2 ⟨_, mem_sorted.2 (List.mem_map.2 ⟨x, hx, rfl⟩), ?_⟩
      rw [e5, X.same hc hc]; simp
  have hm : (L.map X.kv).Perm (es.toList.map (·.key)) := by
    refine (List.perm_ext_iff_of_nodup ?_ ?_).2 ?_
    · exact List.pairwise_map.2 (hL.imp fun h e => h (X.inj e))
    · exact List.pairwise_map.2 (hap.imp fun h e => h e)
    · intro v
      rw [List.mem_map, List.mem_map]
      constructor
      · rintro ⟨a, ha, rfl⟩
        obtain ⟨h3, h4⟩ := (hin a).1 ha
        obtain ⟨x, hx, e⟩ := (hsz a h3).1 h4
        exact ⟨x, hx, e⟩
      · rintro ⟨x, hx, rfl⟩
        obtain ⟨c, hc, e4, _⟩ := hkey x hx
        exact ⟨c, (hin c).2 ⟨hc, (hsz c hc).2 ⟨x, hx, e4⟩⟩, e4.symm⟩
  have := hm.length_eq
  simpa using this.symm

theorem MapG.len [DecidableEq X.α] {t e : TypeId} (h : MapG X p w b n f) (ht : Try.prog.underlying t = some (.map X.K e)) {L : List X.α} (hL : L.Nodup) (hin : ∀ a, a ∈ L ↔ X.ok a ∧ (f a).isSome = true) (ty : TypeId) : (Builtin.len_ #[t] ty #[.map (some b)]).run Try.prog w = .ok (.int .i64 (L.length : Int)) w := by
  obtain ⟨D, h1, h2⟩ := h
  have := h1.len ht ty
  rw [size_of_keys h1 h2 hL hin] at this
  exact this

/-- So many entries as keys that are there. -/
theorem MapG.bound [DecidableEq X.α] (h : MapG X p w b n f) {L : List X.α} (hL : L.Nodup) (hin : ∀ a, a ∈ L ↔ X.ok a ∧ (f a).isSome = true) : MapG X p w b L.length f := by
  obtain ⟨D, h1, h2⟩ := h
  have e := size_of_keys h1 h2 hL hin
  obtain ⟨es, clock, hb, F, hs, hD⟩ := h1
  refine ⟨D, ⟨es, clock, hb, F, ?_, hD⟩, h2⟩
  subst hD
  simp [Maps.size, length_sorted] at e
  omega

/-- 'for k, v := range m' under way: left says which keys are still to come. -/
def RangeG (X : KeyX) (p : Value → Prop) (w : World) (b r n : Nat) (f : X.α → Option Value) (left : X.α → Bool) (cnt : Nat) : Prop :=
  ∃ (D : DataW Value) (L : Lit → Bool), w.ranges Try.prog X.K (heldR p) b r n D L cnt ∧ (∀ a, X.ok a → ∀ z : DataW Value, D.atKey (X.kl a) z = (f a).elim z .held) ∧ ∀ a, X.ok a → L (X.kl a) = left a

variable {r cnt : Nat} {left : X.α → Bool}

theorem RangeG.map (h : RangeG X p w b r n f left cnt) : MapG X p w b n f := by obtain ⟨D, L, h1, h2, _⟩ := h; exact ⟨D, h1.owns, h2⟩

theorem RangeG.cast {f' : X.α → Option Value} (h : RangeG X p w b r n f left cnt) (e : ∀ a, X.ok a → f a = f' a) : RangeG X p w b r n f' left cnt := by
  obtain ⟨D, L, h1, h2, h3⟩ := h
  exact ⟨D, L, h1, fun a ha z => by rw [h2 a ha, e a ha], h3⟩

theorem RangeG.left_eq (h : RangeG X p w b r n f left cnt) : w.rangeLeft b r = cnt := by obtain ⟨D, L, h1, _⟩ := h; exact h1.left_eq

theorem RangeG.ne (h : RangeG X p w b r n f left cnt) : r ≠ b := by obtain ⟨D, L, h1, _⟩ := h; exact h1.ne

theorem RangeG.lt (h : RangeG X p w b r n f left cnt) : r < w.heap.size := by obtain ⟨D, L, h1, _⟩ := h; exact h1.lt

theorem RangeG.mod {S : Nat → Prop} (h : RangeG X p w b r n f left cnt) (hm : Mod S w w') (h1 : ¬ S b) (h2 : ¬ S r) : RangeG X p w' b r n f left cnt := by
  have hb := h.map.lt
  have hr := h.lt
  obtain ⟨D, L, ⟨es, clock, since, seen, c0, a1, a2, a3, a4, a5, rest⟩, h4⟩ := h
  exact ⟨D, L, ⟨es, clock, since, seen, c0, (hm.block b hb h1).trans a1, a2, a3, a4, (hm.block r hr h2).trans a5, rest⟩, h4⟩

end

end Go.Proofs.Ytlhkajlkapoabaa
