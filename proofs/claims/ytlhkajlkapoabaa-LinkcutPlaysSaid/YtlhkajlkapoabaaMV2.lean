/-
  The laws on maps read as functions, at the operations of a walk. No walk.
-/
import Derived.Test.YtlhkajlkapoabaaMV1
namespace Go.Proofs.Ytlhkajlkapoabaa
open Go.RowKit Go.Maps
open Go.ChangeMaps Go.MapKept
set_option linter.unusedVariables false

section

variable {X : KeyX} {p : Value → Prop} {w : World} {f : X.α → Option Value} {ops : Array Oper} {rest : List Oper} {o : Oper} {a : Act} {Q : Exit → Act → World → Prop}

theorem wpList_lookG (hg : o.guard = none) (m x : Operand) (t : TypeId) (hop : o.op = Op.lookup t m x true) (e : TypeId) (ht : Try.prog.underlying t = some (.map X.K e)) {z : Value} (hz : (zeroValue e).run Try.prog w = .ok z w) (hp : p z) (b n : Nat)
    (hm : a.eval m = .map (some b)) (hM : MapG X p w b n f) (k : X.α) (hx : a.eval x = X.kv k) (hk : X.ok k) (u : Value) (y : Bool) (hu : (f k).getD z = u) (hy : (f k).isSome = y)
    (hK : wpList Try.prog ops Q rest (a.put o.dst (.tuple #[u, .bool y])) w) : wpList Try.prog ops Q (o :: rest) a w := by
  subst hu hy
  refine wpList_plain hg fun K' hK' => ?_
  unfold Oper.wp
  simp [execOp, hop, hm, hx, (hM.look_ok ht hz hp hk).1, Result.andThen]
  exact hK' _ _ hK

theorem wpList_lookG1 (hg : o.guard = none) (m x : Operand) (t : TypeId) (hop : o.op = Op.lookup t m x false) (e : TypeId) (ht : Try.prog.underlying t = some (.map X.K e)) {z : Value} (hz : (zeroValue e).run Try.prog w = .ok z w) (hp : p z) (b n : Nat)
    (hm : a.eval m = .map (some b)) (hM : MapG X p w b n f) (k : X.α) (hx : a.eval x = X.kv k) (hk : X.ok k) (u : Value) (hu : (f k).getD z = u)
    (hK : wpList Try.prog ops Q rest (a.put o.dst u) w) : wpList Try.prog ops Q (o :: rest) a w := by
  subst hu
  refine wpList_plain hg fun K' hK' => ?_
  unfold Oper.wp
  simp [execOp, hop, hm, hx, hM.look ht hz hp hk, Result.andThen]
  exact hK' _ _ hK

theorem wpList_storeG [DecidableEq X.α] (hg : o.guard = none) (m x v : Operand) (t : TypeId) (hop : o.op = Op.mapUpdate t m x v) (e : TypeId) (ht : Try.prog.underlying t = some (.map X.K e)) (b n : Nat)
    (hm : a.eval m = .map (some b)) (hM : MapG X p w b n f) (hn : n < 9223372036854775807) (k : X.α) (hx : a.eval x = X.kv k) (hk : X.ok k) (u : Value) (hv : a.eval v = u) (hu : p u)
    (hK : ∀ w', MapG X p w' b (n + 1) (fun c => if c = k then some u else f c) → w.mapTurned w' b → wpList Try.prog ops Q rest (a.put o.dst undef) w') : wpList Try.prog ops Q (o :: rest) a w := by
  refine wpList_plain hg fun K' hK' => ?_
  obtain ⟨w', hrun, r1, r2⟩ := hM.store ht hn hk hu
  unfold Oper.wp
  simp [execOp, hop, hm, hx, hv, hrun, Result.andThen]
  exact hK' _ _ (hK w' r1 r2)

theorem wpList_dropG [DecidableEq X.α] (hg : o.guard = none) (m x : Operand) (t : TypeId) (hop : o.op = Op.call { callee := Callee.builtin Builtin.delete, args := #[m, x], argTypes := #[t, X.K] }) (e : TypeId) (ht : Try.prog.underlying t = some (.map X.K e)) (b n : Nat)
    (hm : a.eval m = .map (some b)) (hM : MapG X p w b n f) (k : X.α) (hx : a.eval x = X.kv k) (hk : X.ok k)
    (hK : ∀ w', MapG X p w' b n (fun c => if c = k then none else f c) → w.mapTurned w' b → wpList Try.prog ops Q rest (a.put o.dst (.tuple #[])) w') : wpList Try.prog ops Q (o :: rest) a w := by
  refine wpList_plain hg fun K' hK' => ?_
  obtain ⟨w', hrun, r1, r2⟩ := hM.drop ht hk o.type
  unfold Oper.wp
  simp [execOp, hop, resolve, invoke, builtin, hm, hx, hrun, Result.andThen]
  exact hK' _ _ (hK w' r1 r2)

theorem wpList_lenG [DecidableEq X.α] (hg : o.guard = none) (m : Operand) (t : TypeId) (hop : o.op = Op.call { callee := Callee.builtin Builtin.len, args := #[m], argTypes := #[t] }) (e : TypeId) (ht : Try.prog.underlying t = some (.map X.K e)) (b n : Nat)
    (hm : a.eval m = .map (some b)) (hM : MapG X p w b n f) (L : List X.α) (hL : L.Nodup) (hin : ∀ k, k ∈ L ↔ X.ok k ∧ (f k).isSome = true) (N : Nat) (hN : L.length = N)
    (hK : wpList Try.prog ops Q rest (a.put o.dst (.int .i64 (N : Int))) w) : wpList Try.prog ops Q (o :: rest) a w := by
  subst hN
  refine wpList_plain hg fun K' hK' => ?_
  unfold Oper.wp
  simp [execOp, hop, resolve, invoke, builtin, hm, hM.len ht hL hin o.type, Result.andThen]
  exact hK' _ _ hK

theorem wpList_rangeG (hg : o.guard = none) (m : Operand) (t : TypeId) (hop : o.op = Op.range t m) (e : TypeId) (ht : Try.prog.underlying t = some (.map X.K e)) (b n : Nat)
    (hm : a.eval m = .map (some b)) (hM : MapG X p w b n f)
    (hK : ∀ w' cnt, RangeG X p w' b w.heap.size n f (fun k => (f k).isSome) cnt → cnt ≤ n → w.grownBy w' none → w'.heap.size = w.heap.size + 1 → wpList Try.prog ops Q rest (a.put o.dst (.pointer (some ⟨w.heap.size, 0, none⟩))) w') :
    wpList Try.prog ops Q (o :: rest) a w := by
  obtain ⟨D, h1, h2⟩ := hM
  exact wpList_range_own w hg m t hop X.K e X.keyed ht (heldR p) b n D hm h1 fun w' r1 r2 r3 => hK w' _ ⟨D, _, r1, h2, fun k hk => MapG.has_eq h2 hk⟩ h1.size_le r2 r3

/-- What is known of an entry that has come. -/
structure NextG (X : KeyX) (p : Value → Prop) (f : X.α → Option Value) (left : X.α → Bool) (k : X.α) (v : Value) : Prop where
  ok : X.ok k
  left : left k = true
  val : f k = some v
  prop : p v

theorem wpList_nextG [DecidableEq X.α] {β : Type} (hg : o.guard = none) (it : Operand) (hop : o.op = Op.next it false) (mkV : β → Value) (invV : ∀ v, p v → ∃ c, v = mkV c) (b r n : Nat) (left : X.α → Bool) (cnt : Nat)
    (hit : a.eval it = .pointer (some ⟨r, 0, none⟩)) (h : RangeG X p w b r n f left cnt)
    (hDone : (∀ k, X.ok k → left k = false) → wpList Try.prog ops Q rest (a.put o.dst (.tuple #[.bool false])) w)
    (hMore : ∀ (k : X.α) (c : β) (w' : World) (cnt' : Nat), NextG X p f left k (mkV c) → RangeG X p w' b r n f (fun j => left j && !decide (j = k)) cnt' → cnt' < cnt →
      w.grownBy w' (some r) → w'.heap.size = w.heap.size → (Instr.entry (.pointer (some ⟨r, 0, none⟩))).run Try.prog w' = .ok (.tuple #[X.kv k, mkV c]) w' → wpList Try.prog ops Q rest (a.put o.dst (.tuple #[.bool true, X.kv k, mkV c])) w') :
    wpList Try.prog ops Q (o :: rest) a w := by
  obtain ⟨D, L, h1, h2, h3⟩ := h
  refine wpList_next_ranges w hg it hop X.K X.keyed (heldR p) X.kv mkV (fun key kl hk => by obtain ⟨x, _, hx, _⟩ := X.inv hk; exact ⟨x, hx⟩) (fun v y hv => invV v (heldR_inv hv).1) b r n D L cnt hit h1 (fun _ hL => hDone fun k hk => (h3 k hk).symm.trans (hL _)) ?_
  intro x c kl y w' cnt' hkey hlk hv hat hrg hlt hgr hsz hen
  obtain ⟨x', hok, ex, rfl⟩ := X.inv hkey
  obtain rfl := X.inj ex
  obtain ⟨hpv, rfl⟩ := heldR_inv hv
  refine hMore x c w' cnt' ⟨hok, (h3 x hok).symm.trans hlk, ?_, hpv⟩ ⟨D, _, hrg, h2, fun k hk => ?_⟩ hlt hgr hsz hen
  · have := hat .nil
    rw [h2 x hok] at this
    cases hf : f x with
    | none => rw [hf] at this; simp at this
    | some u => rw [hf] at this; simp at this; rw [this]
  · dsimp only
    rw [h3 k hk, X.same hk hok]

theorem RangeG.drop [DecidableEq X.α] {t e : TypeId} {b r n : Nat} {left : X.α → Bool} {cnt : Nat} (h : RangeG X p w b r n f left cnt) (ht : Try.prog.underlying t = some (.map X.K e)) {k : X.α} (hk : X.ok k) (ty : TypeId) :
    ∃ w' cnt', (Builtin.delete_ #[t, X.K] ty #[.map (some b), X.kv k]).run Try.prog w = .ok (.tuple #[]) w' ∧ RangeG X p w' b r n (fun c => if c = k then none else f c) (fun j => left j && !decide (j = k)) cnt' ∧ cnt' ≤ cnt ∧ w.mapTurned w' b := by
  obtain ⟨D, L, h1, h2, h3⟩ := h
  obtain ⟨w', cnt', hrun, r1, r2, r3⟩ := h1.drop X.keyed ht (X.key hk) ty
  refine ⟨w', cnt', hrun, ⟨_, _, r1, fun c hc z => ?_, fun c hc => ?_⟩, r2, r3⟩
  · dsimp only
    by_cases hck : c = k
    · subst hck
      rw [if_pos rfl, atKey_del_same]
      rfl
    · rw [if_neg hck, atKey_del_other (fun e => hck (X.lit_inj hc hk e))]
      exact h2 c hc z
  · dsimp only
    rw [h3 c hc, X.same hc hk]

theorem wpList_dropRG [DecidableEq X.α] (hg : o.guard = none) (m x : Operand) (t : TypeId) (hop : o.op = Op.call { callee := Callee.builtin Builtin.delete, args := #[m, x], argTypes := #[t, X.K] }) (e : TypeId) (ht : Try.prog.underlying t = some (.map X.K e)) (b r n : Nat) (left : X.α → Bool) (cnt : Nat)
    (hm : a.eval m = .map (some b)) (h : RangeG X p w b r n f left cnt) (k : X.α) (hx : a.eval x = X.kv k) (hk : X.ok k)
    (hK : ∀ w' cnt', RangeG X p w' b r n (fun c => if c = k then none else f c) (fun j => left j && !decide (j = k)) cnt' → cnt' ≤ cnt → w.mapTurned w' b → wpList Try.prog ops Q rest (a.put o.dst (.tuple #[])) w') : wpList Try.prog ops Q (o :: rest) a w := by
  obtain ⟨D, L, h1, h2, h3⟩ := h
  refine wpList_delete_ranges w hg m x t X.K hop e X.keyed ht (heldR p) b r n D L cnt hm h1 _ _ hx (X.key hk) fun w' cnt' r1 r2 r3 => hK w' cnt' ⟨_, _, r1, fun c hc z => ?_, fun c hc => ?_⟩ r2 r3
  · dsimp only
    by_cases hck : c = k
    · subst hck
      rw [if_pos rfl, atKey_del_same]
      rfl
    · rw [if_neg hck, atKey_del_other (fun e => hck (X.lit_inj hc hk e))]
      exact h2 c hc z
  · dsimp only
    rw [h3 c hc, X.same hc hk]

end

end Go.Proofs.Ytlhkajlkapoabaa
