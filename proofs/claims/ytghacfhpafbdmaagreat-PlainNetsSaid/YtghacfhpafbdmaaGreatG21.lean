/-
  The walks of slices.Clone at edges; what plain's forest takes.
-/
import Derived.Test.YtghacfhpafbdmaaGreatG20
import Derived.Test.YtghacfhpafbdmaaGreatG13
import Derived.WalkSpells
namespace Go.Proofs.YtghacfhpafbdmaaGreat
open Go.RowKit Go.Sort
set_option linter.unusedVariables false

theorem flat_at {α : Type} {enc : α → List Value} {k : Nat} {w : World} {b off : Nat} {xs : List α} (hk : ∀ x, (enc x).length = k) (hpos : 0 < k)
    (h : ∀ (i : Nat) x, xs[i]? = some x → ∀ (j : Nat) u, (enc x)[j]? = some u → w.cell? ⟨b, off + i * k + j, none⟩ = some u) : ∀ (t : Nat) u, (xs.flatMap enc)[t]? = some u → w.cell? ((⟨b, off, none⟩ : Addr).add t) = some u := by
  intro t u hu
  have h1 := (List.getElem?_eq_some_iff.1 hu).1
  rw [flat_len hk] at h1
  have hdiv : t / k < xs.length := by rw [Nat.div_lt_iff_lt_mul hpos]; exact h1
  have hmod : t % k < k := Nat.mod_lt _ hpos
  have hx : xs[t / k]? = some xs[t / k] := List.getElem?_eq_getElem hdiv
  have he : (enc xs[t / k])[t % k]? = some ((enc xs[t / k])[t % k]'(by rw [hk]; exact hmod)) := List.getElem?_eq_getElem _
  have h2 := flat_get hk xs (t / k) _ hx (t % k) _ he
  rw [Nat.div_add_mod', hu] at h2
  injection h2 with h2
  have h3 := h (t / k) _ hx (t % k) _ he
  have h4 := Nat.div_add_mod' t k
  have : (⟨b, off, none⟩ : Addr).add t = ⟨b, off + t / k * k + t % k, none⟩ := by
    unfold Addr.add
    split
    · rename_i h0; subst h0; simp
    · rw [Nat.add_assoc, h4]
  rw [this, h3, h2]

set_option maxHeartbeats 1000000 in
theorem clone_any (v : Value) (E : List Ed) (w : World) (B : Nat) (hv : RE w B v E) (hlen : E.length ≤ 1000000) :
    Calls Tryz.prog 83 #[v] w fun e w' => ∃ v', e = .returned v' ∧ OK encE 4 47 w' w.heap.size v' E ∧ Below w.heap.size w w' := by
  obtain ⟨h1, A, c, rfl, h3, h4, h5⟩ := hv
  have q23 : ∀ (W : World) (a : Option Addr) (n c n' c' : Nat), (binOp .eql 23 (.slice a n c) (.slice none n' c')).run Tryz.prog W = .ok (.bool a.isNone) W := fun W a n c n' c' => Lib.run_eql_slice_nil W _ _ a n c n' c' Tryz.underlying23
  cases A with
  | none =>
    have hE : E = [] := by
      rcases h5 with h | ⟨b, off, h, _⟩
      · exact h
      · cases h
    subst hE
    go_enter Tryz.func83, Tryz.ntmps83
    go_wp2
    go_ret
    exact ⟨_, rfl, OK.nil _ _, Below.refl _ _⟩
  | some ad =>
    have hcell : ∀ (t : Nat) u, (E.flatMap encE)[t]? = some u → w.cell? (ad.add t) = some u := by
      rcases h5 with h | ⟨b, off, h, hb, hc⟩
      · subst h; intro t u hu; simp at hu
      · injection h with h; subst h
        exact flat_at encE_len (by decide) hc
    obtain ⟨i, z, hi, hz0, hz1, hz2, hz3⟩ := etEdges.info
    have HC := Lib.hid hcell
    clear hcell h5
    obtain ⟨n, hn⟩ : ∃ n, n = E.length := ⟨_, rfl⟩
    rw [← hn] at h1 h3 hlen ⊢
    have HN := Lib.hid hn
    clear hn
    go_enter Tryz.func83, Tryz.ntmps83
    go_wp2_with (at_builtin; refine wpList_append_own_at _ rfl (.tmp 5) (.tmp 6) _ rfl w.heap.size 47 i z 4 32 Tryz.underlying23 hi hz0 hz1 hz2 hz3 (by decide) _ 0 [] rfl (World.ownsRow_made w #[] 0 (Nat.le_refl _) (by decide) rfl) ad n c (E.flatMap encE) rfl (by rw [flat_len encE_len, HN.out]) ?_ ?_ (by simp only [maxLen]; omega) (by omega) (by simp) ?_)
    · intro j u hu
      have hb := HC.out j u hu
      rw [World.cell?_alloc_lt _ _ _ (World.block_lt_of_cell? w _ hb)]
      exact hb
    · intro u hu
      obtain ⟨e, _, he⟩ := List.mem_flatMap.1 hu
      exact encE_one e u he
    · intro v' w' ho hg _ hb
      have HO := Lib.hid ho
      have HG := Lib.hid hg
      clear ho hg hb
      go_wp2_with fail
      go_ret
      refine ⟨_, rfl, ⟨by rw [← HN.out]; omega, ?_⟩, ((Below.refl _ _).alloc (Nat.le_refl _) _).grown HG.out (by simp) (by intro k hk; simp [Value.ownBlock] at hk; omega)⟩
      have := HO.out
      rw [← HN.out]
      exact this

theorem krus_snoc (f : Ed → Nat × Nat) (e : Ed) : ∀ (r : List Ed) (L : List Nat), krus f L (r ++ [e]) = krus f L r ++ (if lab (labsF f L r) (f e).1 = lab (labsF f L r) (f e).2 then [] else [e])
  | [], L => by
    show krus f L [e] = if lab L (f e).1 = lab L (f e).2 then [] else [e]
    by_cases h : lab L (f e).1 = lab L (f e).2
    · unfold krus; rw [if_pos h, if_pos h]; rfl
    · unfold krus; rw [if_neg h, if_neg h]; rfl
  | a :: r, L => by
    rw [List.cons_append]
    unfold krus
    by_cases h : lab L (f a).1 = lab L (f a).2
    · rw [if_pos h, if_pos h, krus_snoc f e r L, labsF_cons, joinL_same h]
    · rw [if_neg h, if_neg h, krus_snoc f e r _, labsF_cons, List.cons_append]

/-- What the steps of 's.join(at(n, e.U), at(n, e.V))' leave in their slots. -/
def SJoin2 (sets sv se : Value) (pe : Nat) (V : List Int) (Lk : List Nat) (u v : Int) (i : Nat) (x : Value) (w : World) : Prop := match i with
  | 0 => x = sets
  | 1 => x = netV sv se
  | 2 => x = .pointer (some ⟨pe, 1, none⟩)
  | 3 => x = .int .i64 u
  | 4 => x = .int .i64 (pl V u : Nat)
  | 5 => x = netV sv se
  | 6 => x = .pointer (some ⟨pe, 2, none⟩)
  | 7 => x = .int .i64 v
  | 8 => x = .int .i64 (pl V v : Nat)
  | _ => x = .bool (!decide (lab Lk (pl V u) = lab Lk (pl V v)))
end Go.Proofs.YtghacfhpafbdmaaGreat
