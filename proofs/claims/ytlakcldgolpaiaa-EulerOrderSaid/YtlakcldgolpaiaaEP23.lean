/-
  The walks of slices.Clone at numbers and of New.
-/
import Derived.Test.YtlakcldgolpaiaaEP21
import Derived.Test.YtlakcldgolpaiaaEP22
import Derived.WalkSpells
namespace Go.Proofs.Ytlakcldgolpaiaa
open Go.RowKit
set_option linter.unusedVariables false

theorem RK.cutTo {α : Type} {enc : α → List Value} {k : Nat} {w : World} {B n c : Nat} {A : Option Addr} {xs : List α} (h : RK enc k w B (.slice A n c) xs) (m : Nat) (hm : m ≤ n) : RK enc k w B (.slice A m c) (xs.take m) := by
  obtain ⟨h1, A', c', e, h3, h4, h5⟩ := h
  injection e with e1 e2 e3
  subst e1 e2 e3
  have hl : (xs.take m).length = m := by rw [List.length_take]; omega
  refine ⟨?_, A, c, by rw [hl], by rw [hl]; omega, h4, ?_⟩
  · rw [hl]
    exact Nat.le_trans (Nat.mul_le_mul_right _ hm) h1
  · rcases h5 with h5 | ⟨b, off, e, hb, hc⟩
    · left; rw [h5]; simp
    · refine .inr ⟨b, off, e, hb, fun i x hx j u hu => hc i x ?_ j u hu⟩
      rw [List.getElem?_take] at hx
      split at hx
      · exact hx
      · cases hx

theorem flat_at1 {w : World} {b off : Nat} {xs : List Int} (h : ∀ (i : Nat) x, xs[i]? = some x → ∀ (j : Nat) u, (encI x)[j]? = some u → w.cell? ⟨b, off + i * 1 + j, none⟩ = some u) : ∀ (t : Nat) u, (xs.flatMap encI)[t]? = some u → w.cell? ((⟨b, off, none⟩ : Addr).add t) = some u := by
  intro t u hu
  have h1 := (List.getElem?_eq_some_iff.1 hu).1
  rw [flat_len encI_len] at h1
  have hx : xs[t]? = some (xs[t]'(by omega)) := List.getElem?_eq_getElem _
  have h2 := flat_get encI_len xs t _ hx 0 _ rfl
  simp only [Nat.mul_one, Nat.add_zero] at h2
  rw [hu] at h2
  injection h2 with h2
  have h3 := h t _ hx 0 _ rfl
  have : (⟨b, off, none⟩ : Addr).add t = ⟨b, off + t * 1 + 0, none⟩ := by
    unfold Addr.add
    split
    · rename_i h0; subst h0; simp
    · simp
  rw [this, h3, h2]

set_option maxHeartbeats 1000000 in
theorem clone_any (v : Value) (E : List Int) (w : World) (B : Nat) (hv : RI w B v E) (hlen : E.length ≤ 1000000) :
    Calls Try.prog 74 #[v] w fun e w' => ∃ v', e = .returned v' ∧ OK encI 1 3 w' w.heap.size v' E ∧ Below w.heap.size w w' := by
  obtain ⟨h1, A, c, rfl, h3, h4, h5⟩ := hv
  have q23 : ∀ (W : World) (a : Option Addr) (n c n' c' : Nat), (binOp .eql 22 (.slice a n c) (.slice none n' c')).run Try.prog W = .ok (.bool a.isNone) W := fun W a n c n' c' => Lib.run_eql_slice_nil W _ _ a n c n' c' Try.underlying22
  cases A with
  | none =>
    have hE : E = [] := by
      rcases h5 with h | ⟨b, off, h, _⟩
      · exact h
      · cases h
    subst hE
    go_enter Try.func74, Try.ntmps74
    go_wp2
    go_ret
    exact ⟨_, rfl, OK.nil _ _, Below.refl _ _⟩
  | some ad =>
    have hcell : ∀ (t : Nat) u, (E.flatMap encI)[t]? = some u → w.cell? (ad.add t) = some u := by
      rcases h5 with h | ⟨b, off, h, hb, hc⟩
      · subst h; intro t u hu; simp at hu
      · injection h with h; subst h
        exact flat_at1 hc
    obtain ⟨i, z, hi, hz0, hz1, hz2, hz3⟩ := etInts.info
    have HC := Lib.hid hcell
    clear hcell h5
    obtain ⟨n, hn⟩ : ∃ n, n = E.length := ⟨_, rfl⟩
    rw [← hn] at h1 h3 hlen ⊢
    have HN := Lib.hid hn
    clear hn
    go_enter Try.func74, Try.ntmps74
    go_wp2_with (at_builtin; refine wpList_append_own_at _ rfl (.tmp 5) (.tmp 6) _ rfl w.heap.size 3 i z 1 8 Try.underlying22 hi hz0 hz1 hz2 hz3 (by decide) _ 0 [] rfl (World.ownsRow_made w #[] 0 (Nat.le_refl _) (by decide) rfl) ad n c (E.flatMap encI) rfl (by rw [flat_len encI_len, HN.out]) ?_ ?_ (by simp only [maxLen]; omega) (by omega) (by simp) ?_)
    · intro j u hu
      have hb := HC.out j u hu
      rw [World.cell?_alloc_lt _ _ _ (World.block_lt_of_cell? w _ hb)]
      exact hb
    · intro u hu
      obtain ⟨e, _, he⟩ := List.mem_flatMap.1 hu
      exact encI_one e u he
    · intro v' w' ho hg _ hb
      have HO := Lib.hid ho
      have HG := Lib.hid hg
      clear ho hg hb
      go_wp2_with fail
      go_ret
      refine ⟨_, rfl, ⟨by rw [← HN.out]; omega, ?_⟩, ((Below.refl _ _).alloc (Nat.le_refl _) _).grown HG.out (by simp) (by intro k hk; simp [Value.ownBlock] at hk; omega)⟩
      have := HO.out
      rw [← HN.out]
      simpa using this

end Go.Proofs.Ytlakcldgolpaiaa
