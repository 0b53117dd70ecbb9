/-
  The walk of skeinlaw15's changes at the empty rope of the document: what the rope does, whatever the call.
-/
import Derived.Test.YtbbfnbnjaiimgaaRP28
namespace Go.Proofs.Ytbbfnbnjaiimgaa
open Go.RowKit
set_option linter.unusedVariables false

/-- What a call of the script does to a rope. -/
def RM.stepA (M : RM SV) (kd a b n m : Int) : RM SV :=
  if kd = 1 then M.makeA ⟨n, m⟩ else if kd = 2 then M.joinA a b else if kd = 3 then M.cutA a else if kd = 4 then M.setA a ⟨n, m⟩ else M

theorem ret_cell_tmp2 {fn : Func} {p u : Tmp} {ty : TypeId} {a : Act} {w : World} {post : Ending → World → Prop} {A : Addr} {v x : Value} (hr : fn.results = #[.cell p ty, .tmp u]) (hp : a.tmps.getD p undef = .pointer (some A)) (hu : a.tmps.getD u undef = x)
    (hl : (loadVar ty A).run Try.prog w = .ok v w) (hd : a.defers = []) (h : post (.returned (.tuple #[v, x])) w) : bodyPost Try.prog fn post .ret a w := by
  refine bodyPost_ret (v := .tuple #[v, x]) ?_ hd h
  have hp' : a.tmps[p]?.getD undef = .pointer (some A) := by simpa using hp
  have hu' : a.tmps[u]?.getD undef = x := by simpa using hu
  simp only [results, hr]
  simp [hp', hu', asAddr, hl]

/-- A rope stays where a block of another type turns. -/
theorem Rp.far {w : World} {g p i : Nat} {S : Nat → Prop} {M : RM SV} {t : TypeId} {cs : Array Value} (h : Rp w g S M) (hb : Blk w p t cs) (h1 : t ≠ 94) (h2 : t ≠ 108) (h3 : t ≠ 3) (u : Value) : Rp (w.setCell ⟨p, i, none⟩ u) g S M := by
  have hkeep : ∀ (q : Nat) (cs' : Array Value) (t' : TypeId) (fr : Nat × Nat), w.heap[q]? = some (Obj.cells cs' t' fr) → t' ≠ t → (w.setCell ⟨p, i, none⟩ u).heap[q]? = some (Obj.cells cs' t' fr) := by
    intro q cs' t' fr hq ht
    refine (Below.heap_setCell w ⟨p, i, none⟩ u q ?_).trans hq
    intro e
    have e : q = p := e
    subst e
    unfold Blk at hb
    rw [hq] at hb
    injection hb with hb
    injection hb with e3 e4 e5
    exact ht e4
  obtain ⟨B, sv, nb, cap, N, ss, k1, k2⟩ := h
  refine ⟨B, sv, nb, cap, N, ss, ⟨⟨hkeep _ _ _ _ k1.mem.blk h1.symm, k1.mem.nodes.1, k1.mem.nodes.2.1, ?_⟩, k1.ok, k1.few, ?_, k1.small⟩, k2⟩
  · rcases k1.mem.nodes.2.2 with ⟨e, _⟩ | ⟨q, c, cur, e, hq, hh, r⟩
    · cases e
    · exact .inr ⟨q, c, cur, e, hq, hkeep _ _ _ _ hh h2.symm, r⟩
  · rcases k1.seeds with h | h
    · exact .inl h
    · refine .inr ⟨h.1, h.2.1, ?_⟩
      rcases h.2.2 with h4 | ⟨q, c, cur, e, hq, hh, r⟩
      · exact .inl h4
      · exact .inr ⟨q, c, cur, e, hq, hkeep _ _ _ _ hh h3.symm, r⟩

theorem RpB.far {B : Nat} {Q : Nat → Prop} {w : World} {g p i : Nat} {M : RM SV} {t : TypeId} {cs : Array Value} (h : RpB B Q w g M) (hb : Blk w p t cs) (h1 : t ≠ 94) (h2 : t ≠ 108) (h3 : t ≠ 3) (u : Value) : RpB B Q (w.setCell ⟨p, i, none⟩ u) g M := by
  obtain ⟨S, k1, k2, k3⟩ := h
  exact ⟨S, k1.far hb h1 h2 h3 u, k2, fun k hk => by simpa using k3 k hk⟩

/-- A block that is new may turn. -/
theorem TameR.far {B : Nat} {Q : Nat → Prop} {w w' : World} {p i : Nat} (h : TameR B Q w w') (hB : B ≤ w.heap.size) (hp : w.heap.size ≤ p) (u : Value) : TameR B Q w (w'.setCell ⟨p, i, none⟩ u) := by
  refine ⟨h.below.setCell (p := ⟨p, i, none⟩) (Nat.le_trans hB hp) u, ?_, fun k cs t fr hb h1 h2 => ?_, fun k hq hk => (Below.heap_setCell w' ⟨p, i, none⟩ u k (fun e => by have e : k = p := e; omega)).trans (h.kept k hq hk)⟩
  · have := h.size
    have e : (w'.setCell ⟨p, i, none⟩ u).heap.size = w'.heap.size := by simp
    omega
  · refine (Below.heap_setCell w' ⟨p, i, none⟩ u k ?_).trans (h.rows k cs t fr hb h1 h2)
    intro e
    have e : k = p := e
    have := (Array.getElem?_eq_some_iff.1 hb).1
    omega

end Go.Proofs.Ytbbfnbnjaiimgaa
