/-
  MvccFirst: a row of what was touched grows and is put back. No walk.
-/
import Derived.Test.YtgahkloldpjnkaaMV25
import Derived.StillTailTactics
namespace Go.Proofs.Ytgahkloldpjnkaa
open Go.RowKit Go.Maps
set_option linter.unusedVariables false

theorem flat_encS (xs : List RowS) : xs.flatMap encS = xs.map RowS.v := by
  induction xs with
  | nil => rfl
  | cons x r ih => rw [List.flatMap_cons, List.map_cons, ih]; rfl

theorem OK.setS {w : World} {B n c k : Nat} {A : Option Addr} {xs : List RowS} (h : OK encS 1 30 w B (.slice A n c) xs) (hk : k < xs.length) (y : RowS) :
    ∃ b, A = some ⟨b, 0, none⟩ ∧ OK encS 1 30 (w.setCell ⟨b, k, none⟩ y.v) B (.slice A n c) (xs.set k y) := by
  obtain ⟨h1, h2, h3⟩ := h
  rcases h3 with ⟨e, hn⟩ | ⟨g, cap, cur, e, hgB, hg, hnc, hcm, hsz, htk⟩
  · omega
  · injection e with e1 e2 e3
    subst e1 e2 e3
    have hblk : Blk w g 30 cur := hg
    refine ⟨g, rfl, by rw [List.length_set]; exact h1, by rw [flat_encS, List.length_map, List.length_set, Nat.mul_one], .inr ⟨g, c, cur.setIfInBounds k y.v, by rw [List.length_set], hgB, hblk.set_ k y.v, by rw [List.length_set]; exact hnc, hcm, by simpa using hsz, ?_⟩⟩
    rw [flat_encS, List.length_set, Nat.mul_one] at *
    rw [Array.toList_setIfInBounds, List.take_set, htk, List.map_set]

theorem TbB.growRow {β : Type} {enc' : β → List Value} {k' E' : Nat} {B : Nat} {w w' : World} {g : Nat} {M : MV} {B' : Nat} {v' : Value} {ys : List β} (h : TbB B w g M) (h' : OK enc' k' E' w B' v' ys) (hne : E' ≠ 60) (hg : w.grownBy w' v'.ownBlock) : TbB B w' g M := by
  refine h.grown hg fun b hb _ => ?_
  rcases h'.2.2 with ⟨e, _⟩ | ⟨g', cap, cur, e, _, hh, _⟩
  · rw [e] at hb; cases hb
  · rw [e] at hb
    simp only [Value.ownBlock] at hb
    injection hb with hb
    subst hb
    exact ⟨_, _, _, hh, hne⟩

theorem Blk.growRow {β : Type} {enc' : β → List Value} {k' E' : Nat} {w w' : World} {g : Nat} {t : TypeId} {cs : Array Value} {B' : Nat} {v' : Value} {ys : List β} (h : Blk w g t cs) (h' : OK enc' k' E' w B' v' ys) (hne : t ≠ E') (hg : w.grownBy w' v'.ownBlock) : Blk w' g t cs := by
  refine h.grown hg fun e => ?_
  rcases h'.2.2 with ⟨e2, _⟩ | ⟨g', cap, cur, e2, _, hh, _⟩
  · rw [e2] at e; cases e
  · rw [e2] at e
    simp only [Value.ownBlock] at e
    injection e with e
    subst e
    exact h.ne_ (t' := E') (cs' := cur) hh hne rfl

theorem still_tail_at {P : Program} {id : Nat} {Q : Exit → Act → World → Prop} {a : Act} {w : World} {l : List Oper} (n : Nat) (W2 : World) (hW : W2 = w.drew) (hm : P.follows .mixedOrders = true) (hB : Region.lexTailB .any l.toArray n = true)
    (h : wpStill P l.toArray W2 (fun a' => wpList P l.toArray Q (l.drop n) a' W2) (l.take n) a) : (Code.region id l.toArray true).wp P Q a w := by
  subst hW; exact wp_region_still_tail n hm hB h

/-- A row has grown: all else is as it was. -/
theorem grown_all {B g : Nat} {w w6 : World} {M : MV} {T : List RowS} {D : List SpanV} {tA : Option Addr} {tn tc : Nat} {dv : Value} {j : Nat} {r r' : RowS} (tb : TbB B w g M) (rows : TRows B w T) (tch : OK encS 1 30 w B (.slice tA tn tc) T) (don : OK encSp 3 51 w B dv D) (hr : T[j]? = some r)
    (k1 : OK encR 2 62 w6 B r'.v r'.rs) (k2 : w.grownBy w6 r.v.ownBlock) (k3 : r'.v.ownBlock = r.v.ownBlock ∨ r'.v.ownBlock = some w.heap.size) :
    TbB B w6 g M ∧ TRows B w6 (T.set j r') ∧ OK encS 1 30 w6 B (.slice tA tn tc) T ∧ OK encSp 3 51 w6 B dv D := by
  have hrk := rows.ok r (List.mem_of_getElem? hr)
  exact ⟨tb.growRow hrk (by decide) k2, rows.set hr k1 k2 k3, tch.kept k2 (rows_ne tch hrk (by decide)), don.kept k2 (rows_ne don hrk (by decide))⟩

/-- .. and it is put back into its place. -/
theorem put_back {B g : Nat} {w : World} {M : MV} {T : List RowS} {D : List SpanV} {b tn tc : Nat} {dv : Value} {j : Nat} {r' : RowS} (tb : TbB B w g M) (rows : TRows B w (T.set j r')) (tch : OK encS 1 30 w B (.slice (some ⟨b, 0, none⟩) tn tc) T) (don : OK encSp 3 51 w B dv D) (hj : j < T.length) :
    TbB B (w.setCell ⟨b, j, none⟩ r'.v) g M ∧ TRows B (w.setCell ⟨b, j, none⟩ r'.v) (T.set j r') ∧ OK encS 1 30 (w.setCell ⟨b, j, none⟩ r'.v) B (.slice (some ⟨b, 0, none⟩) tn tc) (T.set j r') ∧ OK encSp 3 51 (w.setCell ⟨b, j, none⟩ r'.v) B dv D := by
  refine ⟨tb.setRow tch (by decide) j _, rows.still fun q hq k hk => ?_, ?_, don.setOther tch (by decide) j _⟩
  · refine Below.heap_setCell w ⟨b, j, none⟩ _ k fun e => ?_
    subst e
    rcases rows_ne (rows.ok q hq) tch (by decide) with h | h
    · rw [h] at hk; cases hk
    · exact h (by rw [hk]; rfl)
  · obtain ⟨b', e, h⟩ := tch.setS hj r'
    injection e with e
    injection e with e
    subst e
    exact h

end Go.Proofs.Ytgahkloldpjnkaa
