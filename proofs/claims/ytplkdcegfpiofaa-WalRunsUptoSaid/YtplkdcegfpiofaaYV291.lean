/-
  The walk of WalDies.
-/
import Derived.Test.YtplkdcegfpiofaaZV26
namespace Go.Proofs.Ytplkdcegfpiofaa
open Go.RowKit Go.Maps
set_option linter.unusedVariables false

theorem rf_one (W : World) (t : TypeId) (x y : Int) : RF (W.alloc (.cells #[.int .i64 x, .int .i64 y] t)) (W.alloc (.cells #[.int .i64 x, .int .i64 y] t)).heap.size (.slice (some ⟨W.heap.size, 0, none⟩) 1 1) [(x, y)] := by
  refine ⟨by simp, some ⟨W.heap.size, 0, none⟩, 1, rfl, by simp, by omega, .inr ⟨W.heap.size, 0, rfl, by simp, fun i f hf j u hu => ?_⟩⟩
  match i, hf with
  | 0, hf =>
    simp at hf
    subst hf
    match j, hu with
    | 0, hu => simp [encF] at hu; subst hu; simp
    | 1, hu => simp [encF] at hu; subst hu; simp
    | j + 2, hu => simp [encF] at hu
  | i + 1, hf => simp at hf
theorem WalAt.planned {w w' : World} {p sb mb plb g B : Nat} {pl : Option Nat} {s s' : DS} {sv bv : Value} {m : LG} (h : WalAt w p sb mb pl s g B sv bv m) (hd : DiskAt w' p sb mb (some plb) s') (hm : Mod (fun k => k = p) w w') (hp : w.heap.size ≤ plb) : WalAt w' p sb mb (some plb) s' g B sv bv m := by
  refine ⟨hd, h.lg.mod hm (fun k hk e => ?_), h.sep, fun b hb hk => ?_⟩
  · have := (h.lg.own k hk).1; have := h.sep; omega
  · injection hb with hb
    have := (h.lg.own b hk).2
    omega
theorem DiesAt.below {wr w1 : World} {p sb mb plb g B X k : Nat} {q : Int} {dead : Bool} {s : DS} {m : LG} {sv bv : Value} (h : DiesAt wr p sb mb plb g B X q k dead s m sv bv) (hb : Below wr.heap.size wr w1) : DiesAt w1 p sb mb plb g B X q k dead s m sv bv := ⟨h.1.below hb, h.2⟩
end Go.Proofs.Ytplkdcegfpiofaa
