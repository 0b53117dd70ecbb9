/-
  Three small words on slices of bytes.
-/
import Derived.Test.YtbagmmncjmbboaaGreatE4
namespace Go.Proofs.YtbagmmncjmbboaaGreat
open Go.RowKit Go.Maps
set_option linter.unusedVariables false

theorem RB.nil (w : World) (B : Nat) : RB w B (.slice none 0 0) [] := ⟨by simp, by simp, none, 0, rfl, by simp, by simp, .inl rfl⟩

theorem RB.take {w : World} {B b off c n : Nat} {l : List Nat} (h : RB w B (.slice (some ⟨b, off, none⟩) n c) l) (hn : 512 ≤ n) (hl : l.length = n) : RB w B (.slice (some ⟨b, off, none⟩) 512 c) (l.take 512) := by
  obtain ⟨h1, h2, A, c', e, h3, h4, h5⟩ := h
  injection e with e1 e2 e3
  subst e1 e3
  have hlen : (l.take 512).length = 512 := by rw [List.length_take]; omega
  refine ⟨fun x hx => h1 x (List.mem_of_mem_take hx), by rw [hlen]; omega, some ⟨b, off, none⟩, c, by rw [hlen], by omega, h4, ?_⟩
  rcases h5 with rfl | ⟨b', off', e', hb, hc⟩
  · simp at hl; omega
  · injection e' with e'
    injection e' with e1 e2
    subst e1 e2
    refine .inr ⟨b, off, rfl, hb, fun j x hx => hc j x ?_⟩
    rw [List.getElem?_take] at hx
    split at hx
    · exact hx
    · cases hx

theorem piece_head (v : Value) (l : List Nat) (n : Nat) (w : World) (hv : RB w w.heap.size v l) (hn : n ≤ 9223372036854775807) :
    Calls Tryz.prog 9 #[v, .int .i64 0, .int .i64 (n : Int)] w fun e w' => ∃ v', e = .returned v' ∧ OB w' w.heap.size v' (piece l 0 n) ∧ Below w.heap.size w w' :=
  piece_any v l 0 n w hv (by omega) hn

end Go.Proofs.YtbagmmncjmbboaaGreat
