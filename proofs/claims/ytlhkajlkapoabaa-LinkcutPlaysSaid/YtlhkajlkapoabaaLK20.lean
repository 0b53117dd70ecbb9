/-
  A forest of chains in memory, with its two maps; the walk of Joined.
-/
import Derived.Test.YtlhkajlkapoabaaLK19
import Derived.Test.YtlhkajlkapoabaaMV2
namespace Go.Proofs.Ytlhkajlkapoabaa
open Go.RowKit Go.Maps
set_option linter.unusedVariables false

/-- Values of a map of nodes. -/
def pQ (v : Value) : Prop := ∃ o : Option Addr, v = .pointer o

theorem pQ_zero : pQ (.pointer none) := ⟨none, rfl⟩

theorem zeroQ (w : World) : (zeroValue 67).run Try.prog w = .ok (.pointer none) w := by kernel_rfl

def ptrO (o : Option Nat) : Option Value := o.map fun a => .pointer (some ⟨a, 0, none⟩)

/-- The forest's blocks: its own, its maps', its nodes'. -/
structure LAt (w : World) (f bv be : Nat) (S : Nat → Prop) (P : Nat → Option Nat) (N : Nat → NdL) (K : List (ST × Option Nat)) (vs es : Int → Option Nat) : Prop where
  blk : Blk w f 64 #[.map (some bv), .map (some be)]
  verts : MapG kI pQ w bv 4096 fun v => ptrO (vs v)
  edges : MapG kI pQ w be 4096 fun i => ptrO (es i)
  at_ : NAt w S N
  fs : Fs S P N K
  vS : ∀ v a, vs v = some a → S a
  eS : ∀ i a, es i = some a → S a
  bvS : ¬ S bv
  beS : ¬ S be
  ne : bv ≠ be

section

variable {w w' : World} {f bv be : Nat} {S : Nat → Prop} {P P' : Nat → Option Nat} {N N' : Nat → NdL} {K K' : List (ST × Option Nat)} {vs es : Int → Option Nat}

theorem LAt.fS (h : LAt w f bv be S P N K vs es) : ¬ S f := fun hs => by
  have := (h.at_ f hs).symm.trans h.blk
  injection this with this
  injection this with _ this
  exact absurd this (by decide)

/-- The nodes alone turn. -/
theorem LAt.turn (h : LAt w f bv be S P N K vs es) (ha : NAt w' S N') (hm : Mod S w w') (hf : Fs S P' N' K') : LAt w' f bv be S P' N' K' vs es :=
  ⟨h.blk.mod hm h.fS, h.verts.mod hm h.bvS, h.edges.mod hm h.beS, ha, hf, h.vS, h.eS, h.bvS, h.beS, h.ne⟩

theorem LAt.below (h : LAt w f bv be S P N K vs es) (hb : Below w.heap.size w w') : LAt w' f bv be S P N K vs es :=
  ⟨h.blk.below hb h.blk.lt, h.verts.same (hb.block _ h.verts.lt), h.edges.same (hb.block _ h.edges.lt), h.at_.below hb, h.fs, h.vS, h.eS, h.bvS, h.beS, h.ne⟩

set_option maxRecDepth 100000 in
set_option maxHeartbeats 4000000 in
theorem joined_no (h : LAt w f bv be S P N K vs es) (u v : Int) (hu : I64 u) (hv : I64 v) (hn : vs u = none ∨ vs v = none) :
    Calls Try.prog 24 #[.pointer (some ⟨f, 0, none⟩), .int .i64 u, .int .i64 v] w fun e w' => e = .returned (.tuple #[.bool false, .int .i64 51]) ∧ w' = w := by
  have c0 : w.cell? ⟨f, 0, none⟩ = some (.map (some bv)) := h.blk.cell 0
  have HM := Lib.hid h.verts
  clear h
  cases h1 : vs u with
  | none =>
    have HV : Hid ((ptrO (vs u)).getD (.pointer none) = .pointer none ∧ (ptrO (vs u)).isSome = false) := Lib.hid (by rw [h1]; exact ⟨rfl, rfl⟩)
    obtain ⟨v2, b2, HW⟩ : ∃ v2 b2, Hid ((ptrO (vs v)).getD (.pointer none) = v2 ∧ (ptrO (vs v)).isSome = b2) := ⟨_, _, Lib.hid ⟨rfl, rfl⟩⟩
    clear h1 hn
    go_enter Try.func24, Try.ntmps24
    go_wp2_with (first | (at_lookup; refine wpList_lookG (X := kI) rfl _ _ _ rfl _ Try.underlying62 (zeroQ _) pQ_zero bv 4096 rfl HM.out u rfl hu _ _ HV.out.1 HV.out.2 ?_) | (at_lookup; refine wpList_lookG (X := kI) rfl _ _ _ rfl _ Try.underlying62 (zeroQ _) pQ_zero bv 4096 rfl HM.out v rfl hv _ _ HW.out.1 HW.out.2 ?_))
    go_ret2
    exact ⟨rfl, rfl⟩
  | some a =>
    have h2 : vs v = none := by
      rcases hn with hn | hn
      · rw [h1] at hn; cases hn
      · exact hn
    have HV : Hid ((ptrO (vs u)).getD (.pointer none) = .pointer (some ⟨a, 0, none⟩) ∧ (ptrO (vs u)).isSome = true) := Lib.hid (by rw [h1]; exact ⟨rfl, rfl⟩)
    have HW : Hid ((ptrO (vs v)).getD (.pointer none) = .pointer none ∧ (ptrO (vs v)).isSome = false) := Lib.hid (by rw [h2]; exact ⟨rfl, rfl⟩)
    clear h1 h2 hn
    go_enter Try.func24, Try.ntmps24
    go_upto_region 2 with (at_lookup; refine wpList_lookG (X := kI) rfl _ _ _ rfl _ Try.underlying62 (zeroQ _) pQ_zero bv 4096 rfl HM.out u rfl hu _ _ HV.out.1 HV.out.2 ?_)
    go_wp2_with (at_lookup; refine wpList_lookG (X := kI) rfl _ _ _ rfl _ Try.underlying62 (zeroQ _) pQ_zero bv 4096 rfl HM.out v rfl hv _ _ HW.out.1 HW.out.2 ?_)
    go_ret2
    exact ⟨rfl, rfl⟩

set_option maxRecDepth 100000 in
set_option maxHeartbeats 4000000 in
theorem joined_yes (h : LAt w f bv be S P N K vs es) (u v : Int) (hu : I64 u) (hv : I64 v) (a b : Nat) (h1 : vs u = some a) (h2 : vs v = some b) :
    Calls Try.prog 24 #[.pointer (some ⟨f, 0, none⟩), .int .i64 u, .int .i64 v] w fun e w' => ∃ r : Bool, e = .returned (.tuple #[.bool r, .int .i64 0]) ∧ ∃ B P1 N' K' A, (r = true ↔ Anc P1 a b) ∧ ToD S P w N K a b w' B P1 N' K' A := by
  have c0 : w.cell? ⟨f, 0, none⟩ = some (.map (some bv)) := h.blk.cell 0
  have HM := Lib.hid h.verts
  have HR := Lib.hid (reaches_any w S P N K h.fs h.at_ a b (h.vS u a h1) (h.vS v b h2))
  have HV : Hid ((ptrO (vs u)).getD (.pointer none) = .pointer (some ⟨a, 0, none⟩) ∧ (ptrO (vs u)).isSome = true) := Lib.hid (by rw [h1]; exact ⟨rfl, rfl⟩)
  have HW : Hid ((ptrO (vs v)).getD (.pointer none) = .pointer (some ⟨b, 0, none⟩) ∧ (ptrO (vs v)).isSome = true) := Lib.hid (by rw [h2]; exact ⟨rfl, rfl⟩)
  clear h h1 h2
  go_enter Try.func24, Try.ntmps24
  go_upto_region 2 with (at_lookup; refine wpList_lookG (X := kI) rfl _ _ _ rfl _ Try.underlying62 (zeroQ _) pQ_zero bv 4096 rfl HM.out u rfl hu _ _ HV.out.1 HV.out.2 ?_)
  go_wp2_with (at_lookup; refine wpList_lookG (X := kI) rfl _ _ _ rfl _ Try.underlying62 (zeroQ _) pQ_zero bv 4096 rfl HM.out v rfl hv _ _ HW.out.1 HW.out.2 ?_)
  refine HR.out.mono ?_
  rintro e w1 ⟨r, rfl, hr⟩
  have HH := Lib.hid hr
  clear hr
  go_wp2_with fail
  go_ret2
  exact ⟨r, rfl, HH.out⟩

end

end Go.Proofs.Ytlhkajlkapoabaa
