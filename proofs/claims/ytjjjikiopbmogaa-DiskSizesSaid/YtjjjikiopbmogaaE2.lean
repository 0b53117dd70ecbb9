/-
  The walk of skeinlaw07's do: one call whose answer isn't looked at.
-/
import Derived.Test.YtjjjikiopbmogaaE1
import Derived.Test.YtjjjikiopbmogaaH2
import Derived.Deep.RegionHeld3
namespace Go.Proofs.Ytjjjikiopbmogaa
open Go.RowKit Go.Maps
set_option linter.unusedVariables false

/-- A call on a disk, as the laws write it: kind, number, bytes, numbers, fates. -/
structure OpD where
  kind : Int
  i : Int
  data : List Nat
  keeps : List Int
  fates : List (Int × Int)
/-- .. as a value, its three slices given. -/
def opC (o : OpD) (dv kv fv : Value) : Array Value := #[.int .i64 o.kind, .int .i64 o.i, dv, kv, fv]
/-- .. its slices read so. -/
structure OpAt (w : World) (o : OpD) (dv kv fv : Value) : Prop where
  data : RB w w.heap.size dv o.data
  keeps : RI w w.heap.size kv o.keeps
  fates : RF w w.heap.size fv o.fates
  k64 : ∀ x ∈ o.keeps, I64 x
  f64 : ∀ f ∈ o.fates, I64 f.1
/-- The slices lie apart from blocks. -/
def OpOff (S : Nat → Prop) (o : OpD) (dv kv fv : Value) : Prop := Off S dv o.data ∧ Off S kv o.keeps ∧ Off S fv o.fates
theorem OpAt.mod {S : Nat → Prop} {w w' : World} {o : OpD} {dv kv fv : Value} (h : OpAt w o dv kv fv) (hm : Mod S w w') (hn : OpOff S o dv kv fv) : OpAt w' o dv kv fv :=
  ⟨h.data.mod hm hn.1, h.keeps.mod hm hn.2.1, h.fates.mod hm hn.2.2, h.k64, h.f64⟩
theorem OpAt.below {w w' : World} {o : OpD} {dv kv fv : Value} (h : OpAt w o dv kv fv) (hb : Below w.heap.size w w') : OpAt w' o dv kv fv :=
  h.mod (Mod.of_below hb (fun _ => False)) ⟨.inr fun _ _ => id, .inr fun _ _ => id, .inr fun _ _ => id⟩
/-- What a call does to a disk. -/
def DS.run (s : DS) (o : OpD) : DS := if o.kind = 2 then s.write o.i o.data else if o.kind = 3 then s.sync else if o.kind = 4 then s.on o.keeps else if o.kind = 5 then s.planned o.fates else s
/-- Behind such a call. -/
def DoOut (w : World) (p sb mb : Nat) (pl : Option Nat) (s : DS) (o : OpD) (e : Ending) (w' : World) : Prop :=
  e = .returned (.tuple #[]) ∧ ∃ pl', DiskAt w' p sb mb pl' (s.run o) ∧ Mod (Own p sb mb) w w' ∧ ∀ b, pl' = some b → pl = some b ∨ w.heap.size ≤ b

theorem OB.rbn {w : World} {B : Nat} {v : Value} {l : List Nat} (h : OB w B v l) : RB w w.heap.size v l := h.rb (Nat.le_refl _)

set_option maxRecDepth 100000 in
set_option maxHeartbeats 2000000 in
theorem do_any (w : World) (p sb mb : Nat) (pl : Option Nat) (s : DS) (o : OpD) (dv kv fv : Value) (h : DiskAt w p sb mb pl s) (ho : OpAt w o dv kv fv) (hoff : OpOff (Own p sb mb) o dv kv fv) (hst : s.steps < 4611686018427387904) :
    Calls Try.prog 29 #[.pointer (some ⟨p, 0, none⟩), .agg (opC o dv kv fv)] w (DoOut w p sb mb pl s o) := by
  obtain ⟨A1, c1, rfl, _, _, _, _⟩ := ho.data.open_
  obtain ⟨A2, c2, rfl, _, _, _, _⟩ := ho.keeps.open_
  obtain ⟨A3, c3, rfl, _, _, _, _⟩ := ho.fates.open_
  have hbw : Below w.heap.size w (w.alloc (.cells (opC o (.slice A1 o.data.length c1) (.slice A2 o.keeps.length c2) (.slice A3 o.fates.length c3)) 37)) := (Below.refl _ _).alloc (Nat.le_refl _) _
  have hD := h.below hbw
  have hO := ho.below hbw
  have hbo : Blk (w.alloc (.cells (opC o (.slice A1 o.data.length c1) (.slice A2 o.keeps.length c2) (.slice A3 o.fates.length c3)) 37)) w.heap.size 37 (opC o (.slice A1 o.data.length c1) (.slice A2 o.keeps.length c2) (.slice A3 o.fates.length c3)) := Blk.new _ _ _
  have hlt := h.lt
  have hmm : Mod (Own p sb mb) w (w.alloc (.cells (opC o (.slice A1 o.data.length c1) (.slice A2 o.keeps.length c2) (.slice A3 o.fates.length c3)) 37)) := (Mod.refl _ _).alloc _
  obtain ⟨kind, i, data, keeps, fates⟩ := o
  unfold opC at *
  dsimp only at *
  obtain ⟨W, hW⟩ : ∃ W, W = w.alloc (.cells #[.int .i64 kind, .int .i64 i, .slice A1 data.length c1, .slice A2 keeps.length c2, .slice A3 fates.length c3] 37) := ⟨_, rfl⟩
  have hWz : W.heap.size = w.heap.size + 1 := by rw [hW]; simp
  rw [← hW] at hD hO hbo hbw hmm
  have k1 : W.cell? ⟨w.heap.size, 0, none⟩ = some (.int .i64 kind) := hbo.cell 0
  have k2 : W.cell? ⟨w.heap.size, 1, none⟩ = some (.int .i64 i) := hbo.cell 1
  have k3 : W.cell? ⟨w.heap.size, 2, none⟩ = some (.slice A1 data.length c1) := hbo.cell 2
  have k4 : W.cell? ⟨w.heap.size, 3, none⟩ = some (.slice A2 keeps.length c2) := hbo.cell 3
  have k5 : W.cell? ⟨w.heap.size, 4, none⟩ = some (.slice A3 fates.length c3) := hbo.cell 4
  have hnown : ¬ Own p sb mb w.heap.size := by rintro (e | e | e) <;> omega
  have HK : Hid (∀ W', Mod (Own p sb mb) W W' → (W'.cell? ⟨w.heap.size, 1, none⟩ = some (.int .i64 i) ∧ W'.cell? ⟨w.heap.size, 2, none⟩ = some (.slice A1 data.length c1))) :=
    fun W' hm => ⟨(hm.cell (b := w.heap.size) (by omega) hnown 1).trans k2, (hm.cell (b := w.heap.size) (by omega) hnown 2).trans k3⟩
  have HNO := Lib.hid hnown
  clear hnown
  have HD := Lib.hid hD
  have HO := Lib.hid hO
  have HBO := Lib.hid hbo
  have HMM := Lib.hid hmm
  have HOFF := Lib.hid hoff
  have HW := Lib.hid hW
  have HWZ := Lib.hid hWz
  clear hD hO hbo hmm hoff hbw hW hWz h ho
  by_cases h2 : kind = 2
  · subst h2
    go_enter Try.func29, Try.ntmps29
    go_wp2_with fail
    rw [← HW.out]
    go_region_held3 (fun w' => w'.cell? ⟨w.heap.size, 1, none⟩ = some (.int .i64 i) ∧ w'.cell? ⟨w.heap.size, 2, none⟩ = some (.slice A1 data.length c1))
      (first | exact ⟨k2, k3⟩ | exact HK.out _ (Mod.of_below HCB.out _) | exact HK.out _ ((Mod.of_below HCB.out _).trans' HM2.out))
      (first
        | (go_at_call 30; refine (copy_any _ data _ (by exact HO.out.data)).mono ?_; rintro e W1 ⟨v1, rfl, ho1, hb1⟩; have HO1 := Lib.hid ho1; have HCB : Hid (Below W.heap.size W W1) := ⟨hb1.os, hb1.tape, hb1.output, hb1.size, hb1.block⟩; clear ho1 hb1)
        | (go_at_call 27; refine (Write_any _ p sb mb pl s i _ data (by exact HD.out.below HCB.out) hst (by exact HO1.out.rbn) (.inr (fun b e => by have := HO1.out.lt b e; have h3 : W.heap.size = _ := HWZ.out; have h4 : W.drew.heap.size = W.heap.size := rfl; omega))).mono ?_; rintro e W2 ⟨rfl, hd2, hm2⟩; have HD2 := Lib.hid hd2; have HM2 := Lib.hid hm2; clear hd2 hm2))
    go_wp2_with fail
    go_end0
    exact ⟨rfl, pl, HD2.out, (HMM.out.trans' (Mod.of_below HCB.out _)).trans' HM2.out, fun b hb => .inl hb⟩
  · have g2 : (kind == 2) = false := by simpa using h2
    by_cases h3 : kind = 3
    · subst h3
      go_enter Try.func29, Try.ntmps29
      go_wp2_with fail
      rw [← HW.out]
      refine (Sync_any _ p sb mb pl s HD.out hst).mono ?_
      rintro e W2 ⟨rfl, hd2, hm2⟩
      have HD2 := Lib.hid hd2
      have HM2 := Lib.hid hm2
      clear hd2 hm2
      go_wp2_with fail
      go_end0
      exact ⟨rfl, pl, HD2.out, HMM.out.trans' HM2.out, fun b hb => .inl hb⟩
    · have g3 : (kind == 3) = false := by simpa using h3
      by_cases h4 : kind = 4
      · subst h4
        go_enter Try.func29, Try.ntmps29
        go_wp2_with fail
        rw [← HW.out]
        refine (On_any _ p sb mb pl s _ keeps HD.out HO.out.keeps HO.out.k64 (HOFF.out.2.1.mono (fun k h => .inr (.inl h)))).mono ?_
        rintro e W2 ⟨rfl, hd2, hm2⟩
        have HD2 := Lib.hid hd2
        have HM2 := Lib.hid hm2
        clear hd2 hm2
        go_wp2_with fail
        go_end0
        exact ⟨rfl, pl, HD2.out, HMM.out.trans' HM2.out, fun b hb => .inl hb⟩
      · have g4 : (kind == 4) = false := by simpa using h4
        by_cases h5 : kind = 5
        · subst h5
          go_enter Try.func29, Try.ntmps29
          go_wp2_with fail
          rw [← HW.out]
          refine (Plan_any _ p sb mb pl s _ fates HD.out HO.out.fates HO.out.f64 (HOFF.out.2.2.mono (fun k h => .inl h)) hst).mono ?_
          rintro e W2 ⟨rfl, hd2, hm2⟩
          have HD2 := Lib.hid hd2
          have HM2 := Lib.hid hm2
          clear hd2 hm2
          go_wp2_with fail
          go_end0
          exact ⟨rfl, some W.heap.size, HD2.out, HMM.out.trans' (HM2.out.mono (fun k _ e => .inl e)), fun b hb => .inr (by injection hb with hb; have := HWZ.out; omega)⟩
        · have g5 : (kind == 5) = false := by simpa using h5
          have hr : s.run ⟨kind, i, data, keeps, fates⟩ = s := by unfold DS.run; dsimp only; rw [if_neg h2, if_neg h3, if_neg h4, if_neg h5]
          have HR := Lib.hid hr
          clear hr h2 h3 h4 h5
          go_enter Try.func29, Try.ntmps29
          go_wp2_with fail
          rw [← HW.out]
          go_end0
          exact ⟨rfl, pl, by rw [HR.out]; exact HD.out, HMM.out, fun b hb => .inl hb⟩
end Go.Proofs.Ytjjjikiopbmogaa
