/-
  skeinref07's disk: rows of spots; the walks of has and Read.
-/
import Derived.Test.YtdghanhpeekbhaaF1
import Derived.Test.YtdghanhpeekbhaaSP
namespace Go.Proofs.Ytdghanhpeekbhaa
open Go.RowKit Go.Maps
set_option linter.unusedVariables false

theorem OK.empty {α : Type} {enc : α → List Value} {k : Nat} {E : TypeId} {w : World} {B : Nat} (hB : B ≤ w.heap.size) : OK enc k E (w.alloc (.cells #[] E)) B (.slice (some ⟨w.heap.size, 0, none⟩) 0 0) [] :=
  ⟨by simp, by simp, .inr ⟨w.heap.size, 0, #[], rfl, hB, Blk.new _ _ _, Nat.le_refl _, by simp [maxLen], by simp, by simp⟩⟩
/-- A spot in memory: its safe slice, its pending one, is it pending. -/
structure Spt where
  sa : Option Addr × Nat × Nat
  nw : Option Addr × Nat × Nat
  lo : Bool
def slW (x : Option Addr × Nat × Nat) : Value := .slice x.1 x.2.1 x.2.2
def encSp (x : Spt) : List Value := [.slice x.sa.1 x.sa.2.1 x.sa.2.2, .slice x.nw.1 x.nw.2.1 x.nw.2.2, .bool x.lo]
theorem encSp_len (x) : (encSp x).length = 3 := rfl
theorem encSp_one (x) : ∀ u ∈ encSp x, u.oneCell' = true := by intro u hu; simp [encSp] at hu; rcases hu with rfl | rfl | rfl <;> rfl
/-- .. its slices read so, in memory from B on. -/
structure SptAt (w : World) (B : Nat) (x : Spt) (f : List Nat × Option (List Nat)) : Prop where
  safe : OB w B (slW x.sa) f.1
  lo : x.lo = f.2.isSome
  now : ∀ l, f.2 = some l → OB w B (slW x.nw) l
/-- A row of spots. -/
structure SpRow (w : World) (B : Nat) (v : Value) (xs : List Spt) (f : Nat → List Nat × Option (List Nat)) : Prop where
  row : OK encSp 3 87 w B v xs
  at_ : ∀ (i : Nat) x, xs[i]? = some x → SptAt w B x (f i)
section
variable {w w' : World} {B B' : Nat} {v : Value} {xs : List Spt} {x : Spt} {g : List Nat × Option (List Nat)} {f : Nat → List Nat × Option (List Nat)}
theorem SptAt.mod {S : Nat → Prop} (h : SptAt w B x g) (hm : Mod S w w') (hs : ∀ k, B ≤ k → k < w.heap.size → ¬ S k) : SptAt w' B x g :=
  ⟨h.safe.mod hm (fun b hb => hs b (h.safe.lt b hb).1 (h.safe.lt b hb).2), h.lo, fun l hl => (h.now l hl).mod hm (fun b hb => hs b ((h.now l hl).lt b hb).1 ((h.now l hl).lt b hb).2)⟩
theorem SptAt.below (h : SptAt w B x g) (hb : Below w.heap.size w w') : SptAt w' B x g := ⟨h.safe.below hb, h.lo, fun l hl => (h.now l hl).below hb⟩
theorem SptAt.base (h : SptAt w B x g) (hB : B' ≤ B) : SptAt w B' x g := ⟨h.safe.base hB, h.lo, fun l hl => (h.now l hl).base hB⟩
theorem SpRow.mod {S : Nat → Prop} (h : SpRow w B v xs f) (hm : Mod S w w') (hs : ∀ k, B ≤ k → k < w.heap.size → ¬ S k) : SpRow w' B v xs f :=
  ⟨h.row.mod hm (fun b hb => hs b (h.row.lt b hb).1 (h.row.lt b hb).2), fun i x hx => (h.at_ i x hx).mod hm hs⟩
theorem SpRow.below (h : SpRow w B v xs f) (hb : Below w.heap.size w w') : SpRow w' B v xs f := ⟨h.row.below hb, fun i x hx => (h.at_ i x hx).below hb⟩
theorem SpRow.base (h : SpRow w B v xs f) (hB : B' ≤ B) : SpRow w B' v xs f := ⟨h.row.base hB, fun i x hx => (h.at_ i x hx).base hB⟩
theorem SpRow.nil (w : World) (B : Nat) : SpRow w B (.slice none 0 0) [] f := ⟨OK.nil _ _, fun i x hx => by simp at hx⟩
theorem SpRow.made {w : World} (hB : B ≤ w.heap.size) : SpRow (w.alloc (.cells #[] 87)) B (.slice (some ⟨w.heap.size, 0, none⟩) 0 0) [] f :=
  ⟨OK.empty hB, fun i x hx => by simp at hx⟩
/-- A row's block and a text's are never one. -/
theorem ob_ne {u : Value} {l : List Nat} (h : OK encSp 3 87 w B v xs) (h' : OB w B' u l) : ∀ b, u.ownBlock = some b → ¬ some b = v.ownBlock := by
  intro b hb e
  rcases h.2.2 with ⟨rfl, _⟩ | ⟨g, cap, cur, rfl, hbg, hg, _⟩
  · cases e
  · rcases h'.2.2.2 with ⟨rfl, _⟩ | ⟨g', cap', cur', rfl, hbg', hg', _⟩
    · cases hb
    · have e1 : g' = b := by injection hb
      have e2 : b = g := by injection e
      rw [e1, e2, hg] at hg'
      injection hg' with hg'
      injection hg' with _ hg'
      exact absurd hg' (by decide)
theorem SpRow.snoc {w4 : World} {v4 : Value} {y : Spt} (h : SpRow w B v xs f) (hy : SptAt w B y (f xs.length)) (k1 : OK encSp 3 87 w4 B v4 (xs ++ [y])) (hg : Mod (fun q => some q = v.ownBlock) w w4) : SpRow w4 B v4 (xs ++ [y]) f := by
  have hmod : ∀ {x : Spt} {g}, SptAt w B x g → SptAt w4 B x g := fun hx => ⟨hx.safe.mod hg (ob_ne h.row hx.safe), hx.lo, fun l hl => (hx.now l hl).mod hg (ob_ne h.row (hx.now l hl))⟩
  refine ⟨k1, fun i x hx => ?_⟩
  by_cases hi : i < xs.length
  · rw [List.getElem?_append_left hi] at hx
    exact hmod (h.at_ i x hx)
  · rw [List.getElem?_append_right (by omega)] at hx
    have h0 : i - xs.length = 0 := by
      have := (List.getElem?_eq_some_iff.1 hx).1
      simp at this; omega
    rw [h0] at hx
    simp at hx
    subst hx
    have hi' : i = xs.length := by omega
    subst hi'
    exact hmod hy
theorem SpRow.open_ (h : SpRow w B v xs f) : ∃ A c, v = .slice A xs.length c ∧ Hid (∀ i, i < xs.length → ∃ b o, A = some ⟨b, o, none⟩ ∧ b < w.heap.size ∧ ∃ x : Spt, xs[i]? = some x ∧ w.cell? ⟨b, o + i * 3, none⟩ = some (.slice x.sa.1 x.sa.2.1 x.sa.2.2) ∧ w.cell? ⟨b, o + i * 3 + 1, none⟩ = some (.slice x.nw.1 x.nw.2.1 x.nw.2.2) ∧ w.cell? ⟨b, o + i * 3 + 2, none⟩ = some (.bool x.lo) ∧ SptAt w B x (f i)) := by
  obtain ⟨A, c, e, _, _, _, HA⟩ := (h.row.rk encSp_len (Nat.le_refl _)).open_
  refine ⟨A, c, e, Lib.hid fun i hi => ?_⟩
  obtain ⟨b, o, e1, hb, hc⟩ := HA.out i hi
  have h0 := hc 0 _ rfl
  exact ⟨b, o, e1, hb, xs[i], List.getElem?_eq_getElem hi, by simpa using h0, hc 1 _ rfl, hc 2 _ rfl, h.at_ i _ (List.getElem?_eq_getElem hi)⟩
end
/-- What a spot has. -/
def hasL (g : List Nat × Option (List Nat)) : List Nat := g.2.getD g.1
theorem has_at (w : World) (B : Nat) (a1 a2 : Option Addr) (n1 n2 c1 c2 : Nat) (lo : Bool) (g : List Nat × Option (List Nat)) (h : SptAt w B ⟨(a1, n1, c1), (a2, n2, c2), lo⟩ g) :
    Calls Try.prog 75 #[.agg #[.slice a1 n1 c1, .slice a2 n2 c2, .bool lo]] w fun e w' => ∃ y : Option Addr × Nat × Nat, e = .returned (.slice y.1 y.2.1 y.2.2) ∧ OB w' B (slW y) (hasL g) ∧ Below w.heap.size w w' := by
  have H := Lib.hid h
  have hlo := h.lo
  dsimp only at hlo
  have hb : Below w.heap.size w (w.alloc (.cells #[.slice a1 n1 c1, .slice a2 n2 c2, .bool lo] 87)) := (Below.refl _ _).alloc (Nat.le_refl _) _
  have HB := Lib.hid hb
  have HLO := Lib.hid hlo
  clear h hlo hb
  cases lo with
  | true =>
    go_enter Try.func75, Try.ntmps75
    go_wp2_with fail
    go_ret
    obtain ⟨l, hl⟩ := Option.isSome_iff_exists.1 HLO.out.symm
    exact ⟨(a2, n2, c2), rfl, by rw [show hasL g = l by rw [hasL, hl]; rfl]; exact (H.out.now l hl).below HB.out, HB.out⟩
  | false =>
    go_enter Try.func75, Try.ntmps75
    go_wp2_with fail
    go_ret
    have hn : g.2 = none := by have := HLO.out; cases h : g.2 with | none => rfl | some l => rw [h] at this; cases this
    exact ⟨(a1, n1, c1), rfl, by rw [show hasL g = g.1 by rw [hasL, hn]; rfl]; exact H.out.safe.below HB.out, HB.out⟩
end Go.Proofs.Ytdghanhpeekbhaa
