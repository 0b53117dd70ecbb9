/-
  The calls of layer 14's laws, in plain words and as they come in. No walk.
-/
import Derived.Test.YtgahkloldpjnkaaMV16
namespace Go.Proofs.Ytgahkloldpjnkaa
open Go.RowKit Go.Maps
set_option linter.unusedVariables false

/-- A call of skeinlaw14's. -/
structure OpM where
  kind : Int
  n : Int
  rA : Option Addr
  rn : Nat
  rc : Nat
  refs : List Rf

instance : Inhabited OpM := ⟨⟨0, 0, none, 0, 0, []⟩⟩

def encOM (x : OpM) : List Value := [.int .i64 x.kind, .int .i64 x.n, .slice x.rA x.rn x.rc]

theorem encOM_len (x : OpM) : (encOM x).length = 3 := rfl

/-- What is known of a call that came in. -/
structure OpMAt (W : World) (x : OpM) : Prop where
  refs : RR W W.heap.size (.slice x.rA x.rn x.rc) x.refs
  n64 : I64 x.n
  r64 : ∀ r ∈ x.refs, I64 r.snd

/-- What is known of a script that came in. -/
structure ScrAt (W : World) (v : Value) (os : List OpM) : Prop where
  rk : RK encOM 3 W W.heap.size v os
  len : os.length ≤ 300000
  sum : (os.map fun x => x.refs.length).sum ≤ 400000
  at_ : ∀ x ∈ os, OpMAt W x

theorem cellOM {w : World} {b off i : Nat} {x : OpM} (h : ∀ (j : Nat) u, (encOM x)[j]? = some u → w.cell? ⟨b, off + i * 3 + j, none⟩ = some u) :
    w.cell? ⟨b, off + i * 3, none⟩ = some (.int .i64 x.kind) ∧ w.cell? ⟨b, off + i * 3 + 1, none⟩ = some (.int .i64 x.n) ∧ w.cell? ⟨b, off + i * 3 + 2, none⟩ = some (.slice x.rA x.rn x.rc) :=
  ⟨h 0 _ rfl, h 1 _ rfl, h 2 _ rfl⟩

/-- What a call does to a table. -/
def MV.run (M : MV) (o : OpM) : MV := if o.kind = 1 then M.begin else if o.kind = 2 then M.touch o.n o.refs else if o.kind = 3 then M.commit o.n else if o.kind = 4 then M.over o.n else M

def MV.runs (M : MV) (os : List OpM) : MV := os.foldl MV.run M

theorem runs_snoc (M : MV) (os : List OpM) (o : OpM) : M.runs (os ++ [o]) = (M.runs os).run o := by unfold MV.runs; rw [List.foldl_append]; rfl

theorem run_len (M : MV) (o : OpM) : (M.run o).txns.length ≤ M.txns.length + 1 := by
  unfold MV.run
  split
  · exact len_begin M
  · split
    · rw [len_touch]; omega
    · split
      · rw [len_commit]; omega
      · split
        · rw [len_over]; omega
        · omega

theorem run_bulk (M : MV) (o : OpM) : (M.run o).bulk ≤ M.bulk + o.refs.length := by
  unfold MV.run
  split
  · rw [bulk_begin]; omega
  · split
    · exact bulk_touch M o.n o.refs
    · split
      · rw [bulk_commit]; omega
      · split
        · rw [bulk_over]; omega
        · omega

theorem runs_len (M : MV) (os : List OpM) : (M.runs os).txns.length ≤ M.txns.length + os.length := by
  induction os generalizing M with
  | nil => exact Nat.le_refl _
  | cons o r ih =>
    have h1 := ih (M.run o)
    have h2 := run_len M o
    show ((M.run o).runs r).txns.length ≤ _
    rw [List.length_cons]
    omega

theorem runs_bulk (M : MV) (os : List OpM) : (M.runs os).bulk ≤ M.bulk + (os.map fun x => x.refs.length).sum := by
  induction os generalizing M with
  | nil => exact Nat.le_refl _
  | cons o r ih =>
    have h1 := ih (M.run o)
    have h2 := run_bulk M o
    show ((M.run o).runs r).bulk ≤ _
    rw [List.map_cons, List.sum_cons]
    omega

theorem sum_take (os : List OpM) (k : Nat) : ((os.take k).map fun x => x.refs.length).sum ≤ (os.map fun x => x.refs.length).sum := by
  induction os generalizing k with
  | nil => simp
  | cons o r ih =>
    cases k with
    | zero => simp
    | succ k =>
      have := ih k
      rw [List.take_succ_cons, List.map_cons, List.map_cons, List.sum_cons, List.sum_cons]
      omega

theorem new_small (last : Int) : (MV.new last).txns.length = 0 ∧ (MV.new last).bulk = 0 := ⟨rfl, rfl⟩

/-- What a law knows of its table before the k-th call. -/
theorem runs_small {last : Int} {os : List OpM} {w : World} {v : Value} (h : ScrAt w v os) (k : Nat) : ((MV.new last).runs (os.take k)).txns.length ≤ 300000 ∧ ((MV.new last).runs (os.take k)).bulk ≤ 400000 := by
  have h1 := runs_len (MV.new last) (os.take k)
  have h2 := runs_bulk (MV.new last) (os.take k)
  have h3 := sum_take os k
  have h4 := h.len
  have h5 := h.sum
  rw [(new_small last).1, List.length_take] at h1
  rw [(new_small last).2] at h2
  omega

/-! ### Rows of numbers and of yes or no -/
def encB (x : Bool) : List Value := [.bool x]

theorem encB_len (x : Bool) : (encB x).length = 1 := rfl

theorem encB_one (x : Bool) : ∀ u ∈ encB x, u.oneCell' = true := by intro u hu; simp [encB] at hu; subst hu; rfl

theorem etI64 : ElemT 55 2 1 8 := elemT_of (z := .int .i64 0) Try.underlying55 (by kernel_rfl) (by kernel_rfl) (by decide) (by decide) (by decide)

theorem etInt : ElemT 35 3 1 8 := elemT_of (z := .int .i64 0) Try.underlying35 (by kernel_rfl) (by kernel_rfl) (by decide) (by decide) (by decide)

theorem etBool : ElemT 56 4 1 1 := elemT_of (z := .bool false) Try.underlying56 (by kernel_rfl) (by kernel_rfl) (by decide) (by decide) (by decide)

theorem etR : ElemT 30 62 2 16 := elemT_of (z := .agg #[.bool false, .int .i64 0]) Try.underlying30 (by kernel_rfl) (by kernel_rfl) (by decide) (by decide) (by decide)

theorem flat_encB (l : List Bool) : l.flatMap encB = l.map Value.bool := by
  induction l with
  | nil => rfl
  | cons x r ih => rw [List.flatMap_cons, List.map_cons, ih]; rfl

/-- One cell of a row of yes or no is written. -/
theorem OK.setB {w : World} {B n c k : Nat} {A : Option Addr} {xs : List Bool} (h : OK encB 1 4 w B (.slice A n c) xs) (hk : k < xs.length) (y : Bool) :
    ∃ b, A = some ⟨b, 0, none⟩ ∧ OK encB 1 4 (w.setCell ⟨b, k, none⟩ (.bool y)) B (.slice A n c) (xs.set k y) := by
  obtain ⟨h1, h2, h3⟩ := h
  rcases h3 with ⟨e, hn⟩ | ⟨g, cap, cur, e, hgB, hg, hnc, hcm, hsz, htk⟩
  · omega
  · injection e with e1 e2 e3
    subst e1 e2 e3
    have hblk : Blk w g 4 cur := hg
    refine ⟨g, rfl, by rw [List.length_set]; exact h1, by rw [flat_encB, List.length_map, List.length_set, Nat.mul_one], .inr ⟨g, c, cur.setIfInBounds k (.bool y), by rw [List.length_set], hgB, hblk.set_ k (.bool y), by rw [List.length_set]; exact hnc, hcm, by simpa using hsz, ?_⟩⟩
    rw [flat_encB, List.length_set, Nat.mul_one] at *
    rw [Array.toList_setIfInBounds, List.take_set, htk, List.map_set]

theorem OK.unfrozen {α : Type} {enc : α → List Value} {k E : Nat} {w : World} {B b o n c : Nat} {xs : List α} (h : OK enc k E w B (.slice (some ⟨b, o, none⟩) n c) xs) (i : Nat) : w.frozen? ⟨b, i, none⟩ = false := by
  rcases h.2.2 with ⟨e, _⟩ | ⟨g, cap, cur, e, _, hg, _⟩
  · cases e
  · injection e with e1
    injection e1 with e1
    injection e1 with e1 e2
    subst e1
    exact Blk.frozen (t := E) (cs := cur) hg i

end Go.Proofs.Ytgahkloldpjnkaa
