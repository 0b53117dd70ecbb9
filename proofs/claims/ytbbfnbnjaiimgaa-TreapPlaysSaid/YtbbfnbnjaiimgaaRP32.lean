/-
  The calls of a script in plain words. No walk.
-/
import Derived.Test.YtbbfnbnjaiimgaaRP29
namespace Go.Proofs.Ytbbfnbnjaiimgaa
open Go.RowKit
set_option linter.unusedVariables false

/-- A call of skeinlaw15's. -/
structure OpT where
  kind : Int
  a : Int
  b : Int
  v : Int
  m : Int

instance : Inhabited OpT := ⟨⟨0, 0, 0, 0, 0⟩⟩

def encOT (x : OpT) : List Value := [.int .i64 x.kind, .int .i64 x.a, .int .i64 x.b, .int .i64 x.v, .int .u8 x.m]

theorem encOT_len (x : OpT) : (encOT x).length = 5 := rfl

/-- What is known of a call that came in. -/
structure OpTAt (x : OpT) : Prop where
  v64 : I64 x.v
  m0 : 0 ≤ x.m
  m1 : x.m < 256

/-- What is known of a script that came in. -/
structure ScrT (W : World) (v : Value) (os : List OpT) : Prop where
  rk : RK encOT 5 W W.heap.size v os
  at_ : ∀ x ∈ os, OpTAt x

theorem cellOT {w : World} {b off i : Nat} {x : OpT} (h : ∀ (j : Nat) u, (encOT x)[j]? = some u → w.cell? ⟨b, off + i * 5 + j, none⟩ = some u) :
    w.cell? ⟨b, off + i * 5, none⟩ = some (.int .i64 x.kind) ∧ w.cell? ⟨b, off + i * 5 + 1, none⟩ = some (.int .i64 x.a) ∧ w.cell? ⟨b, off + i * 5 + 2, none⟩ = some (.int .i64 x.b) ∧ w.cell? ⟨b, off + i * 5 + 3, none⟩ = some (.int .i64 x.v) ∧ w.cell? ⟨b, off + i * 5 + 4, none⟩ = some (.int .u8 x.m) :=
  ⟨h 0 _ rfl, h 1 _ rfl, h 2 _ rfl, h 3 _ rfl, h 4 _ rfl⟩

def RM.runT (M : RM SV) (o : OpT) : RM SV := M.stepA o.kind o.a o.b o.v o.m

def RM.runsT (M : RM SV) (os : List OpT) : RM SV := os.foldl RM.runT M

theorem runsT_snoc (M : RM SV) (os : List OpT) (o : OpT) : M.runsT (os ++ [o]) = (M.runsT os).runT o := by unfold RM.runsT; rw [List.foldl_append]; rfl

theorem stepA_mem {M : RM SV} {kd a b n m : Int} {v : SV} (h : v ∈ (M.stepA kd a b n m).own) : v ∈ M.own ∨ v = ⟨n, m⟩ := by
  unfold RM.stepA at h
  split at h
  · unfold RM.makeA at h
    split at h
    · unfold RM.make at h; simpa using h
    · exact .inl h
  · split at h
    · unfold RM.joinA at h
      split at h
      · exact .inl h
      · exact .inl h
    · split at h
      · unfold RM.cutA at h
        split at h
        · exact .inl h
        · exact .inl h
      · split at h
        · unfold RM.setA at h
          split at h
          · exact List.mem_or_eq_of_mem_set h
          · exact .inl h
        · exact .inl h

/-- What all nodes of a script bear. -/
structure RM.Tame (M : RM SV) : Prop where
  n64 : ∀ v ∈ M.own, I64 v.n
  fit : M.Fit

theorem tame_new : (RM.new : RM SV).Tame := ⟨fun v hv => (nomatch hv), fun v hv => (nomatch hv)⟩

theorem tame_step {M : RM SV} (h : M.Tame) {o : OpT} (ho : OpTAt o) : (M.runT o).Tame := by
  refine ⟨fun v hv => ?_, fun v hv => ?_⟩
  · rcases stepA_mem hv with hv | rfl
    · exact h.n64 v hv
    · exact ho.v64
  · rcases stepA_mem hv with hv | rfl
    · exact h.fit v hv
    · exact ⟨ho.m0, by have := ho.m1; show o.m ≤ 255; omega⟩

theorem tame_runs (os : List OpT) : ∀ {M : RM SV}, M.Tame → (∀ x ∈ os, OpTAt x) → (M.runsT os).Tame := by
  induction os with
  | nil => intro M h _; exact h
  | cons o r ih => intro M h hx; exact ih (M := M.runT o) (tame_step h (hx o (by simp))) (fun x hx' => hx x (by simp [hx']))

theorem tame_take {W : World} {v : Value} {os : List OpT} (h : ScrT W v os) (k : Nat) : ((RM.new : RM SV).runsT (os.take k)).Tame := tame_runs _ tame_new fun x hx => h.at_ x (List.mem_of_mem_take hx)

/-! ### How many nodes there are -/

theorem own_makeA (M : RM SV) (v : SV) : (M.makeA v).own.length = if M.own.length < 65536 then M.own.length + 1 else M.own.length := by
  unfold RM.makeA
  by_cases h : M.own.length < 65536
  · rw [if_pos h, if_pos h]; simp [RM.make]
  · rw [if_neg h, if_neg h]

theorem own_joinA (M : RM SV) (a b : Int) : (M.joinA a b).own = M.own := by unfold RM.joinA; split <;> rfl

theorem own_cutA (M : RM SV) (a : Int) : (M.cutA a).own = M.own := by unfold RM.cutA; split <;> rfl

theorem own_setA (M : RM SV) (a : Int) (v : SV) : (M.setA a v).own.length = M.own.length := by
  unfold RM.setA
  split
  · simp [RM.set]
  · rfl

theorem own_step (M : RM SV) (o : OpT) : (M.runT o).own.length = if o.kind = 1 ∧ M.own.length < 65536 then M.own.length + 1 else M.own.length := by
  unfold RM.runT RM.stepA
  by_cases h1 : o.kind = 1
  · rw [if_pos h1, own_makeA]
    by_cases h2 : M.own.length < 65536
    · rw [if_pos h2, if_pos ⟨h1, h2⟩]
    · rw [if_neg h2, if_neg (fun h => h2 h.2)]
  · rw [if_neg h1, if_neg (show ¬ (o.kind = 1 ∧ M.own.length < 65536) from fun h => h1 h.1)]
    by_cases h2 : o.kind = 2
    · rw [if_pos h2, own_joinA]
    · rw [if_neg h2]
      by_cases h3 : o.kind = 3
      · rw [if_pos h3, own_cutA]
      · rw [if_neg h3]
        by_cases h4 : o.kind = 4
        · rw [if_pos h4, own_setA]
        · rw [if_neg h4]

def makes (os : List OpT) : Nat := os.countP fun o => o.kind = 1

theorem own_runs (os : List OpT) : ∀ M : RM SV, M.own.length ≤ 65536 → (M.runsT os).own.length = min (M.own.length + makes os) 65536 := by
  induction os with
  | nil => intro M h; simp [RM.runsT, makes]; omega
  | cons o r ih =>
    intro M h
    have h1 := own_step M o
    have h2 : (M.runT o).own.length ≤ 65536 := by rw [h1]; split <;> omega
    have h3 := ih (M.runT o) h2
    show ((M.runT o).runsT r).own.length = _
    rw [h3, h1]
    unfold makes
    rw [List.countP_cons]
    by_cases hk : o.kind = 1
    · by_cases h4 : M.own.length < 65536
      · rw [if_pos ⟨hk, h4⟩]; simp [hk]; omega
      · rw [if_neg (fun h => h4 h.2)]; simp [hk]; omega
    · rw [if_neg (fun h => hk h.1)]; simp [hk]

theorem makes_snoc (os : List OpT) (o : OpT) : makes (os ++ [o]) = makes os + if o.kind = 1 then 1 else 0 := by
  unfold makes
  rw [List.countP_append, List.countP_singleton]
  by_cases h : o.kind = 1 <;> simp [h]

theorem makes_le (os : List OpT) : makes os ≤ os.length := List.countP_le_length

end Go.Proofs.Ytbbfnbnjaiimgaa
