/-
  A table in memory: what stands for the transactions; the walks of New, Last and Start.
-/
import Derived.Test.YtgahkloldpjnkaaMV3
import Derived.RegionTactic
namespace Go.Proofs.Ytgahkloldpjnkaa
open Go.RowKit Go.Maps
set_option linter.unusedVariables false

def txV (s : Int) (b : Nat) : Value := .agg #[.int .i64 s, .map (some b)]

def pT (v : Value) : Prop := ∃ x : Int × Option Nat, v = .agg #[.int .i64 x.1, .map x.2]

def pU (v : Value) : Prop := ∃ u : Unit, v = .agg #[]

def pI (v : Value) : Prop := ∃ t : Int, v = .int .i64 t

theorem pT_tx (s : Int) (b : Nat) : pT (txV s b) := ⟨(s, some b), rfl⟩

theorem pT_zero : pT (.agg #[.int .i64 0, .map none]) := ⟨(0, none), rfl⟩

theorem zeroT (w : World) : (zeroValue 80).run Try.prog w = .ok (.agg #[.int .i64 0, .map none]) w := by kernel_rfl

theorem zeroU (w : World) : (zeroValue 82).run Try.prog w = .ok (.agg #[]) w := by kernel_rfl

theorem zero2 (w : World) : (zeroValue 2).run Try.prog w = .ok (.int .i64 0) w := by kernel_rfl

/-- How many elements the committed ones have touched. -/
def MV.spent (M : MV) : Nat := (M.txns.map fun x => if x.at_ < 0 then 0 else x.refs.length).sum

/-- By an element the time of the last commit that has touched it, if one under way began ahead of that. -/
structure ComOk (M : MV) (cm : Rf → Option Int) : Prop where
  from_ : ∀ r t, cm r = some t → ∃ x ∈ M.txns, x.at_ = t ∧ r ∈ x.refs
  there : ∀ x ∈ M.txns, ∀ r ∈ x.refs, M.hor < x.at_ → ∃ t, cm r = some t ∧ x.at_ ≤ t

structure MvAt (w : World) (g lb cb : Nat) (bl : Int → Nat) (M : MV) : Prop where
  ok : M.Ok
  blk : Blk w g 60 #[.int .i64 M.last, .int .i64 (M.txns.length : Int), .map (some lb), .map (some cb)]
  live : MapG kI pT w lb 8 (fun n : Int => (M.live? n).map fun x => txV x.start (bl n))
  sets : ∀ n x, M.live? n = some x → MapG kR pU w (bl n) x.refs.length (fun r : Rf => if r ∈ x.refs then some (.agg #[]) else none)
  com : ∃ cm : Rf → Option Int, MapG kR pI w cb M.spent (fun r : Rf => (cm r).map (.int .i64)) ∧ ComOk M cm
  ap1 : lb ≠ cb
  ap2 : ∀ n x, M.live? n = some x → bl n ≠ lb ∧ bl n ≠ cb
  ap3 : ∀ n x k y, M.live? n = some x → M.live? k = some y → bl n = bl k → n = k

/-- The table's own blocks. -/
def OwnM (g lb cb : Nat) (bl : Int → Nat) (M : MV) (k : Nat) : Prop := k = g ∨ k = lb ∨ k = cb ∨ ∃ n x, M.live? n = some x ∧ bl n = k

section

variable {w w' : World} {g lb cb : Nat} {bl : Int → Nat} {M : MV}

theorem MapG.ne_blk {X : KeyX} {p : Value → Prop} {b n : Nat} {f : X.α → Option Value} {t : TypeId} {cs : Array Value} (h : MapG X p w b n f) (hb : Blk w g t cs) : b ≠ g := by
  rintro rfl
  obtain ⟨D, ⟨es, clock, h1, _⟩, _⟩ := h
  unfold Blk at hb
  rw [hb] at h1
  cases h1

theorem MvAt.ne (h : MvAt w g lb cb bl M) : lb ≠ g ∧ cb ≠ g ∧ ∀ n x, M.live? n = some x → bl n ≠ g := by
  obtain ⟨cm, h1, _⟩ := h.com
  exact ⟨h.live.ne_blk h.blk, h1.ne_blk h.blk, fun n x hx => (h.sets n x hx).ne_blk h.blk⟩

theorem MvAt.own_lt (h : MvAt w g lb cb bl M) {k : Nat} (hk : OwnM g lb cb bl M k) : k < w.heap.size := by
  obtain ⟨cm, h1, _⟩ := h.com
  rcases hk with rfl | rfl | rfl | ⟨n, x, hx, rfl⟩
  · exact h.blk.lt
  · exact h.live.lt
  · exact h1.lt
  · exact (h.sets n x hx).lt

theorem MvAt.mod {S : Nat → Prop} (h : MvAt w g lb cb bl M) (hm : Mod S w w') (hn : ∀ k, OwnM g lb cb bl M k → ¬ S k) : MvAt w' g lb cb bl M := by
  obtain ⟨cm, h1, h2⟩ := h.com
  exact ⟨h.ok, h.blk.mod hm (hn _ (.inl rfl)), h.live.mod hm (hn _ (.inr (.inl rfl))), fun n x hx => (h.sets n x hx).mod hm (hn _ (.inr (.inr (.inr ⟨n, x, hx, rfl⟩)))), ⟨cm, h1.mod hm (hn _ (.inr (.inr (.inl rfl)))), h2⟩, h.ap1, h.ap2, h.ap3⟩

theorem MvAt.below (h : MvAt w g lb cb bl M) (hb : Below w.heap.size w w') : MvAt w' g lb cb bl M := h.mod (Mod.of_below hb fun _ => False) fun _ _ => id

/-- A block of cells of another type is none of the table's. -/
theorem MvAt.ne_row (h : MvAt w g lb cb bl M) {b : Nat} {cs : Array Value} {t : TypeId} {fr : Nat × Nat} (hb : w.heap[b]? = some (.cells cs t fr)) (ht : t ≠ 60) : ¬ OwnM g lb cb bl M b := by
  obtain ⟨cm, ⟨D, ⟨es, clock, h1, _⟩, _⟩, _⟩ := h.com
  obtain ⟨D', ⟨es', clock', h2, _⟩, _⟩ := h.live
  rintro (rfl | rfl | rfl | ⟨n, x, hx, rfl⟩)
  · have := h.blk
    unfold Blk at this
    rw [this] at hb
    injection hb with hb
    injection hb with _ hb
    exact ht hb.symm
  · rw [h2] at hb; cases hb
  · rw [h1] at hb; cases hb
  · obtain ⟨D3, ⟨es3, clock3, h3, _⟩, _⟩ := h.sets n x hx
    rw [h3] at hb; cases hb

theorem MvAt.len (h : MvAt w g lb cb bl M) : M.nums.length ≤ 8 := h.ok.few

end

theorem new_at (w : World) (x : Int) (h0 : 0 ≤ x) (h1 : x ≤ 1099511627776) (T : TypeId) (hT : T = 60) :
    MvAt (((w.alloc (.map #[] 0)).alloc (.map #[] 0)).alloc (.cells #[.int .i64 x, .int .i64 0, .map (some w.heap.size), .map (some (w.heap.size + 1))] T)) (w.heap.size + 2) w.heap.size (w.heap.size + 1) (fun _ => 0) ⟨[], x⟩ := by
  subst hT
  have hn : ∀ n : Int, (⟨[], x⟩ : MV).live? n = none := fun n => by unfold MV.live?; simp
  have hb1 : Below (w.alloc (.map #[] 0)).heap.size (w.alloc (.map #[] 0)) (((w.alloc (.map #[] 0)).alloc (.map #[] 0)).alloc (.cells #[.int .i64 x, .int .i64 0, .map (some w.heap.size), .map (some (w.heap.size + 1))] 60)) := ((Below.refl _ _).alloc (Nat.le_refl _) _).alloc (by simp) _
  have hb2 : Below ((w.alloc (.map #[] 0)).alloc (.map #[] 0)).heap.size ((w.alloc (.map #[] 0)).alloc (.map #[] 0)) (((w.alloc (.map #[] 0)).alloc (.map #[] 0)).alloc (.cells #[.int .i64 x, .int .i64 0, .map (some w.heap.size), .map (some (w.heap.size + 1))] 60)) := (Below.refl _ _).alloc (Nat.le_refl _) _
  have hm1 : MapG kI pT (w.alloc (.map #[] 0)) w.heap.size 0 (fun _ => none) := MapG.made w
  have hm2 : MapG kR pI ((w.alloc (.map #[] 0)).alloc (.map #[] 0)) (w.alloc (.map #[] 0)).heap.size 0 (fun _ => none) := MapG.made _
  have hz : (w.alloc (.map #[] 0)).heap.size = w.heap.size + 1 := by simp
  refine ⟨⟨⟨h0, h1⟩, by simp, by simp, ?_, by simp⟩, ?_, ?_, ?_, ⟨fun _ => none, ?_, ⟨by simp, by simp⟩⟩, by omega, ?_, ?_⟩
  · simp [MV.nums]
  · have := Blk.new ((w.alloc (.map #[] 0)).alloc (.map #[] 0)) 60 #[.int .i64 x, .int .i64 0, .map (some w.heap.size), .map (some (w.heap.size + 1))]
    simpa using this
  · exact ((hm1.mod (Mod.of_below hb1 fun _ => False) id).mono (Nat.zero_le _)).cast fun n _ => by rw [hn]; rfl
  · intro n y hy; rw [hn] at hy; cases hy
  · rw [hz] at hm2
    exact ((hm2.mod (Mod.of_below hb2 fun _ => False) id).mono (Nat.zero_le _)).cast fun n _ => rfl
  · intro n y hy; rw [hn] at hy; cases hy
  · intro n y k z hy; rw [hn] at hy; cases hy

theorem New_any (w : World) (last : Int) (hl : I64 last) :
    Calls Try.prog 8 #[.int .i64 last] w fun e w' => e = .returned (.pointer (some ⟨w.heap.size + 2, 0, none⟩)) ∧ MvAt w' (w.heap.size + 2) w.heap.size (w.heap.size + 1) (fun _ => 0) (MV.new last) ∧ Below w.heap.size w w' ∧ w'.heap.size = w.heap.size + 3 := by
  obtain ⟨h1, h2⟩ := hl
  have hmm := @run_makeMap Try.prog
  go_enter Try.func8, Try.ntmps8
  have hb : ∀ x : Int, Below w.heap.size w (((w.alloc (.map #[] 0)).alloc (.map #[] 0)).alloc (.cells #[.int .i64 x, .int .i64 0, .map (some w.heap.size), .map (some (w.heap.size + 1))] 60)) := fun x =>
    (((Below.refl _ _).alloc (Nat.le_refl _) _).alloc (by simp) _).alloc (by simp; omega) _
  have HB := Lib.hid hb
  clear hb
  go_wp2
  all_goals
    go_ret
  · refine ⟨rfl, ?_, HB.out _, by simp⟩
    have e : MV.new last = ⟨[], 0⟩ := by unfold MV.new; congr 1; omega
    rw [e]
    exact new_at w 0 (by omega) (by omega) _ rfl
  · refine ⟨rfl, ?_, HB.out _, by simp⟩
    have e : MV.new last = ⟨[], 1099511627776⟩ := by unfold MV.new; congr 1; omega
    rw [e]
    exact new_at w _ (by omega) (by omega) _ rfl
  · refine ⟨rfl, ?_, HB.out _, by simp⟩
    have e : MV.new last = ⟨[], last⟩ := by unfold MV.new; congr 1; omega
    rw [e]
    exact new_at w _ (by omega) (by omega) _ rfl

theorem Last_any (w : World) (g lb cb : Nat) (bl : Int → Nat) (M : MV) (h : MvAt w g lb cb bl M) :
    Calls Try.prog 13 #[.pointer (some ⟨g, 0, none⟩)] w fun e w' => e = .returned (.int .i64 M.last) ∧ w' = w := by
  have a0 : w.cell? ⟨g, 0, none⟩ = some (.int .i64 M.last) := h.blk.cell 0
  clear h
  go_enter Try.func13, Try.ntmps13
  go_wp2
  go_ret
  exact ⟨rfl, rfl⟩

end Go.Proofs.Ytgahkloldpjnkaa
