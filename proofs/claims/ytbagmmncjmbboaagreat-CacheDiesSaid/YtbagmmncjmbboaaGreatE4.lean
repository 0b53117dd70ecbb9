/-
  Calls one behind the other, in plain words; the walk of skeinref01.Has; what the laws on disks share.
-/
import Derived.Test.YtbagmmncjmbboaaGreatE3
import Derived.Test.YtbagmmncjmbboaaGreatH3
namespace Go.Proofs.YtbagmmncjmbboaaGreat
open Go.RowKit Go.Maps
set_option linter.unusedVariables false

def DS.runs (s : DS) (os : List OpV) : DS := os.foldl (fun s x => s.run x.op) s

theorem runs_snoc (s : DS) (os : List OpV) (x : OpV) : s.runs (os ++ [x]) = (s.runs os).run x.op := by simp [DS.runs]

theorem step_len (s : DS) (f : DS → DS) (hf : ∀ t, (f t).safe.length = t.safe.length) : (s.step f).safe.length = s.safe.length := by
  unfold DS.step
  split
  · rfl
  · split
    · rfl
    · split
      · exact hf _
      · exact hf _

theorem step_steps (s : DS) (f : DS → DS) (hf : ∀ t, (f t).steps = t.steps) : (s.step f).steps = s.steps + 1 := by
  unfold DS.step
  split
  · rfl
  · split
    · rfl
    · split
      · exact hf _
      · exact hf _

theorem settle_len (s : DS) : s.settle.safe.length = s.safe.length := by unfold DS.settle; simp

theorem run_len (s : DS) (o : OpD) : (s.run o).safe.length = s.safe.length := by
  unfold DS.run
  split
  · unfold DS.write
    split
    · rfl
    · split
      · rfl
      · split
        · rfl
        · exact step_len s _ fun t => rfl
  · split
    · unfold DS.sync
      split
      · rfl
      · exact step_len s _ settle_len
    · split
      · unfold DS.on; simp
      · split <;> rfl

theorem run_steps (s : DS) (o : OpD) : (s.run o).steps ≤ s.steps + 1 := by
  unfold DS.run
  split
  · unfold DS.write
    split
    · omega
    · split
      · omega
      · split
        · omega
        · exact Nat.le_of_eq (step_steps s (DS.put o.i (pad o.data)) fun t => rfl)
  · split
    · unfold DS.sync
      split
      · omega
      · exact Nat.le_of_eq (step_steps s DS.settle fun t => rfl)
    · split
      · unfold DS.on; simp
      · split
        · exact Nat.le_succ _
        · exact Nat.le_succ _

theorem runs_len (s : DS) (os : List OpV) : (s.runs os).safe.length = s.safe.length := by
  unfold DS.runs
  induction os generalizing s with
  | nil => rfl
  | cons x r ih => rw [List.foldl_cons, ih, run_len]

theorem runs_steps (s : DS) (os : List OpV) : (s.runs os).steps ≤ s.steps + os.length := by
  unfold DS.runs
  induction os generalizing s with
  | nil => simp
  | cons x r ih =>
    rw [List.foldl_cons, List.length_cons]
    have := ih (s.run x.op)
    have := run_steps s x.op
    omega

/-- Sectors' bytes, out of all. -/
theorem piece_range {g : Nat → List Nat} {n i : Nat} (hg : ∀ j, j < n → (g j).length = 512) (hi : i < n) : piece ((List.range n).flatMap g) (512 * i) (512 * i + 512) = g i := by
  have h1 : ∀ m, m ≤ n → ((List.range m).flatMap g).length = m * 512 := fun m hm => flatMap_len m fun j hj => hg j (by omega)
  have h2 : (List.range n).flatMap g = (List.range (i + 1)).flatMap g ++ ((List.range n).flatMap g).drop (512 * (i + 1)) := by
    have : ∀ m, i + 1 ≤ m → m ≤ n → ∃ r, (List.range m).flatMap g = (List.range (i + 1)).flatMap g ++ r := by
      intro m hm
      induction m with
      | zero => omega
      | succ m ih =>
        intro hmn
        by_cases e : m + 1 = i + 1
        · exact ⟨[], by rw [e]; simp⟩
        · obtain ⟨r, hr⟩ := ih (by omega) (by omega)
          exact ⟨r ++ g m, by rw [flatMap_take, hr, List.append_assoc]⟩
    obtain ⟨r, hr⟩ := this n (by omega) (Nat.le_refl _)
    rw [hr]
    congr 1
    rw [List.drop_left' (by rw [h1 (i + 1) (by omega)]; omega)]
  unfold piece
  rw [h2, List.take_append_of_le_length (by rw [h1 (i + 1) (by omega)]; omega), List.take_of_length_le (by rw [h1 (i + 1) (by omega)]; omega), flatMap_take, List.drop_left' (by rw [h1 i (by omega)]; omega)]

theorem piece_safes {s : DS} (h : s.Ok) {i : Nat} (hi : i < s.safe.length) : piece s.safes (512 * i) (512 * i + 512) = s.safe.getD i [] := by
  rw [safes_eq]; exact piece_range (g := fun i => s.safe.getD i []) (fun j hj => (h.at_ hj).1) hi

theorem piece_all {s : DS} (h : s.Ok) {i : Nat} (hi : i < s.safe.length) : piece s.all (512 * i) (512 * i + 512) = s.has i :=
  piece_range (fun j hj => (h.has hj).1) hi

def hasB (V : List Int) (n : Int) : Bool := V.contains n

theorem hasB_iff {V : List Int} {n : Int} : hasB V n = true ↔ n ∈ V := by unfold hasB; exact List.contains_iff_mem

theorem hasI_any (v : Value) (V : List Int) (n : Int) (w : World) (B : Nat) (hv : RI w B v V) :
    Calls Tryz.prog 82 #[v, .int .i64 n] w fun e w' => e = .returned (.bool (hasB V n)) ∧ w = w' := by
  obtain ⟨A, c, rfl, hv1, hv2, hv3, HA⟩ := hv.open_
  clear hv
  have key : ∀ k, k ≤ V.length → (V.take k).contains n = false → ∀ (hk : k < V.length), V[k] = n → hasB V n = true := by
    intro k _ _ hk e
    rw [hasB_iff, ← e]; exact List.getElem_mem hk
  have HK := Lib.hid key
  clear key
  go_enter Tryz.func82, Tryz.ntmps82
  go_wp2_with fail
  go_loop [5] (fun i => ∃ k : Nat, k ≤ V.length ∧ i = .int .i64 k ∧ Hid ((V.take k).contains n = false)) (fun i => V.length - (intOf i).toNat)
  case atStart => exact ⟨0, Nat.zero_le _, rfl, by show (V.take 0).contains n = false; simp⟩
  case round =>
    obtain ⟨k, hk, rfl, HC⟩ := hrel
    by_cases hkl : k < V.length
    · obtain ⟨b1, o1, rfl, hb, hx⟩ := HA.out k hkl
      have hx' := cellI hx
      have htk : V.take (k + 1) = V.take k ++ [V[k]] := List.take_succ_eq_append_getElem hkl
      have HTK := Lib.hid htk
      clear hx htk
      by_cases e : V[k] = n
      · have hr := HK.out k hk HC.out hkl e
        have HR := Lib.hid hr
        clear hr
        rw [e] at hx'
        clear e
        go_wp2_with fail
        go_ret
        exact ⟨by rw [HR.out]; rfl, rfl⟩
      · obtain ⟨x, hx0⟩ : ∃ x, x = V[k] := ⟨_, rfl⟩
        rw [← hx0] at hx' HTK e
        have e2 : (x == n) = false := by simpa using e
        have hc2 : (V.take (k + 1)).contains n = false := by
          rw [HTK.out, ← Bool.not_eq_true, List.contains_iff_mem, List.mem_append, List.mem_singleton]
          have h3 := HC.out
          rw [← Bool.not_eq_true, List.contains_iff_mem] at h3
          rintro (h | h)
          · exact h3 h
          · exact e h.symm
        have HC2 := Lib.hid hc2
        clear hc2 hx0 e
        go_wp2_with fail
        go_round
        case rel => exact ⟨k + 1, by omega, by go_num, HC2⟩
        case measure => simp [intOf]; omega
    · obtain rfl : k = V.length := by omega
      have hc := HC.out
      rw [List.take_length] at hc
      have HC3 : Hid (hasB V n = false) := hc
      clear hc HC
      go_wp2_with fail
      go_ret
      exact ⟨by rw [HC3.out]; rfl, rfl⟩

theorem cellOp {w : World} {b off : Nat} {i : Nat} {x : OpV} (h : ∀ (j : Nat) u, (encOp x)[j]? = some u → w.cell? ⟨b, off + i * 5 + j, none⟩ = some u) :
    w.cell? ⟨b, off + i * 5, none⟩ = some (.int .i64 x.op.kind) ∧ w.cell? ⟨b, off + i * 5 + 1, none⟩ = some (.int .i64 x.op.i) ∧ w.cell? ⟨b, off + i * 5 + 2, none⟩ = some x.dv ∧ w.cell? ⟨b, off + i * 5 + 3, none⟩ = some x.kv ∧ w.cell? ⟨b, off + i * 5 + 4, none⟩ = some x.fv :=
  ⟨by have := h 0 _ rfl; simpa using this, h 1 _ rfl, h 2 _ rfl, h 3 _ rfl, h 4 _ rfl⟩

theorem Script.opOff {W : World} {v : Value} {os : List OpV} (h : Script W v os) {x : OpV} (hx : x ∈ os) {S : Nat → Prop} (hs : ∀ k, S k → W.heap.size ≤ k) : OpOff S x.op x.dv x.kv x.fv := by
  obtain ⟨h1, _⟩ := h.at_ x hx
  have hn : ∀ k, k < W.heap.size → ¬ S k := fun k hk e => by have := hs k e; omega
  exact ⟨h1.data.off hn, h1.keeps.off hn, h1.fates.off hn⟩

theorem OpAt.belowB {w w' : World} {o : OpD} {dv kv fv : Value} (h : OpAt w o dv kv fv) (hb : Below w.heap.size w w') : OpAt w' o dv kv fv := h.below hb

end Go.Proofs.YtbagmmncjmbboaaGreat
