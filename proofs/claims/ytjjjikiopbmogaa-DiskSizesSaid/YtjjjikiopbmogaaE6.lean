/-
  The walk of DiskSafe.
-/
import Derived.Test.YtjjjikiopbmogaaE5
namespace Go.Proofs.Ytjjjikiopbmogaa
open Go.RowKit Go.Maps
set_option linter.unusedVariables false

/-- A disk in state s, nothing turned since the world B but the disk's blocks. -/
structure Live (B : World) (p sb mb : Nat) (wr : World) (s : DS) : Prop where
  disk : ∃ pl, DiskAt wr p sb mb pl s
  mod : Mod (Own p sb mb) B wr
theorem Live.step {B : World} {p sb mb : Nat} {s : DS} {wr w' : World} {pl : Option Nat} {ob : Obj} {o : OpD} {e : Ending} (hm : Mod (Own p sb mb) B wr) (hd : DoOut (wr.alloc ob) p sb mb pl s o e w') :
    e = .returned (.tuple #[]) ∧ Live B p sb mb w' (s.run o) := by
  obtain ⟨he, pl', h1, h2, h3⟩ := hd
  exact ⟨he, ⟨pl', h1⟩, (hm.alloc ob).trans' h2⟩
theorem Live.below {B wr wr' : World} {p sb mb : Nat} {s : DS} (h : Live B p sb mb wr s) (hb : Below wr.heap.size wr wr') : Live B p sb mb wr' s := by
  obtain ⟨⟨pl, h1⟩, h2⟩ := h
  exact ⟨⟨pl, h1.below hb⟩, h2.trans (Mod.of_below hb (Own p sb mb)) (fun _ _ e => e)⟩
theorem Script.offB {W : World} {v : Value} {os : List OpV} (h : Script W v os) {p sb mb : Nat} (hown : W.heap.size ≤ p ∧ W.heap.size ≤ sb ∧ W.heap.size ≤ mb) {x : OpV} (hx : x ∈ os) : OpOff (Own p sb mb) x.op x.dv x.kv x.fv :=
  h.opOff hx fun j e => by rcases e with e | e | e <;> omega
theorem runs_steps0 {n : Int} {os : List OpV} (hol : os.length ≤ 1000000000000000) (k : Nat) : ((DS.new n).runs (os.take k)).steps ≤ 1000000000000000 := by
  have h1 := runs_steps (DS.new n) (os.take k)
  have h2 : (os.take k).length ≤ os.length := by rw [List.length_take]; omega
  have h3 : (DS.new n).steps = 0 := rfl
  omega

/-- Sector i is safe with L, nothing pending for it. -/
structure Kept (s : DS) (i : Nat) (L : List Nat) : Prop where
  lt : i < s.safe.length
  safe : s.safe.getD i [] = L
  pend : s.pend (i : Int) = none
theorem Kept.has {s : DS} {i : Nat} {L : List Nat} (h : Kept s i L) : s.has i = L := by unfold DS.has; rw [h.pend]; exact h.safe
theorem Kept.tick {s : DS} {i : Nat} {L : List Nat} (h : Kept s i L) : Kept s.tick i L := ⟨h.lt, h.safe, h.pend⟩
theorem Kept.offed {s : DS} {i : Nat} {L : List Nat} (h : Kept s i L) (b : Bool) : Kept { s with off := b } i L := ⟨h.lt, h.safe, h.pend⟩
theorem Kept.step {s : DS} {i : Nat} {L : List Nat} (h : Kept s i L) (f : DS → DS) (hf : Kept (f s.tick) i L) : Kept (s.step f) i L := by
  unfold DS.step
  split
  · exact h.tick
  · split
    · exact h.tick.offed true
    · split
      · exact hf.offed true
      · exact hf
theorem settle_kept {s : DS} {i : Nat} (hi : i < s.safe.length) : Kept s.settle i (s.has i) := by
  refine ⟨by rw [settle_len]; exact hi, ?_, rfl⟩
  unfold DS.settle
  simp [List.getD, hi]
theorem Kept.settle {s : DS} {i : Nat} {L : List Nat} (h : Kept s i L) : Kept s.settle i L := by
  have := settle_kept h.lt
  rw [h.has] at this
  exact this
theorem Kept.on {s : DS} {i : Nat} {L : List Nat} (h : Kept s i L) (ks : List Int) : Kept (s.on ks) i L := by
  refine ⟨by rw [on_len]; exact h.lt, ?_, rfl⟩
  have := on_has (ks := ks) h.lt
  rw [h.has, h.safe] at this
  have e : (s.on ks).has i = (s.on ks).safe.getD i [] := rfl
  rw [← e, this]
  split <;> rfl
theorem Kept.run {s : DS} {i : Nat} {L : List Nat} (h : Kept s i L) (o : OpD) (hn : ¬ (o.kind = 2 ∧ o.i = (i : Int))) : Kept (s.run o) i L := by
  unfold DS.run
  split
  · rename_i hk
    have hi : o.i ≠ (i : Int) := fun e => hn ⟨hk, e⟩
    unfold DS.write
    split
    · exact h
    · split
      · exact h
      · split
        · exact h
        · refine h.step _ ⟨h.lt, h.safe, ?_⟩
          show (if (i : Int) = o.i then _ else s.pend (i : Int)) = none
          rw [if_neg (Ne.symm hi)]
          exact h.pend
  · split
    · unfold DS.sync
      split
      · exact h
      · exact h.step _ h.tick.settle
    · split
      · exact h.on _
      · split
        · exact ⟨h.lt, h.safe, h.pend⟩
        · exact h
/-- A write and a sync that answered OK. -/
theorem code_zero {s : DS} (h : s.code = 0) : s.fate ≠ 1 ∧ s.fate ≠ 2 ∧ s.fate ≠ 3 := by
  unfold DS.code at h
  split at h
  · cases h
  · split at h
    · cases h
    · split at h
      · cases h
      · rename_i a b c; exact ⟨a, b, c⟩
theorem step_ok {s : DS} (h : s.code = 0) (f : DS → DS) : s.step f = f s.tick := by
  obtain ⟨a, b, c⟩ := code_zero h
  unfold DS.step
  rw [if_neg a, if_neg b, if_neg c]
theorem written {s : DS} {i : Int} {l : List Nat} (h : s.writeE i l = 0) : ∃ k : Nat, i = (k : Int) ∧ k < s.safe.length ∧ l.length ≤ 512 ∧ s.write i l = DS.put i (pad l) s.tick := by
  unfold DS.writeE at h
  split at h
  · cases h
  · split at h
    · cases h
    · split at h
      · cases h
      · rename_i h1 h2 h3
        have h2' : s.isSec i = true := by simpa using h2
        have h4 : 0 ≤ i ∧ i < s.safe.length := by simpa [DS.isSec] using h2'
        refine ⟨i.toNat, by omega, by omega, by omega, ?_⟩
        unfold DS.write
        rw [if_neg h1, if_neg h2, if_neg h3]
        exact step_ok h _
theorem synced {s : DS} (h : s.syncE = 0) : s.off = false ∧ s.sync = s.tick.settle := by
  unfold DS.syncE at h
  split at h
  · cases h
  · rename_i h1
    refine ⟨by simpa using h1, ?_⟩
    unfold DS.sync
    rw [if_neg h1]
    exact step_ok h _
theorem syncE_is (s : DS) : s.syncE = 0 ∨ s.syncE = 70 ∨ s.syncE = 71 := by
  unfold DS.syncE DS.code
  split
  · exact .inr (.inl rfl)
  · split
    · exact .inr (.inr rfl)
    · split
      · exact .inr (.inl rfl)
      · split
        · exact .inr (.inl rfl)
        · exact .inl rfl
theorem write_sync {s : DS} {i : Int} {l : List Nat} (h : s.writeE i l = 0) (h2 : (s.write i l).syncE = 0) : ∃ k : Nat, i = (k : Int) ∧ Kept (s.write i l).sync k (pad l) ∧ l.length ≤ 512 ∧ (s.write i l).sync.off = false := by
  obtain ⟨k, rfl, hk, hl, hw⟩ := written h
  obtain ⟨h3, h4⟩ := synced h2
  refine ⟨k, rfl, ?_, hl, ?_⟩
  · rw [h4, hw]
    have h5 := settle_kept (s := (DS.put (k : Int) (pad l) s.tick).tick) (i := k) hk
    have e : (DS.put (k : Int) (pad l) s.tick).tick.has k = pad l := by unfold DS.has DS.tick DS.put; simp
    rw [e] at h5
    exact h5
  · rw [h4]; exact h3
theorem Kept.read {s : DS} {i : Nat} {L : List Nat} (h : Kept s i L) (ho : s.off = false) : s.readE (i : Int) = 0 := by
  unfold DS.readE
  have h2 : s.isSec (i : Int) = true := by unfold DS.isSec; have := h.lt; simp; omega
  rw [ho, h2]; rfl
theorem piece_pad (l : List Nat) : piece (pad l) 0 l.length = l := by
  unfold piece pad
  rw [List.take_left']
  · rfl
  · rfl
theorem runs_new_len (n : Int) (os : List OpV) : ((DS.new n).runs os).safe.length = (DS.new n).safe.length := runs_len _ _
end Go.Proofs.Ytjjjikiopbmogaa
