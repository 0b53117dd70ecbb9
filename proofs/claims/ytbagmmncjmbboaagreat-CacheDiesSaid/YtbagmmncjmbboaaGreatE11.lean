/-
  A disk without a plan; what a call on a disk keeps.
-/
import Derived.Test.YtbagmmncjmbboaaGreatD11
import Derived.Lib.SlBytesConst
namespace Go.Proofs.YtbagmmncjmbboaaGreat
open Go.RowKit Go.Maps
set_option linter.unusedVariables false

theorem DiskAt.alloc {w : World} {p sb mb : Nat} {pl : Option Nat} {s : DS} (h : DiskAt w p sb mb pl s) (o : Obj) : DiskAt (w.alloc o) p sb mb pl s := h.below ((Below.refl _ _).alloc (Nat.le_refl _) _)

/-- A disk without a plan, its power on. -/
structure Clean (s : DS) : Prop where
  plan : ∀ k, s.plan k = 0
  off : s.off = false

theorem Clean.fate {s : DS} (h : Clean s) : s.fate = 0 := h.plan _

theorem Clean.code {s : DS} (h : Clean s) : s.code = 0 := by unfold DS.code; rw [h.fate]; rfl

theorem Clean.write {s : DS} (h : Clean s) {i : Int} {l : List Nat} (hi : s.isSec i = true) (hl : l.length ≤ 512) : s.writeE i l = 0 ∧ s.write i l = DS.put i (pad l) s.tick := by
  have hn : ¬ 512 < l.length := by omega
  constructor
  · unfold DS.writeE; rw [h.off, hi, if_neg hn]; exact h.code
  · unfold DS.write DS.step; rw [h.off, hi, if_neg hn, h.fate]; rfl

theorem Clean.sync {s : DS} (h : Clean s) : s.syncE = 0 ∧ s.sync = s.tick.settle := by
  constructor
  · unfold DS.syncE; rw [h.off]; exact h.code
  · unfold DS.sync DS.step; rw [h.off, h.fate]; rfl

theorem Clean.read {s : DS} (h : Clean s) {i : Int} (hi : s.isSec i = true) : s.readE i = 0 := by unfold DS.readE; rw [h.off, hi]; rfl

/-- A constant's bytes just laid. -/
theorem RB.two (w : World) (x y : Nat) (hx : x < 256) (hy : y < 256) : RB (w.alloc (.cells #[.int .u8 (x : Int), .int .u8 (y : Int)] 5 (2, 3))) (w.alloc (.cells #[.int .u8 (x : Int), .int .u8 (y : Int)] 5 (2, 3))).heap.size (.slice (some ⟨w.heap.size, 0, none⟩) 2 2) [x, y] :=
  RB.newRow w _ w.heap.size #[.int .u8 (x : Int), .int .u8 (y : Int)] 5 [x, y] 2 rfl rfl (by simp; exact ⟨hx, hy⟩) (by simp) (by simp) (by omega) (by simp) (2, 3)

theorem RB.one (w : World) (x : Nat) (hx : x < 256) : RB (w.alloc (.cells #[.int .u8 (x : Int)] 5 (1, 2))) (w.alloc (.cells #[.int .u8 (x : Int)] 5 (1, 2))).heap.size (.slice (some ⟨w.heap.size, 0, none⟩) 1 1) [x] :=
  RB.newRow w _ w.heap.size #[.int .u8 (x : Int)] 5 [x] 1 rfl rfl (by simp; exact hx) (by simp) (by simp) (by omega) (by simp) (1, 2)

theorem run_const (W : World) (C : Array Value) (n c : Nat) : (convert 22 22 (.slice (some ⟨W.heap.size, 0, none⟩) n c)).run Tryz.prog (W.alloc (.cells C 5)) = .ok (.slice (some ⟨W.heap.size, 0, none⟩) n c) (W.alloc (.cells C 5 (C.size, C.size + 1))) :=
  Lib.run_convert_bytes_const W 22 5 C n c Tryz.underlying22 Tryz.underlying5

theorem Write_two {W : World} {p sb mb : Nat} {pl : Option Nat} {s : DS} (i : Int) (x y : Nat) (hx : x < 256) (hy : y < 256) (h : DiskAt W p sb mb pl s) (hc : Clean s) (hi : s.isSec i = true) (hst : s.steps < 1000) :
    Calls Tryz.prog 99 #[.pointer (some ⟨p, 0, none⟩), .int .i64 i, .slice (some ⟨W.heap.size, 0, none⟩) 2 2] (W.alloc (.cells #[.int .u8 (x : Int), .int .u8 (y : Int)] 5 (2, 3))) fun e w' =>
      e = .returned (.int .i64 0) ∧ DiskAt w' p sb mb pl (DS.put i (pad [x, y]) s.tick) ∧ Mod (Own p sb mb) W w' := by
  obtain ⟨e1, e2⟩ := hc.write hi (l := [x, y]) (by simp)
  refine (Write_any _ p sb mb pl s i _ [x, y] (h.alloc _) (by omega) (RB.two W x y hx hy) (.inr (fun b e => by simp [Value.ownBlock] at e; have := h.lt.1; omega))).mono ?_
  rintro e w' ⟨rfl, hd, hm⟩
  rw [e1]
  rw [e2] at hd
  exact ⟨rfl, hd, ((Mod.refl (Own p sb mb) W).alloc _).trans' hm⟩

theorem Mod.own {w W W' : World} {p sb mb : Nat} (hb : Below w.heap.size w W) (hm : Mod (Own p sb mb) W W') (h : w.heap.size ≤ p ∧ w.heap.size ≤ sb ∧ w.heap.size ≤ mb) : Below w.heap.size w W' :=
  ((Mod.of_below hb (fun k => w.heap.size ≤ k)).trans hm (fun k hk e => by rcases e with e | e | e <;> omega)).below (Nat.le_refl _) (fun _ h => h)

/-- The first two bytes of a sector as a text. -/
theorem conv_two {W : World} {b x y : Nat} {r : List Nat} (h : Secs W b [x :: y :: r]) : (convert 22 9 (.slice (some ⟨b, 0, none⟩) 2 512)).run Tryz.prog W = .ok (.string (strOf [x, y])) W := by
  have h1 := h.rb (B := W.heap.size) h.lt
  have hs := h.ok _ (List.mem_singleton.2 rfl)
  have hl := hs.1
  simp only [List.length_cons] at hl
  refine run_b2s W W.heap.size _ [x, y] ⟨fun z hz => hs.2 z (by simp at hz ⊢; omega), by simp, some ⟨b, 0, none⟩, 512, rfl, by simp, by omega, .inr ⟨b, 0, rfl, h.lt, fun j z hz => ?_⟩⟩
  obtain ⟨_, _, A, c, e, _, _, h5⟩ := h1
  injection e with e _ _
  rcases h5 with h5 | ⟨b', off, e', _, hc⟩
  · cases h5
  · rw [← e] at e'
    injection e' with e'
    injection e' with e1 e2
    subst e1 e2
    refine hc j z ?_
    match j, hz with
    | 0, hz => exact hz
    | 1, hz => exact hz
    | j + 2, hz => simp at hz

end Go.Proofs.YtbagmmncjmbboaaGreat
