/-
  A rope in memory: its struct and its nodes; the walks of known, top's step facts, tell.
-/
import Derived.Test.YtlakcldgolpaiaaEP6
import Derived.StillTailTactics
import Derived.BigRegion
import Derived.Deep.RegionLaw
import Derived.Deep.RegionHeld3
import Derived.Deep.LoopGhost
import Derived.Deep.Cut
import Derived.Deep.CutRange
namespace Go.Proofs.Ytlakcldgolpaiaa
open Go.RowKit
set_option linter.unusedVariables false

theorem still_tail_at {P : Program} {id : Nat} {Q : Exit → Act → World → Prop} {a : Act} {w : World} {l : List Oper} (n : Nat) (W2 : World) (hW : W2 = w.drew) (hm : P.follows .mixedOrders = true) (hB : Region.lexTailB .any l.toArray n = true)
    (h : wpStill P l.toArray W2 (fun a' => wpList P l.toArray Q (l.drop n) a' W2) (l.take n) a) : (Code.region id l.toArray true).wp P Q a w := by
  subst hW; exact wp_region_still_tail n hm hB h

/-- The rope in block g: n nodes (the one at 0 too) in block nb. -/
structure Mem (w : World) (g B : Nat) (sv : Value) (nb n cap : Nat) (N : Nodes SV) : Prop where
  blk : Blk w g 115 #[sv, .slice (some ⟨nb, 0, none⟩) n cap]
  nodes : OK encNd 11 112 w B (.slice (some ⟨nb, 0, none⟩) n cap) (rowN N n)

section

variable {w w' : World} {g B : Nat} {sv : Value} {nb n cap : Nat} {N : Nodes SV}

theorem Mem.ne (h : Mem w g B sv nb n cap N) : g ≠ nb := h.nodes.blkNe h.blk (by decide)

theorem Mem.lt (h : Mem w g B sv nb n cap N) : g < w.heap.size ∧ nb < w.heap.size := ⟨h.blk.lt, (h.nodes.lt nb rfl).2⟩

theorem Mem.cell (h : Mem w g B sv nb n cap N) {i : Nat} (hi : i < n) (j : Nat) {u : Value} (hu : (encNd (N i))[j]? = some u) : w.cell? ⟨nb, i * 11 + j, none⟩ = some u := h.nodes.cellK encNd_len (rowN_get N hi) hu

theorem Mem.frozen (h : Mem w g B sv nb n cap N) (o : Nat) : w.frozen? ⟨nb, o, none⟩ = false := h.nodes.frozenK o

theorem Mem.set (h : Mem w g B sv nb n cap N) {i j : Nat} (hi : i < n) (hj : j < 11) (x' : Nd SV) (u : Value) (he : encNd x' = (encNd (N i)).set j u) : Mem (w.setCell ⟨nb, i * 11 + j, none⟩ u) g B sv nb n cap (upd N i x') := by
  refine ⟨h.blk.far (p := ⟨nb, i * 11 + j, none⟩) h.ne u, ?_⟩
  have := h.nodes.setK encNd_len (rowN_get N hi) hj he
  rw [rowN_set N x' hi] at this
  exact this

theorem Mem.below (h : Mem w g B sv nb n cap N) (hb : Below w.heap.size w w') : Mem w' g B sv nb n cap N := ⟨h.blk.below hb h.blk.lt, h.nodes.below hb⟩

theorem Mem.drew (h : Mem w g B sv nb n cap N) : Mem w.drew g B sv nb n cap N := ⟨h.blk.drew, h.nodes.drew⟩

theorem Mem.drewN (h : Mem w g B sv nb n cap N) (k : Nat) : Mem (w.drewN k) g B sv nb n cap N := ⟨h.blk.drewN k, h.nodes.drewN k⟩

/-- What is stored into a node. -/
theorem Mem.store (h : Mem w g B sv nb n cap N) {W : World} {i : Nat} (hi : i < n) (j : Nat) (hj : j < 11) (x' : Nd SV) (u : Value) (he : encNd x' = (encNd (N i)).set j u) (hm : Mod (fun k => k = nb) W w) : Mem (w.setCell ⟨nb, i * 11 + j, none⟩ u) g B sv nb n cap (upd N i x') ∧ Mod (fun k => k = nb) W (w.setCell ⟨nb, i * 11 + j, none⟩ u) :=
  ⟨h.set hi hj x' u he, hm.setCell (p := ⟨nb, i * 11 + j, none⟩) (fun _ => rfl) u⟩

end

theorem upd_upd {V : Type} (N : Nodes V) (i : Nat) (x y : Nd V) : upd (upd N i x) i y = upd N i y := by
  funext k; unfold upd; split <;> rfl

/-- The cells of a node, as a walk wants them. -/
theorem Mem.cells {w : World} {g B : Nat} {sv : Value} {nb n cap : Nat} {N : Nodes SV} (h : Mem w g B sv nb n cap N) {i : Nat} (hi : i < n) :
    w.cell? ⟨nb, i * 11, none⟩ = some (.int .i64 (N i).own.n) ∧ w.cell? ⟨nb, i * 11 + 1, none⟩ = some (.int .i64 (N i).own.m) ∧ w.cell? ⟨nb, i * 11 + 2, none⟩ = some (.int .i64 (N i).own.e) ∧ w.cell? ⟨nb, i * 11 + 3, none⟩ = some (.int .i64 (N i).sum.n) ∧ w.cell? ⟨nb, i * 11 + 4, none⟩ = some (.int .i64 (N i).sum.m) ∧ w.cell? ⟨nb, i * 11 + 5, none⟩ = some (.int .i64 (N i).sum.e) ∧
      w.cell? ⟨nb, i * 11 + 6, none⟩ = some (.int .i64 ((N i).size : Int)) ∧ w.cell? ⟨nb, i * 11 + 7, none⟩ = some (.int .u64 ((N i).rank : Int)) ∧ w.cell? ⟨nb, i * 11 + 8, none⟩ = some (.int .i64 ((N i).up : Int)) ∧ w.cell? ⟨nb, i * 11 + 9, none⟩ = some (.int .i64 ((N i).left : Int)) ∧ w.cell? ⟨nb, i * 11 + 10, none⟩ = some (.int .i64 ((N i).right : Int)) :=
  ⟨h.cell hi 0 rfl, h.cell hi 1 rfl, h.cell hi 2 rfl, h.cell hi 3 rfl, h.cell hi 4 rfl, h.cell hi 5 rfl, h.cell hi 6 rfl, h.cell hi 7 rfl, h.cell hi 8 rfl, h.cell hi 9 rfl, h.cell hi 10 rfl⟩

set_option maxRecDepth 100000 in
set_option maxHeartbeats 1000000 in
theorem known_any (w : World) (g : Nat) (sv : Value) (nb n cap : Nat) (hb : Blk w g 115 #[sv, .slice (some ⟨nb, 0, none⟩) n cap]) (a : Int) :
    Calls Try.prog 70 #[.pointer (some ⟨g, 0, none⟩), .int .i64 a] w fun e w' => e = .returned (.bool (decide (0 < a ∧ a < (n : Int)))) ∧ w' = w := by
  have b1 : w.cell? ⟨g, 1, none⟩ = _ := hb.cell 1
  clear hb
  by_cases h0 : 0 < a
  · have d0 : decide (0 < a) = true := by simpa using h0
    by_cases h1 : a < (n : Int)
    · have d1 : decide (a < (n : Int)) = true := by simpa using h1
      have e : decide (0 < a ∧ a < (n : Int)) = true := by simp; exact ⟨h0, h1⟩
      rw [e]
      go_enter Try.func70, Try.ntmps70
      go_wp2_with fail
      go_ret
      exact ⟨rfl, rfl⟩
    · have d1 : decide (a < (n : Int)) = false := by simpa using h1
      have e : decide (0 < a ∧ a < (n : Int)) = false := by simp; intro; omega
      rw [e]
      go_enter Try.func70, Try.ntmps70
      go_wp2_with fail
      go_ret
      exact ⟨rfl, rfl⟩
  · have d0 : decide (0 < a) = false := by simpa using h0
    have e : decide (0 < a ∧ a < (n : Int)) = false := by simp; intro; omega
    rw [e]
    go_enter Try.func70, Try.ntmps70
    go_wp2_with fail
    go_ret
    exact ⟨rfl, rfl⟩

/-- The node at the top: its way up. -/
theorem topP_cons (c : Nat) (f : Up) (fs : List Up) : topP c (f :: fs) = topP f.p fs := rfl

set_option maxRecDepth 100000 in
set_option maxHeartbeats 1000000 in
theorem top_any (w : World) (g B : Nat) (sv : Value) (nb n cap : Nat) (N : Nodes SV) (hM : Mem w g B sv nb n cap N) (hn : n ≤ 65537) (a : Nat) (fs : List Up) (ha : a < n) (hz : Zip N a fs) (hu : (N a).up = nextP fs) (hp : ∀ i ∈ around fs, 0 < i ∧ i < n) :
    Calls Try.prog 71 #[.pointer (some ⟨g, 0, none⟩), .int .i64 (a : Int)] w fun e w' => e = .returned (.int .i64 (topP a fs : Nat)) ∧ w' = w := by
  have b1 : w.cell? ⟨g, 1, none⟩ = _ := hM.blk.cell 1
  have HM := Lib.hid hM
  obtain ⟨r, hr⟩ : ∃ r, r = topP a fs := ⟨_, rfl⟩
  rw [← hr]
  have HST : Hid (Zip N a fs ∧ (N a).up = nextP fs ∧ (∀ i ∈ around fs, 0 < i ∧ i < n) ∧ topP a fs = r) := Lib.hid ⟨hz, hu, hp, hr.symm⟩
  clear hM hz hu hp hr
  go_enter Try.func71, Try.ntmps71
  go_wp2_with fail
  go_loopg [1] fs.length (fun k s1 wr => w = wr ∧ ∃ (c : Nat) (gs : List Up), k = gs.length ∧ s1 = .int .i64 (c : Int) ∧ c < n ∧ Hid (Zip N c gs ∧ (N c).up = nextP gs ∧ (∀ i ∈ around gs, 0 < i ∧ i < n) ∧ topP c gs = r))
  case atStart => exact ⟨rfl, a, fs, rfl, rfl, ha, HST⟩
  case round =>
    obtain ⟨rfl, c, gs, rfl, rfl, hc, HZ⟩ := hrel
    obtain ⟨-, -, -, -, -, -, -, -, u6, -, -⟩ := HM.out.cells hc
    cases gs with
    | nil =>
      have hup : (N c).up = 0 := HZ.out.2.1
      have htop : c = r := HZ.out.2.2.2
      rw [hup] at u6
      subst htop
      clear hup HST HZ
      go_wp2_with fail
      go_ret
      exact ⟨rfl, rfl⟩
    | cons f gs =>
      have hup : (N c).up = f.p := HZ.out.2.1
      have hf := HZ.out.2.2.1 f.p (by simp [around])
      obtain ⟨p, hp⟩ : ∃ p, p = f.p := ⟨_, rfl⟩
      have HP := Lib.hid hp
      rw [hup, ← hp] at u6
      rw [← hp] at hf
      have hp0 : ((p : Int) != 0) = true := by simp; omega
      clear hup hp
      go_wp2_with fail
      go_roundg gs.length
      case measure => simp
      case rel =>
        obtain ⟨g1, g2, g3, g4⟩ := HZ.out
        obtain ⟨k1, k2, k3, k4, k5⟩ := g1
        exact ⟨rfl, p, gs, rfl, rfl, hf.2, Lib.hid (by rw [HP.out]; exact ⟨k5, k4, fun i hi => g3 i (by simp [around, hi]), g4⟩)⟩

end Go.Proofs.Ytlakcldgolpaiaa
