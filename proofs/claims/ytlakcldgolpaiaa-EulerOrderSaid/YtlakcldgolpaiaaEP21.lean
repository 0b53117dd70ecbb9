/-
  The walk of Make.
-/
import Derived.Test.YtlakcldgolpaiaaEP20
import Derived.WalkLawsBesides
import Derived.Shelf.Abstract
namespace Go.Proofs.Ytlakcldgolpaiaa
open Go.RowKit
set_option linter.unusedVariables false

theorem etNd : ElemT 113 112 11 88 := elemT_of (z := .agg #[.int .i64 0, .int .i64 0, .int .i64 0, .int .i64 0, .int .i64 0, .int .i64 0, .int .i64 0, .int .u64 0, .int .i64 0, .int .i64 0, .int .i64 0]) Try.underlying113 (by kernel_rfl) (by kernel_rfl) (by decide) (by decide) (by decide)

theorem OK.setBlk {α : Type} {enc : α → List Value} {k E : Nat} {w : World} {B g : Nat} {t : TypeId} {cs : Array Value} {v : Value} {xs : List α} (h : OK enc k E w B v xs) (hb : Blk w g t cs) (hne : t ≠ E) (j : Nat) (u : Value) : OK enc k E (w.setCell ⟨g, j, none⟩ u) B v xs := by
  refine ⟨h.1, h.2.1, ?_⟩
  rcases h.2.2 with h3 | ⟨q, c, cur, e, hq, hh, r⟩
  · exact .inl h3
  · refine .inr ⟨q, c, cur, e, hq, ?_, r⟩
    have hne2 : q ≠ g := fun e => by
      subst e
      exact hb.ne_ (t' := E) (cs' := cur) hh hne rfl
    exact (Below.heap_setCell w ⟨g, j, none⟩ u q hne2).trans hh

theorem oneNd (w : World) (y : Nd SV) (t : TypeId) : ∀ (j : Nat) u, (encNd y)[j]? = some u → (w.alloc (.cells #[.int .i64 y.own.n, .int .i64 y.own.m, .int .i64 y.own.e, .int .i64 y.sum.n, .int .i64 y.sum.m, .int .i64 y.sum.e, .int .i64 (y.size : Int), .int .u64 (y.rank : Int), .int .i64 (y.up : Int), .int .i64 (y.left : Int), .int .i64 (y.right : Int)] t)).cell? ⟨w.heap.size, j, none⟩ = some u := by
  intro j u hu; rw [(Blk.new w _ _).cell j]; simpa [encNd] using hu

/-- What a made node leaves. -/
theorem make_turn {w W w6 : World} {g : Nat} {S : Nat → Prop} {M : RM SV} {B : Nat} {sv : Value} {nb cap : Nat} {N : Nodes SV} {ss : List Int} (hX : RpX W g B sv nb cap N ss M) (hS : ∀ k, (k = g ∨ k = nb ∨ (ss ≠ [] ∧ sv.ownBlock = some k)) ↔ S k) (hbW : Below w.heap.size w W) (hgw : g < w.heap.size) (hnw : nb < w.heap.size) (hfew : M.own.length < 65536) (v : SV) (rk : Nat) {v6 : Value}
    (k1 : OK encNd 11 112 w6 B v6 (rowN N (M.own.length + 1) ++ [⟨v, v, 1, rk, 0, 0, 0⟩])) (k2 : W.grownBy w6 (some nb)) (k3 : v6.ownBlock = some nb ∨ ∃ z, W.heap.size ≤ z ∧ v6.ownBlock = some z) :
    ∃ nb' cap', v6 = .slice (some ⟨nb', 0, none⟩) (M.own.length + 2) cap' ∧ w6.cell? ⟨g, 1, none⟩ = some (.slice (some ⟨nb, 0, none⟩) (M.own.length + 1) cap) ∧ w6.frozen? ⟨g, 1, none⟩ = false ∧ Turn w g S (M.make v) (w6.setCell ⟨g, 1, none⟩ v6) := by
  obtain ⟨nb', hnb⟩ : ∃ z, v6.ownBlock = some z := by
    rcases k3 with h | ⟨z, -, h⟩
    · exact ⟨_, h⟩
    · exact ⟨z, h⟩
  have hgne := hX.mem.ne
  have hbg : Blk w6 g 115 _ := hX.mem.blk.grown k2 (fun e => hgne (Option.some.inj e))
  obtain ⟨cap', hv6⟩ : ∃ cap', v6 = .slice (some ⟨nb', 0, none⟩) (M.own.length + 2) cap' := by
    rcases k1.2.2 with ⟨e, _⟩ | ⟨q, c, cur, e, _⟩
    · rw [e] at hnb; cases hnb
    · rw [e] at hnb
      simp only [Value.ownBlock] at hnb
      injection hnb with hnb
      subst hnb
      exact ⟨c, by rw [e]; simp [rowN_len]⟩
  refine ⟨nb', cap', hv6, hbg.cell 1, hbg.frozen 1, ?_⟩
  subst hv6
  have hk7 := OK.setBlk k1 hbg (by decide) 1 (.slice (some ⟨nb', 0, none⟩) (M.own.length + 2) cap')
  rw [rowN_push] at hk7
  have hmod6 : Mod (fun k => k = nb) W w6 := (Mod.of_grown k2).mono fun k _ e => Option.some.inj e
  have hs6 := hX.seeds.modNode hX.mem.nodes (by decide) hmod6
  have hs7 : SeedAt (w6.setCell ⟨g, 1, none⟩ (.slice (some ⟨nb', 0, none⟩) (M.own.length + 2) cap')) B sv ss := by
    rcases hs6 with h | h
    · exact .inl h
    · exact .inr (OK.setBlk h hbg (by decide) 1 _)
  have hlen : (M.make v).own.length = M.own.length + 1 := by simp [RM.make]
  have hSg : S g := (hS g).1 (.inl rfl)
  have hSn : S nb := (hS nb).1 (.inr (.inl rfl))
  refine ⟨fun k => k = g ∨ k = nb' ∨ (ss ≠ [] ∧ sv.ownBlock = some k), ⟨B, sv, nb', cap', upd N (M.own.length + 1) ⟨v, v, 1, rk, 0, 0, 0⟩, ss, ⟨⟨?_, by rw [hlen]; exact hk7⟩, rope_make hX.ok v rk, by rw [hlen]; omega, hs7, hX.small⟩, fun k => Iff.rfl⟩, ?_, ?_⟩
  · have := hbg.set_ 1 (.slice (some ⟨nb', 0, none⟩) (M.own.length + 2) cap')
    rw [hlen]
    exact this
  · have h1 : Mod S w w6 := (Mod.of_below hbW S).trans' (hmod6.mono fun k _ e => by rw [e]; exact hSn)
    exact h1.setCell (p := ⟨g, 1, none⟩) (fun _ => hSg) _
  · rintro k (rfl | rfl | hk)
    · exact .inl hSg
    · rcases k3 with h | ⟨z, hz, h⟩
      · rw [hnb] at h; injection h with h; subst h; exact .inl hSn
      · rw [hnb] at h; injection h with h; subst h; exact .inr (Nat.le_trans hbW.size hz)
    · exact .inl ((hS k).1 (.inr (.inr hk)))

section
variable {a : Act} {ty : TypeId} {pos : String} {d : Option Tmp} {af : Array Edge} {gd : Option (Nat × Bool)}

theorem ro_move {x : Tmp} {v : Value} (w : World) (hx : a.tmps.getD x undef = v) :
    (execOp a.eval { dst := d, op := .move (.tmp x), type := ty, pos := pos, after := af, guard := gd }).run Try.prog w = .ok (.value v) w := by
  simp only [execOp, Act.eval, hx]; rfl

theorem ro_nilk {x : Tmp} {p : Nat} (w : World) (hx : a.tmps.getD x undef = .pointer (some ⟨p, 0, none⟩)) :
    (execOp a.eval { dst := d, op := .nilCheck (.tmp x), type := ty, pos := pos, after := af, guard := gd }).run Try.prog w = .ok (.value (.pointer (some ⟨p, 0, none⟩))) w := by
  simp only [execOp, Act.eval, hx]
  go_simp

theorem ro_rope1 {x : Tmp} {p : Nat} (w : World) (hx : a.tmps.getD x undef = .pointer (some ⟨p, 0, none⟩)) :
    (execOp a.eval { dst := d, op := .fieldAddr 115 (.tmp x) 1, type := ty, pos := pos, after := af, guard := gd }).run Try.prog w = .ok (.value (.pointer (some ⟨p, 1, none⟩))) w := by
  simp only [execOp, Act.eval, hx]
  go_simp

theorem ro_loadN {x : Tmp} {p k : Nat} {v : Value} (w : World) (hx : a.tmps.getD x undef = .pointer (some ⟨p, k, none⟩)) (h0 : w.cell? ⟨p, k, none⟩ = some v) :
    (execOp a.eval { dst := d, op := .load 113 (.tmp x), type := ty, pos := pos, after := af, guard := gd }).run Try.prog w = .ok (.value v) w := by
  simp only [execOp, Act.eval, hx]
  go_simp

theorem ro_loadV {x : Tmp} {p : Nat} {v0 v1 v2 : Int} (w : World) (hx : a.tmps.getD x undef = .pointer (some ⟨p, 0, none⟩)) (h0 : w.cell? ⟨p, 0, none⟩ = some (.int .i64 v0)) (h1 : w.cell? ⟨p, 1, none⟩ = some (.int .i64 v1)) (h2 : w.cell? ⟨p, 2, none⟩ = some (.int .i64 v2)) :
    (execOp a.eval { dst := d, op := .load 68 (.tmp x), type := ty, pos := pos, after := af, guard := gd }).run Try.prog w = .ok (.value (.agg #[.int .i64 v0, .int .i64 v1, .int .i64 v2])) w := by
  simp only [execOp, Act.eval, hx]
  go_simp

open Go.Shelf in
theorem ro_seed {x y : Tmp} {u v : Value} (w : World) (hx : a.tmps.getD x undef = u) (hy : a.tmps.getD y undef = v) {ts : Array TypeId} :
    (execOp a.eval { dst := d, op := .call { callee := .value (.func 98), args := #[.tmp x, .tmp y], argTypes := ts }, type := ty, pos := pos, after := af, guard := gd }).run Try.prog w = .ok (.enter 98 #[u, v]) w := by
  have := enters_of Try.func98 (by kernel_rfl) rfl #[u, v] w
  simp only [execOp, resolve, Act.eval, hx, hy, List.map_toArray, List.map]
  go_simp

open Go.Shelf in
theorem ro_mix {x y : Tmp} {u v : Value} (w : World) (hx : a.tmps.getD x undef = u) (hy : a.tmps.getD y undef = v) {ts : Array TypeId} :
    (execOp a.eval { dst := d, op := .call { callee := .value (.func 97), args := #[.tmp x, .tmp y], argTypes := ts }, type := ty, pos := pos, after := af, guard := gd }).run Try.prog w = .ok (.enter 97 #[u, v]) w := by
  have := enters_of Try.func97 (by kernel_rfl) rfl #[u, v] w
  simp only [execOp, resolve, Act.eval, hx, hy, List.map_toArray, List.map]
  go_simp

theorem ro_build {x y z : Tmp} {n m e : Int} {k : Nat} (w : World) (hx : a.tmps.getD x undef = .agg #[.int .i64 n, .int .i64 m, .int .i64 e]) (hy : a.tmps.getD y undef = .agg #[.int .i64 n, .int .i64 m, .int .i64 e]) (hz : a.tmps.getD z undef = .int .u64 (k : Int)) :
    (execOp a.eval { dst := d, op := .build 112 #[(0, .tmp x), (1, .tmp y), (2, .const (.int .i64 1)), (3, .tmp z)], type := ty, pos := pos, after := af, guard := gd }).run Try.prog w = .ok (.value (.agg #[.int .i64 n, .int .i64 m, .int .i64 e, .int .i64 n, .int .i64 m, .int .i64 e, .int .i64 1, .int .u64 (k : Int), .int .i64 0, .int .i64 0, .int .i64 0])) w := by
  simp only [execOp, Act.eval, hx, hy, hz, List.map_toArray, List.map]
  go_simp

theorem ro_buildSl {x : Tmp} {n m e : Int} {k : Nat} (w : World) (hx : a.tmps.getD x undef = .agg #[.int .i64 n, .int .i64 m, .int .i64 e, .int .i64 n, .int .i64 m, .int .i64 e, .int .i64 1, .int .u64 (k : Int), .int .i64 0, .int .i64 0, .int .i64 0]) :
    (execOp a.eval { dst := d, op := .buildSlice 113 1 #[(0, .tmp x)], type := ty, pos := pos, after := af, guard := gd }).run Try.prog w = .ok (.value (.slice (some ⟨w.heap.size, 0, none⟩) 1 1)) (w.alloc (.cells #[.int .i64 n, .int .i64 m, .int .i64 e, .int .i64 n, .int .i64 m, .int .i64 e, .int .i64 1, .int .u64 (k : Int), .int .i64 0, .int .i64 0, .int .i64 0] 112)) := by
  simp only [execOp, Act.eval, hx, List.map_toArray, List.map]
  go_simp

theorem ro_appN {x y : Tmp} {w : World} {base h : Nat} {v : Value} {xs : List (Nd SV)} {nd : Nd SV} (hx : a.tmps.getD x undef = v) (hy : a.tmps.getD y undef = .slice (some ⟨h, 0, none⟩) 1 1) (hown : OK encNd 11 112 w base v xs) (hc : ∀ (j : Nat) u, (encNd nd)[j]? = some u → w.cell? ⟨h, j, none⟩ = some u) (hlen : xs.length + 1 ≤ 1000000) (hbase : base ≤ w.heap.size) :
    ∃ v' w', (execOp a.eval { dst := d, op := .call { callee := .builtin .append, args := #[.tmp x, .tmp y], argTypes := #[113, 113] }, type := ty, pos := pos, after := af, guard := gd }).run Try.prog w = .ok (.value v') w' ∧ OK encNd 11 112 w' base v' (xs ++ [nd]) ∧ w.grownBy w' v.ownBlock ∧ (v'.ownBlock = v.ownBlock ∨ v'.ownBlock = some w.heap.size) := by
  obtain ⟨v', w', hrun, h2, h3, h4⟩ := run_app1 etNd encNd_len encNd_one ty hown h hc hlen hbase
  refine ⟨v', w', ?_, h2, h3, h4⟩
  simp only [execOp, resolve, invoke, builtin, Sem.run_bind, Sem.run_pure, Result.andThen_ok, List.map_toArray, List.map_cons, List.map_nil, Act.eval, hx, hy, hrun]

theorem ro_storeN {x y : Tmp} {p k n c : Nat} {v0 : Value} {A : Option Addr} (w : World) (hx : a.tmps.getD x undef = .pointer (some ⟨p, k, none⟩)) (hy : a.tmps.getD y undef = .slice A n c) (h0 : w.cell? ⟨p, k, none⟩ = some v0) (hf : w.frozen? ⟨p, k, none⟩ = false) :
    (execOp a.eval { dst := d, op := .store 113 (.tmp x) (.tmp y), type := ty, pos := pos, after := af, guard := gd }).run Try.prog w = .ok .skip (w.setCell ⟨p, k, none⟩ (.slice A n c)) := by
  simp only [execOp, Act.eval, hx, hy]
  go_simp

end

/-- What holds of the world while Make's region runs: seed is operation 9, mix 11, the new node 13, the append 14, the store 17. -/
structure IM (W : World) (nb : Nat) (Done : World → Prop) (L : Array Bool) (w : World) : Prop where
  a : L.getD 14 false = false → Below W.heap.size W w
  b : L.getD 17 false = false → W.grownBy w (some nb)
  c : L.getD 17 false = true → Done w ∧ ∀ q, q < 17 → L.getD q false = true
  c1 : L.getD 14 false = true → L.getD 13 false = true
  c2 : L.getD 13 false = true → L.getD 12 false = true
  c3 : L.getD 12 false = true → L.getD 11 false = true
  c4 : L.getD 11 false = true → L.getD 9 false = true
  c5 : L.getD 16 false = true → L.getD 15 false = true

section
variable {W w w' : World} {nb : Nat} {Done : World → Prop} {L : Array Bool}

theorem IM.notst (h : IM W nb Done L w) {i : Nat} (hi : i < 17) (h0 : L.getD i false = false) : L.getD 17 false = false := by
  cases hL : L.getD 17 false with
  | false => rfl
  | true => have := (h.c hL).2 i hi; rw [h0] at this; cases this

theorem set_other {L : Array Bool} {i k : Nat} (h : i ≠ k) : (L.setIfInBounds i true).getD k false = L.getD k false := getD_set_ne false h

theorem set_same {L : Array Bool} {i : Nat} (hs : i < L.size) : (L.setIfInBounds i true).getD i false = true := by simp [hs]

theorem set_up_ {L : Array Bool} {i k : Nat} (h : L.getD k false = true) : (L.setIfInBounds i true).getD k false = true := by
  by_cases e : i = k
  · subst e
    have hs : i < L.size := by
      rcases Nat.lt_or_ge i L.size with h' | h'
      · exact h'
      · simp [Array.getElem?_eq_none h'] at h
    exact set_same hs
  · rw [set_other e]; exact h

/-- One more has run, the world has turned by what is below or by the append. -/
theorem IM.step (h : IM W nb Done L w) {i : Nat} (hi : i < 17) (h0 : L.getD i false = false) (hs : L.size = 18) (ha : i ≠ 14 → L.getD 14 false = false → Below W.heap.size W w') (hb : W.grownBy w' (some nb))
    (e14 : i = 14 → L.getD 13 false = true) (e13 : i = 13 → L.getD 12 false = true) (e12 : i = 12 → L.getD 11 false = true) (e11 : i = 11 → L.getD 9 false = true) (e16 : i = 16 → L.getD 15 false = true) : IM W nb Done (L.setIfInBounds i true) w' := by
  have hn := h.notst hi h0
  have k17 : (L.setIfInBounds i true).getD 17 false = false := by rw [set_other (by omega)]; exact hn
  refine ⟨fun e => ?_, fun _ => hb, fun e => by (rw [k17] at e; cases e), fun e => ?_, fun e => ?_, fun e => ?_, fun e => ?_, fun e => ?_⟩
  · by_cases hc : i = 14
    · subst hc; rw [set_same (by omega)] at e; cases e
    · rw [set_other hc] at e; exact ha hc e
  · by_cases hc : i = 14
    · exact set_up_ (e14 hc)
    · rw [set_other hc] at e; exact set_up_ (h.c1 e)
  · by_cases hc : i = 13
    · exact set_up_ (e13 hc)
    · rw [set_other hc] at e; exact set_up_ (h.c2 e)
  · by_cases hc : i = 12
    · exact set_up_ (e12 hc)
    · rw [set_other hc] at e; exact set_up_ (h.c3 e)
  · by_cases hc : i = 11
    · exact set_up_ (e11 hc)
    · rw [set_other hc] at e; exact set_up_ (h.c4 e)
  · by_cases hc : i = 16
    · exact set_up_ (e16 hc)
    · rw [set_other hc] at e; exact set_up_ (h.c5 e)

theorem IM.keep (h : IM W nb Done L w) {i : Nat} (hi : i < 17) (h0 : L.getD i false = false) (hs : L.size = 18) (e14 : i ≠ 14) (e13 : i ≠ 13) (e12 : i = 12 → L.getD 11 false = true) (e11 : i = 11 → L.getD 9 false = true) (e16 : i = 16 → L.getD 15 false = true) : IM W nb Done (L.setIfInBounds i true) w :=
  h.step hi h0 hs (fun _ e => h.a e) (h.b (h.notst hi h0)) (fun e => absurd e e14) (fun e => absurd e e13) e12 e11 e16

theorem IM.st (hs : L.size = 18) (hall : ∀ q, q < 17 → L.getD q false = true) (hd : Done w') : IM W nb Done (L.setIfInBounds 17 true) w' := by
  have k17 : (L.setIfInBounds 17 true).getD 17 false = true := set_same (by omega)
  have kq : ∀ q, q < 17 → (L.setIfInBounds 17 true).getD q false = true := fun q hq => by rw [set_other (by omega)]; exact hall q hq
  exact ⟨fun e => by (rw [kq 14 (by omega)] at e; cases e), fun e => by (rw [k17] at e; cases e), fun _ => ⟨hd, kq⟩, fun _ => kq 13 (by omega), fun _ => kq 12 (by omega), fun _ => kq 11 (by omega), fun _ => kq 9 (by omega), fun _ => kq 15 (by omega)⟩

theorem IM.before (h : IM W nb Done L w) {i : Nat} (hi : i = 9 ∨ i = 11 ∨ i = 12 ∨ i = 13) (h0 : L.getD i false = false) : L.getD 14 false = false := by
  cases hL : L.getD 14 false with
  | false => rfl
  | true =>
    have h13 := h.c1 hL
    have h12 := h.c2 h13
    have h11 := h.c3 h12
    have h9 := h.c4 h11
    rcases hi with rfl | rfl | rfl | rfl
    · rw [h0] at h9; cases h9
    · rw [h0] at h11; cases h11
    · rw [h0] at h12; cases h12
    · rw [h0] at h13; cases h13

end

def ndOf (v : SV) (rk : Nat) : Nd SV := ⟨v, v, 1, rk, 0, 0, 0⟩

/-- What each operation leaves in its slot. -/
def SM (g B bx n nb cap : Nat) (v : SV) (row : List (Nd SV)) (hz : Nat) (q : Nat) (u : Value) (w : World) : Prop := match q with
  | 0 => u = .pointer (some ⟨g, 0, none⟩)
  | 1 => u = .pointer (some ⟨g, 0, none⟩)
  | 2 => u = .pointer (some ⟨g, 0, none⟩)
  | 3 => u = .pointer (some ⟨g, 1, none⟩)
  | 4 => u = .slice (some ⟨nb, 0, none⟩) n cap
  | 5 => u = .agg #[.int .i64 v.n, .int .i64 v.m, .int .i64 v.e]
  | 6 => u = .agg #[.int .i64 v.n, .int .i64 v.m, .int .i64 v.e]
  | 7 => u = .pointer (some ⟨g, 0, none⟩)
  | 8 => u = .int .i64 (n : Int)
  | 9 => ∃ x : Int, u = .int .i64 x
  | 10 => u = .int .i64 (n : Int)
  | 11 => ∃ x : Nat, u = .int .u64 (x : Int)
  | 12 => ∃ x : Nat, u = .agg #[.int .i64 v.n, .int .i64 v.m, .int .i64 v.e, .int .i64 v.n, .int .i64 v.m, .int .i64 v.e, .int .i64 1, .int .u64 (x : Int), .int .i64 0, .int .i64 0, .int .i64 0]
  | 13 => ∃ (x h : Nat), u = .slice (some ⟨h, 0, none⟩) 1 1 ∧ h ≠ g ∧ h ≠ nb ∧ Blk w h 112 #[.int .i64 v.n, .int .i64 v.m, .int .i64 v.e, .int .i64 v.n, .int .i64 v.m, .int .i64 v.e, .int .i64 1, .int .u64 (x : Int), .int .i64 0, .int .i64 0, .int .i64 0]
  | 14 => ∃ x : Nat, OK encNd 11 112 w B u (row ++ [ndOf v x]) ∧ (u.ownBlock = some nb ∨ ∃ z, hz ≤ z ∧ u.ownBlock = some z)
  | 15 => u = .pointer (some ⟨g, 0, none⟩)
  | 16 => u = .pointer (some ⟨g, 1, none⟩)
  | _ => True

theorem sm_same {g B bx n nb cap : Nat} {v : SV} {row : List (Nd SV)} {hz : Nat} (q : Nat) (u : Value) (w w' : World) (h13 : ∀ h cs, h ≠ g → h ≠ nb → Blk w h 112 cs → Blk w' h 112 cs) (h14 : q = 14 → ∀ xs, OK encNd 11 112 w B u xs → OK encNd 11 112 w' B u xs) (h : SM g B bx n nb cap v row hz q u w) : SM g B bx n nb cap v row hz q u w' := by
  match q, h, h14 with
  | 0, h, _ => exact h
  | 1, h, _ => exact h
  | 2, h, _ => exact h
  | 3, h, _ => exact h
  | 4, h, _ => exact h
  | 5, h, _ => exact h
  | 6, h, _ => exact h
  | 7, h, _ => exact h
  | 8, h, _ => exact h
  | 9, h, _ => exact h
  | 10, h, _ => exact h
  | 11, h, _ => exact h
  | 12, h, _ => exact h
  | 13, h, _ =>
    obtain ⟨x, hh, e, n1, n2, hb⟩ := h
    exact ⟨x, hh, e, n1, n2, h13 hh _ n1 n2 hb⟩
  | 14, h, h14 =>
    obtain ⟨x, ho, hz⟩ := h
    exact ⟨x, h14 rfl _ ho, hz⟩
  | 15, h, _ => exact h
  | 16, h, _ => exact h
  | q + 17, h, _ => trivial

set_option maxRecDepth 100000 in
set_option maxHeartbeats 4000000 in
theorem rMake (w : World) (g : Nat) (S : Nat → Prop) (M : RM SV) (h : Rp w g S M) (v : SV) :
    Calls Try.prog 79 #[.pointer (some ⟨g, 0, none⟩), v.v] w fun e w' => e = .returned (.tuple #[.int .i64 M.makeN, .int .i64 M.makeE]) ∧ Turn w g S (M.makeA v) w' := by
  have h0 := h
  obtain ⟨B, sv, nb, cap, N, ss, hX, hSS⟩ := h
  obtain ⟨W, hW⟩ : ∃ W, W = w.alloc (.cells #[.int .i64 v.n, .int .i64 v.m, .int .i64 v.e] 68) := ⟨_, rfl⟩
  have hbW : Below w.heap.size w W := by rw [hW]; exact (Below.refl _ _).alloc (Nat.le_refl _) _
  have hkW : Blk W w.heap.size 68 #[.int .i64 v.n, .int .i64 v.m, .int .i64 v.e] := by rw [hW]; exact Blk.new _ _ _
  have hXW := hX.below hbW
  have b1 : W.cell? ⟨g, 1, none⟩ = _ := hXW.mem.blk.cell 1
  have HW := Lib.hid hW
  obtain ⟨n, hn⟩ : ∃ n, n = M.own.length + 1 := ⟨_, rfl⟩
  rw [← hn] at b1
  by_cases hf : M.own.length < 65536
  · have e1 : M.makeN = (n : Int) := by unfold RM.makeN; rw [if_pos hf, hn]; rfl
    have e2 : M.makeE = 0 := by unfold RM.makeE; rw [if_pos hf]
    have e3 : M.makeA v = M.make v := by unfold RM.makeA; rw [if_pos hf]
    rw [e1, e2, e3]
    have hd6 : decide ((65536 : Int) < (n : Int)) = false := by simp; omega
    have HKW := Lib.hid hkW
    have HBG : Hid (Blk W g 115 #[sv, .slice (some ⟨nb, 0, none⟩) n cap]) := Lib.hid (by rw [hn]; exact hXW.mem.blk)
    have HNE : Hid (g ≠ nb ∧ w.heap.size ≠ nb ∧ w.heap.size ≠ g ∧ g < W.heap.size ∧ nb < W.heap.size) := Lib.hid ⟨hXW.mem.ne, hXW.mem.nodes.blkNe hkW (by decide), hkW.ne_ hXW.mem.blk (by decide), hXW.mem.lt.1, hXW.mem.lt.2⟩
    have HRP : Hid (Rp W g S M) := Lib.hid (h0.below hbW)
    have HSEED : Hid (∀ w7, Below W.heap.size W w7 → Calls Try.prog 98 #[.pointer (some ⟨g, 0, none⟩), .int .i64 (n : Int)] w7 fun e w' => (∃ x : Int, e = .returned (.int .i64 x)) ∧ ∃ q, w' = w7.drewN q) := Lib.hid (fun w7 hb7 => seed_any w7 g S M ((h0.below hbW).below hb7) n (by omega) (by omega))
    have HOWN : Hid (OK encNd 11 112 W B (.slice (some ⟨nb, 0, none⟩) n cap) (rowN N n)) := Lib.hid (by rw [hn]; exact hXW.mem.nodes)
    have HBB : Hid (B ≤ W.heap.size) := Lib.hid (by have := hXW.mem.nodes.lt nb rfl; omega)
    have HLN : Hid ((rowN N n).length + 1 ≤ 1000000) := Lib.hid (by rw [rowN_len]; omega)
    have HX : Hid (∀ (rk : Nat) (v6 : Value) (w6 : World), OK encNd 11 112 w6 B v6 (rowN N n ++ [ndOf v rk]) → W.grownBy w6 (some nb) → (v6.ownBlock = some nb ∨ ∃ z, W.heap.size ≤ z ∧ v6.ownBlock = some z) →
        ∃ nb' n' cap', v6 = .slice (some ⟨nb', 0, none⟩) n' cap' ∧ w6.cell? ⟨g, 1, none⟩ = some (.slice (some ⟨nb, 0, none⟩) n cap) ∧ w6.frozen? ⟨g, 1, none⟩ = false ∧ Turn w g S (M.make v) (w6.setCell ⟨g, 1, none⟩ (.slice (some ⟨nb', 0, none⟩) n' cap'))) := Lib.hid (by
      intro rk v6 w6 k1 k2 k3
      obtain ⟨nb', cap', e1, e2, e3, e4⟩ := make_turn (w := w) (W := W) hXW hSS hbW hX.mem.lt.1 hX.mem.lt.2 hf v rk (by rw [← hn]; exact k1) k2 k3
      subst e1
      exact ⟨nb', _, cap', rfl, by rw [hn]; exact e2, e3, e4⟩)
    clear e1 e2 e3 hX hXW hSS h0 hbW hkW hW hn hf
    unfold SV.v
    go_enter Try.func79, Try.ntmps79
    go_upto_region 1 with fail
    rw [← HW.out]
    go_wp2_with fail
    rename_i K hK
    refine wp_region_slots (SM g B w.heap.size n nb cap v (rowN N n) W.heap.size) (IM W nb (Turn w g S (M.make v))) (by kernel_rfl) (by kernel_rfl) (by kernel_rfl) ⟨fun _ => (Below.refl _ _).drew, fun _ => ⟨rfl, rfl, rfl, Nat.le_refl _, fun _ _ _ => rfl⟩, fun e => by simp at e, fun e => by simp at e, fun e => by simp at e, fun e => by simp at e, fun e => by simp at e, fun e => by simp at e⟩ ?_ ?_
    · intro L a w7 q o' h ho h0 hd
      have hsz : L.size = 18 := h.sized
      revert L a w7
      revert q o'
      refine each_array ?_
      refine ⟨?_, ?_, ?_, ?_, ?_, ?_, ?_, ?_, ?_, ?_, ?_, ?_, ?_, ?_, ?_, ?_, ?_, ?_, trivial⟩ <;> intro L a w7 h h0 hd hsz
      · exact h.val rfl rfl (ro_move w7 (h.still 0 (by kernel_rfl))) (h.world.keep (by decide) h0 hsz (by decide) (by decide) (fun e => by omega) (fun e => by omega) (fun e => by omega)) rfl
      · exact h.val rfl rfl (ro_move w7 (h.still 0 (by kernel_rfl))) (h.world.keep (by decide) h0 hsz (by decide) (by decide) (fun e => by omega) (fun e => by omega) (fun e => by omega)) rfl
      · exact h.val rfl rfl (ro_nilk w7 (h.ran 1 _ 15 rfl rfl (hd ⟨1, .data⟩ (by simp) rfl))) (h.world.keep (by decide) h0 hsz (by decide) (by decide) (fun e => by omega) (fun e => by omega) (fun e => by omega)) rfl
      · exact h.val rfl rfl (ro_rope1 w7 (h.ran 2 _ 16 rfl rfl (hd ⟨2, .data⟩ (by simp) rfl))) (h.world.keep (by decide) h0 hsz (by decide) (by decide) (fun e => by omega) (fun e => by omega) (fun e => by omega)) rfl
      · exact h.val rfl rfl (ro_loadN w7 (h.ran 3 _ 17 rfl rfl (hd ⟨3, .data⟩ (by simp) rfl)) ((HBG.out.grown (h.world.b (h.world.notst (by decide) h0)) (fun e => HNE.out.1 (Option.some.inj e))).cell 1)) (h.world.keep (by decide) h0 hsz (by decide) (by decide) (fun e => by omega) (fun e => by omega) (fun e => by omega)) rfl
      · have hbx := HKW.out.grown (h.world.b (h.world.notst (by decide) h0)) (fun e => HNE.out.2.1 (Option.some.inj e))
        exact h.val rfl rfl (ro_loadV w7 (h.still 3 (by kernel_rfl)) (hbx.cell 0) (hbx.cell 1) (hbx.cell 2)) (h.world.keep (by decide) h0 hsz (by decide) (by decide) (fun e => by omega) (fun e => by omega) (fun e => by omega)) rfl
      · have hbx := HKW.out.grown (h.world.b (h.world.notst (by decide) h0)) (fun e => HNE.out.2.1 (Option.some.inj e))
        exact h.val rfl rfl (ro_loadV w7 (h.still 3 (by kernel_rfl)) (hbx.cell 0) (hbx.cell 1) (hbx.cell 2)) (h.world.keep (by decide) h0 hsz (by decide) (by decide) (fun e => by omega) (fun e => by omega) (fun e => by omega)) rfl
      · exact h.val rfl rfl (ro_move w7 (h.still 0 (by kernel_rfl))) (h.world.keep (by decide) h0 hsz (by decide) (by decide) (fun e => by omega) (fun e => by omega) (fun e => by omega)) rfl
      · exact h.val rfl rfl (ro_move w7 (h.still 6 (by kernel_rfl))) (h.world.keep (by decide) h0 hsz (by decide) (by decide) (fun e => by omega) (fun e => by omega) (fun e => by omega)) rfl
      · have hb7 := h.world.a (h.world.before (.inl rfl) h0)
        refine h.call rfl rfl (ro_seed w7 (h.ran 7 _ 21 rfl rfl (hd ⟨7, .data⟩ (by simp) rfl)) (h.ran 8 _ 22 rfl rfl (hd ⟨8, .data⟩ (by simp) rfl))) ((HSEED.out w7 hb7).mono ?_)
        rintro e w8 ⟨⟨x, rfl⟩, q, h8⟩
        subst w8
        have hb8 : Below W.heap.size W (w7.drewN q) := below_drewN hb7 q
        exact ⟨_, rfl, fun k u _ hs => sm_same k u _ _ (fun _ _ _ _ hk => hk.drewN q) (fun _ _ ho => ho.drewN q) hs, h.world.step (by decide) h0 hsz (fun _ _ => hb8) (grownBy_trans (grownBy_below hb8) (World.grownBy.refl _ _)) (fun e => by omega) (fun e => by omega) (fun e => by omega) (fun e => by omega) (fun e => by omega), ⟨x, rfl⟩⟩
      · exact h.val rfl rfl (ro_move w7 (h.still 6 (by kernel_rfl))) (h.world.keep (by decide) h0 hsz (by decide) (by decide) (fun e => by omega) (fun e => by omega) (fun e => by omega)) rfl
      · obtain ⟨x, hx⟩ := h.ran 9 _ 23 rfl rfl (hd ⟨9, .data⟩ (by simp) rfl)
        have hkp := h.world.keep (i := 11) (by decide) h0 hsz (by decide) (by decide) (fun e => by omega) (fun _ => hd ⟨9, .data⟩ (by simp) rfl) (fun e => by omega)
        refine h.call rfl rfl (ro_mix w7 hx (h.ran 10 _ 24 rfl rfl (hd ⟨10, .data⟩ (by simp) rfl))) ((mix_any _ _ w7).mono ?_)
        rintro e w8 ⟨⟨y, rfl⟩, h8⟩
        subst w8
        exact ⟨_, rfl, fun k u _ hs => hs, hkp, ⟨y, rfl⟩⟩
      · obtain ⟨x, hx⟩ := h.ran 11 _ 25 rfl rfl (hd ⟨11, .data⟩ (by simp) rfl)
        exact h.val rfl rfl (ro_build w7 (h.ran 5 _ 19 rfl rfl (hd ⟨5, .data⟩ (by simp) rfl)) (h.ran 6 _ 20 rfl rfl (hd ⟨6, .data⟩ (by simp) rfl)) hx) (h.world.keep (by decide) h0 hsz (by decide) (by decide) (fun _ => hd ⟨11, .data⟩ (by simp) rfl) (fun e => by omega) (fun e => by omega)) ⟨x, rfl⟩
      · obtain ⟨x, hx⟩ := h.ran 12 _ 26 rfl rfl (hd ⟨12, .data⟩ (by simp) rfl)
        have h14 := h.world.before (i := 13) (.inr (.inr (.inr rfl))) h0
        have hb7 := h.world.a h14
        have hb8 : Below W.heap.size W (w7.alloc (.cells #[.int .i64 v.n, .int .i64 v.m, .int .i64 v.e, .int .i64 v.n, .int .i64 v.m, .int .i64 v.e, .int .i64 1, .int .u64 (x : Int), .int .i64 0, .int .i64 0, .int .i64 0] 112)) := hb7.alloc hb7.size _
        have hg7 := hb7.size
        exact h.mem rfl rfl (ro_buildSl w7 hx) (fun k u hk hs => sm_same k u _ _ (fun _ _ _ _ hb => hb.alloc _) (fun _ _ ho => ho.alloc _) hs) (h.world.step (by decide) h0 hsz (fun _ _ => hb8) (grownBy_trans (grownBy_below hb8) (World.grownBy.refl _ _)) (fun e => by omega) (fun _ => hd ⟨12, .data⟩ (by simp) rfl) (fun e => by omega) (fun e => by omega) (fun e => by omega)) ⟨x, _, rfl, by have := HNE.out.2.2.2.1; omega, by have := HNE.out.2.2.2.2; omega, Blk.new _ _ _⟩
      · obtain ⟨x, hh, hx, n1, n2, hbk⟩ := h.ran 13 _ 27 rfl rfl (hd ⟨13, .data⟩ (by simp) rfl)
        have hb7 := h.world.a h0
        obtain ⟨v6, w6, hrun, k1, k2, k3⟩ := ro_appN (w := w7) (d := some 28) (ty := 113) (pos := "treap.go:44") (af := #[{ on := 4, ground := Ground.data }, { on := 13, ground := Ground.data }, { on := 9, ground := Ground.chain }, { on := 11, ground := Ground.chain }]) (gd := none) (nd := ndOf v x) (h.ran 4 _ 18 rfl rfl (hd ⟨4, .data⟩ (by simp) rfl)) hx (HOWN.out.below hb7) (fun j u hu => by rw [hbk.cell j]; simpa [encNd, ndOf] using hu) HLN.out (Nat.le_trans HBB.out hb7.size)
        have hg6 : W.grownBy w6 (some nb) := grownBy_trans (grownBy_below hb7) k2
        refine h.mem rfl rfl hrun (fun k u hk hs => sm_same k u _ _ (fun h' _ _ hn2 hb => hb.grown k2 (fun e => hn2 (Option.some.inj e))) (fun e => by (rw [e, h0] at hk; cases hk)) hs) (h.world.step (by decide) h0 hsz (fun e => absurd rfl e) hg6 (fun _ => hd ⟨13, .data⟩ (by simp) rfl) (fun e => by omega) (fun e => by omega) (fun e => by omega) (fun e => by omega)) ⟨x, k1, ?_⟩
        rcases k3 with e | e
        · exact .inl e
        · exact .inr ⟨_, hb7.size, e⟩
      · exact h.val rfl rfl (ro_nilk w7 (h.ran 0 _ 14 rfl rfl (hd ⟨0, .data⟩ (by simp) rfl))) (h.world.keep (by decide) h0 hsz (by decide) (by decide) (fun e => by omega) (fun e => by omega) (fun e => by omega)) rfl
      · exact h.val rfl rfl (ro_rope1 w7 (h.ran 15 _ 29 rfl rfl (hd ⟨15, .data⟩ (by simp) rfl))) (h.world.keep (by decide) h0 hsz (by decide) (by decide) (fun e => by omega) (fun e => by omega) (fun _ => hd ⟨15, .data⟩ (by simp) rfl)) rfl
      · obtain ⟨x, k1, k3⟩ := h.ran 14 _ 28 rfl rfl (hd ⟨14, .data⟩ (by simp) rfl)
        have k2 := h.world.b h0
        obtain ⟨nb', n', cap', e1, e2, e3, e4⟩ := HX.out x _ w7 k1 k2 k3
        have hbg7 := HBG.out.grown k2 (fun e => HNE.out.1 (Option.some.inj e))
        refine h.skip rfl rfl (ro_storeN w7 (h.ran 16 _ 30 rfl rfl (hd ⟨16, .data⟩ (by simp) rfl)) e1 e2 e3) (fun k u hk hs => sm_same k u _ _ (fun h' _ n1 _ hb => hb.far (p := ⟨g, 1, none⟩) n1 _) (fun _ _ ho => ho.setBlk hbg7 (by decide) 1 _) hs) (IM.st hsz (fun q hq => ?_) e4) trivial
        match q, hq with
        | 0, _ => exact hd ⟨0, .phase⟩ (by simp) rfl
        | 1, _ => exact hd ⟨1, .phase⟩ (by simp) rfl
        | 2, _ => exact hd ⟨2, .phase⟩ (by simp) rfl
        | 3, _ => exact hd ⟨3, .phase⟩ (by simp) rfl
        | 4, _ => exact hd ⟨4, .phase⟩ (by simp) rfl
        | 5, _ => exact hd ⟨5, .phase⟩ (by simp) rfl
        | 6, _ => exact hd ⟨6, .phase⟩ (by simp) rfl
        | 7, _ => exact hd ⟨7, .phase⟩ (by simp) rfl
        | 8, _ => exact hd ⟨8, .phase⟩ (by simp) rfl
        | 9, _ => exact hd ⟨9, .phase⟩ (by simp) rfl
        | 10, _ => exact hd ⟨10, .phase⟩ (by simp) rfl
        | 11, _ => exact hd ⟨11, .phase⟩ (by simp) rfl
        | 12, _ => exact hd ⟨12, .phase⟩ (by simp) rfl
        | 13, _ => exact hd ⟨13, .phase⟩ (by simp) rfl
        | 14, _ => exact hd ⟨14, .data⟩ (by simp) rfl
        | 15, _ => exact h.world.c5 (hd ⟨16, .data⟩ (by simp) rfl)
        | 16, _ => exact hd ⟨16, .data⟩ (by simp) rfl
        | q + 17, hq => omega
    · intro L a w7 hL hdf hsz' hw hother hall
      have HT : Hid (Turn w g S (M.make v) w7) := Lib.hid (hw.c (hL 17 (by decide))).1
      obtain ⟨tm, df⟩ := a
      obtain rfl : df = [] := hdf
      have htm := tmps_eq [14, 15, 16, 17, 18, 19, 20, 21, 22, 23, 24, 25, 26, 27, 28, 29, 30] (by kernel_rfl) hsz' hother
      dsimp only at htm
      simp only [List.foldl] at htm
      generalize tm.getD 14 undef = y14 at htm
      generalize tm.getD 15 undef = y15 at htm
      generalize tm.getD 16 undef = y16 at htm
      generalize tm.getD 17 undef = y17 at htm
      generalize tm.getD 18 undef = y18 at htm
      generalize tm.getD 19 undef = y19 at htm
      generalize tm.getD 20 undef = y20 at htm
      generalize tm.getD 21 undef = y21 at htm
      generalize tm.getD 22 undef = y22 at htm
      generalize tm.getD 23 undef = y23 at htm
      generalize tm.getD 24 undef = y24 at htm
      generalize tm.getD 25 undef = y25 at htm
      generalize tm.getD 26 undef = y26 at htm
      generalize tm.getD 27 undef = y27 at htm
      generalize tm.getD 28 undef = y28 at htm
      generalize tm.getD 29 undef = y29 at htm
      generalize tm.getD 30 undef = y30 at htm
      clear hother hall hsz' hw hL
      rw [htm]
      clear htm
      simp only [List.setIfInBounds_toArray, List.set_cons_succ, List.set_cons_zero]
      go_wp2_with fail
      go_ret2
      exact ⟨rfl, HT.out⟩
  · have e1 : M.makeN = 0 := by unfold RM.makeN; rw [if_neg hf]
    have e2 : M.makeE = 55 := by unfold RM.makeE; rw [if_neg hf]
    have e3 : M.makeA v = M := by unfold RM.makeA; rw [if_neg hf]
    rw [e1, e2, e3]
    have hd6 : decide ((65536 : Int) < (n : Int)) = true := by simp; omega
    have HT : Hid (Turn w g S M W) := Lib.hid (turn_same h0 hbW)
    clear e1 e2 e3 hX hXW hSS h0 hbW hkW hW hn hf
    unfold SV.v
    go_enter Try.func79, Try.ntmps79
    go_upto_region 1 with fail
    rw [← HW.out]
    go_wp2_with fail
    go_ret2
    exact ⟨rfl, HT.out⟩

end Go.Proofs.Ytlakcldgolpaiaa
