/-
  'out.X = append(out.X, r.X[i])' in a region whose order is drawn, out and r ropes of the document.
-/
import Derived.Test.YtbbfnbnjaiimgaaRP31
import Derived.Test.YtbbfnbnjaiimgaaAC
namespace Go.Proofs.Ytbbfnbnjaiimgaa
open Go.RowKit
set_option linter.unusedVariables false

/-- What the operations of such a region do, of slice type T, elements E of one cell, field f. -/
structure PushT {α : Type} (val : α → Value) (T E f bytes : Nat) : Prop where
  et : ElemT T E 1 bytes
  one : ∀ y, (val y).oneCell' = true
  ne : E ≠ 32
  fa : ∀ (a : Act) (x : Tmp) (p : Nat) (w : World) (d : Option Tmp) (ty : TypeId) (pos : String) (af : Array Edge), a.tmps.getD x undef = .pointer (some ⟨p, 0, none⟩) → (execOp a.eval { dst := d, op := .fieldAddr 32 (.tmp x) f, type := ty, pos := pos, after := af, guard := none }).run Try.prog w = .ok (.value (.pointer (some ⟨p, f, none⟩))) w
  lt : ∀ (a : Act) (x : Tmp) (p k : Nat) (v : Value) (w : World) (d : Option Tmp) (ty : TypeId) (pos : String) (af : Array Edge), a.tmps.getD x undef = .pointer (some ⟨p, k, none⟩) → w.cell? ⟨p, k, none⟩ = some v → (execOp a.eval { dst := d, op := .load T (.tmp x), type := ty, pos := pos, after := af, guard := none }).run Try.prog w = .ok (.value v) w
  le : ∀ (a : Act) (x : Tmp) (p k : Nat) (v : Value) (w : World) (d : Option Tmp) (ty : TypeId) (pos : String) (af : Array Edge), a.tmps.getD x undef = .pointer (some ⟨p, k, none⟩) → w.cell? ⟨p, k, none⟩ = some v → (execOp a.eval { dst := d, op := .load E (.tmp x), type := ty, pos := pos, after := af, guard := none }).run Try.prog w = .ok (.value v) w
  ix : ∀ (a : Act) (x y : Tmp) (b o n c i : Nat) (w : World) (d : Option Tmp) (ty : TypeId) (pos : String) (af : Array Edge), i < n → a.tmps.getD x undef = .slice (some ⟨b, o, none⟩) n c → a.tmps.getD y undef = .int .i64 (i : Int) → (execOp a.eval { dst := d, op := .indexAddr T (.tmp x) (.tmp y), type := ty, pos := pos, after := af, guard := none }).run Try.prog w = .ok (.value (.pointer (some ⟨b, o + i, none⟩))) w
  bs : ∀ (a : Act) (x : Tmp) (y : α) (w : World) (d : Option Tmp) (ty : TypeId) (pos : String) (af : Array Edge), a.tmps.getD x undef = val y → (execOp a.eval { dst := d, op := .buildSlice T 1 #[(0, .tmp x)], type := ty, pos := pos, after := af, guard := none }).run Try.prog w = .ok (.value (.slice (some ⟨w.heap.size, 0, none⟩) 1 1)) (w.alloc (.cells #[val y] E))
  st : ∀ (a : Act) (x y : Tmp) (p k n c : Nat) (A : Option Addr) (v0 : Value) (w : World) (d : Option Tmp) (ty : TypeId) (pos : String) (af : Array Edge), a.tmps.getD x undef = .pointer (some ⟨p, k, none⟩) → a.tmps.getD y undef = .slice A n c → w.cell? ⟨p, k, none⟩ = some v0 → w.frozen? ⟨p, k, none⟩ = false → (execOp a.eval { dst := d, op := .store T (.tmp x) (.tmp y), type := ty, pos := pos, after := af, guard := none }).run Try.prog w = .ok .skip (w.setCell ⟨p, k, none⟩ (.slice A n c))

def encV {α : Type} (val : α → Value) (y : α) : List Value := [val y]

theorem encV_len {α : Type} (val : α → Value) (y : α) : (encV val y).length = 1 := rfl

def valI (y : Int) : Value := .int .i64 y

def valR (x : Option Addr × Nat × Nat) : Value := .slice x.1 x.2.1 x.2.2

theorem push_N : PushT valI 30 2 1 8 where
  et := etI64s
  one := fun _ => rfl
  ne := by decide
  fa := by intro a x p w d ty pos af hx; simp only [execOp, Act.eval, hx]; go_simp
  lt := by intro a x p k v w d ty pos af hx h0; simp only [execOp, Act.eval, hx]; go_simp
  le := by intro a x p k v w d ty pos af hx h0; simp only [execOp, Act.eval, hx]; go_simp
  ix := by intro a x y b o n c i w d ty pos af hi hx hy; have h2 : (i : Int) < (n : Int) := by omega
           simp only [execOp, Act.eval, hx, hy]; go_simp
  bs := by intro a x y w d ty pos af hx; simp only [execOp, Act.eval, hx, List.map_toArray, List.map, valI]; go_simp
  st := by intro a x y p k n c A v0 w d ty pos af hx hy h0 h1; simp only [execOp, Act.eval, hx, hy]; go_simp

theorem push_M : PushT valI 22 3 2 8 where
  et := etInts
  one := fun _ => rfl
  ne := by decide
  fa := by intro a x p w d ty pos af hx; simp only [execOp, Act.eval, hx]; go_simp
  lt := by intro a x p k v w d ty pos af hx h0; simp only [execOp, Act.eval, hx]; go_simp
  le := by intro a x p k v w d ty pos af hx h0; simp only [execOp, Act.eval, hx]; go_simp
  ix := by intro a x y b o n c i w d ty pos af hi hx hy; have h2 : (i : Int) < (n : Int) := by omega
           simp only [execOp, Act.eval, hx, hy]; go_simp
  bs := by intro a x y w d ty pos af hx; simp only [execOp, Act.eval, hx, List.map_toArray, List.map, valI]; go_simp
  st := by intro a x y p k n c A v0 w d ty pos af hx hy h0 h1; simp only [execOp, Act.eval, hx, hy]; go_simp

theorem push_R : PushT valR 29 22 0 24 where
  et := etRows
  one := fun _ => rfl
  ne := by decide
  fa := by intro a x p w d ty pos af hx; simp only [execOp, Act.eval, hx]; go_simp
  lt := by intro a x p k v w d ty pos af hx h0; simp only [execOp, Act.eval, hx]; go_simp
  le := by intro a x p k v w d ty pos af hx h0; simp only [execOp, Act.eval, hx]; go_simp
  ix := by intro a x y b o n c i w d ty pos af hi hx hy; have h2 : (i : Int) < (n : Int) := by omega
           simp only [execOp, Act.eval, hx, hy]; go_simp
  bs := by intro a x y w d ty pos af hx; simp only [execOp, Act.eval, hx, List.map_toArray, List.map, valR]; go_simp
  st := by intro a x y p k n c A v0 w d ty pos af hx hy h0 h1; simp only [execOp, Act.eval, hx, hy]; go_simp

end Go.Proofs.Ytbbfnbnjaiimgaa

/-
  'out.X = append(out.X, r.X[i])' in a region whose order is drawn, by what its slots hold.
-/
namespace Go.Proofs.Ytbbfnbnjaiimgaa
open Go.RowKit
set_option linter.unusedVariables false

def pushOps (a b ix d0 d1 d2 d3 d4 d5 d6 d7 d8 d9 f T E : Nat) (pos : String) (aft : Array Edge) : Array Oper := #[{ dst := some d0, op := .fieldAddr 32 (.tmp a) f, type := 0, pos := pos, after := #[], guard := none },
  { dst := some d1, op := .load T (.tmp d0), type := T, pos := pos, after := #[⟨0, .data⟩], guard := none },
  { dst := some d2, op := .fieldAddr 32 (.tmp b) f, type := 0, pos := pos, after := #[], guard := none },
  { dst := some d3, op := .load T (.tmp d2), type := T, pos := pos, after := #[⟨2, .data⟩], guard := none },
  { dst := some d4, op := .move (.tmp ix), type := 3, pos := pos, after := #[], guard := none },
  { dst := some d5, op := .indexAddr T (.tmp d3) (.tmp d4), type := 0, pos := pos, after := #[⟨3, .data⟩, ⟨4, .data⟩], guard := none },
  { dst := some d6, op := .load E (.tmp d5), type := E, pos := pos, after := #[⟨5, .data⟩], guard := none },
  { dst := some d7, op := .buildSlice T 1 #[(0, .tmp d6)], type := T, pos := pos, after := #[⟨6, .data⟩], guard := none },
  { dst := some d8, op := .call { callee := .builtin .append, args := #[.tmp d1, .tmp d7], argTypes := #[T, T] }, type := T, pos := pos, after := #[⟨1, .data⟩, ⟨7, .data⟩], guard := none },
  { dst := some d9, op := .fieldAddr 32 (.tmp a) f, type := 0, pos := pos, after := #[⟨0, .phase⟩, ⟨1, .phase⟩, ⟨2, .phase⟩, ⟨3, .phase⟩, ⟨4, .phase⟩, ⟨5, .phase⟩, ⟨6, .phase⟩, ⟨7, .phase⟩, ⟨8, .phase⟩], guard := none },
  { dst := none, op := .store T (.tmp d9) (.tmp d8), type := 0, pos := pos, after := aft, guard := none }]

section

variable {α : Type} {enc : α → List Value} {val : α → Value} {T E f bytes : Nat}

/-- What each operation leaves in its slot. -/
def PS15 (enc : α → List Value) (E pa pb f sb so n c i B hz : Nat) (cur : Value) (xs : List α) (y : α) (vy : Value) (q : Nat) (u : Value) (w : World) : Prop := match q with
  | 0 => u = .pointer (some ⟨pa, f, none⟩)
  | 1 => u = cur
  | 2 => u = .pointer (some ⟨pb, f, none⟩)
  | 3 => u = .slice (some ⟨sb, so, none⟩) n c
  | 4 => u = .int .i64 (i : Int)
  | 5 => u = .pointer (some ⟨sb, so + i, none⟩)
  | 6 => u = vy
  | 7 => ∃ h, u = .slice (some ⟨h, 0, none⟩) 1 1 ∧ hz ≤ h ∧ Blk w h E #[vy]
  | 8 => OK enc 1 E w B u (xs ++ [y]) ∧ ∃ A n c, u = .slice A n c
  | 9 => u = .pointer (some ⟨pa, f, none⟩)
  | _ => True

theorem ps_same {E pa pb sb so n c i B hz : Nat} {cur : Value} {xs : List α} {y : α} {vy : Value} (q : Nat) (u : Value) (w w' : World) (h7 : ∀ h, hz ≤ h → Blk w h E #[vy] → Blk w' h E #[vy]) (h8 : q = 8 → ∀ zs, OK enc 1 E w B u zs → OK enc 1 E w' B u zs) (h : PS15 enc E pa pb f sb so n c i B hz cur xs y vy q u w) : PS15 enc E pa pb f sb so n c i B hz cur xs y vy q u w' := by
  match q, h, h8 with
  | 0, h, _ => exact h
  | 1, h, _ => exact h
  | 2, h, _ => exact h
  | 3, h, _ => exact h
  | 4, h, _ => exact h
  | 5, h, _ => exact h
  | 6, h, _ => exact h
  | 7, h, _ =>
    obtain ⟨hh, e, n1, hb⟩ := h
    exact ⟨hh, e, n1, h7 hh n1 hb⟩
  | 8, h, h8 => exact ⟨h8 rfl _ h.1, h.2⟩
  | 9, h, _ => exact h
  | q + 10, h, _ => trivial

/-- What holds of the world while the region runs. -/
structure PI15 (enc : α → List Value) (E B : Nat) (w0 : World) (cur : Value) (xs : List α) (Done : World → Prop) (L : Array Bool) (w : World) : Prop where
  mid : L.getD 10 false = false → w0.grownBy w cur.ownBlock
  cur : L.getD 8 false = false → OK enc 1 E w B cur xs
  done : L.getD 10 false = true → Done w
  all : L.getD 10 false = true → ∀ q, q < 10 → L.getD q false = true

section

variable {B : Nat} {w0 w w' : World} {cur : Value} {xs : List α} {Done : World → Prop} {L : Array Bool}

theorem PI15.notst (h : PI15 enc E B w0 cur xs Done L w) {i : Nat} (hi : i < 10) (h0 : L.getD i false = false) : L.getD 10 false = false := by
  cases hL : L.getD 10 false with
  | false => rfl
  | true => have := h.all hL i hi; rw [h0] at this; cases this

theorem set_other' {L : Array Bool} {i k : Nat} (h : i ≠ k) : (L.setIfInBounds i true).getD k false = L.getD k false := getD_set_ne false h

theorem set_same' {L : Array Bool} {i : Nat} (hs : i < L.size) : (L.setIfInBounds i true).getD i false = true := by simp [hs]

theorem PI15.keep (h : PI15 enc E B w0 cur xs Done L w) {i : Nat} (hi : i < 10) (h0 : L.getD i false = false) (h8 : i ≠ 8) : PI15 enc E B w0 cur xs Done (L.setIfInBounds i true) w := by
  have hn := h.notst hi h0
  have k10 : (L.setIfInBounds i true).getD 10 false = false := by rw [set_other' (by omega)]; exact hn
  refine ⟨fun _ => h.mid hn, fun e => h.cur (by rw [set_other' h8] at e; exact e), fun e => ?_, fun e => ?_⟩
  · rw [k10] at e; cases e
  · rw [k10] at e; cases e

theorem PI15.turn (h : PI15 enc E B w0 cur xs Done L w) {i : Nat} (hi : i < 10) (h0 : L.getD i false = false) (hs : i < L.size) (hm : w0.grownBy w' cur.ownBlock) (hc : i ≠ 8 → OK enc 1 E w B cur xs → OK enc 1 E w' B cur xs) : PI15 enc E B w0 cur xs Done (L.setIfInBounds i true) w' := by
  have hn := h.notst hi h0
  have k10 : (L.setIfInBounds i true).getD 10 false = false := by rw [set_other' (by omega)]; exact hn
  refine ⟨fun _ => hm, fun e => ?_, fun e => ?_, fun e => ?_⟩
  · by_cases h8 : i = 8
    · subst h8; rw [set_same' hs] at e; cases e
    · rw [set_other' h8] at e; exact hc h8 (h.cur e)
  · rw [k10] at e; cases e
  · rw [k10] at e; cases e

theorem PI15.st (hs : L.size = 11) (hall : ∀ q, q < 10 → L.getD q false = true) (hd : Done w') : PI15 enc E B w0 cur xs Done (L.setIfInBounds 10 true) w' := by
  have k10 : (L.setIfInBounds 10 true).getD 10 false = true := set_same' (by omega)
  have kq : ∀ q, q < 10 → (L.setIfInBounds 10 true).getD q false = true := fun q hq => by rw [set_other' (by omega)]; exact hall q hq
  exact ⟨fun e => by (rw [k10] at e; cases e), fun e => by (rw [kq 8 (by omega)] at e; cases e), fun _ => hd, fun _ => kq⟩

end

theorem ro_app {a : Act} {x y h T : Nat} {ty : TypeId} {pos : String} {d : Option Tmp} {af : Array Edge} {v v' : Value} {w w' : World} (hx : a.tmps.getD x undef = v) (hy : a.tmps.getD y undef = .slice (some ⟨h, 0, none⟩) 1 1) (hrun : (Builtin.append_ #[T, T] ty #[v, .slice (some ⟨h, 0, none⟩) 1 1]).run Try.prog w = .ok v' w') :
    (execOp a.eval { dst := d, op := .call { callee := .builtin .append, args := #[.tmp x, .tmp y], argTypes := #[T, T] }, type := ty, pos := pos, after := af, guard := none }).run Try.prog w = .ok (.value v') w' := by
  simp only [execOp, resolve, invoke, builtin, Sem.run_bind, Sem.run_pure, Result.andThen_ok, List.map_toArray, List.map_cons, List.map_nil, Act.eval, hx, hy, hrun]

theorem grown_trans {w w1 w2 : World} {row : Option Nat} (h : w.grownBy w1 row) (h' : w1.grownBy w2 row) : w.grownBy w2 row := grownBy_trans h h'

set_option maxHeartbeats 2000000 in
theorem wp_push {id : Nat} {a b ix d0 d1 d2 d3 d4 d5 d6 d7 d8 d9 : Nat} {pos : String} {aft : Array Edge} {Q : Exit → Act → World → Prop} {a0 : Act} {w0 : World}
    (pt : PushT val T E f bytes) (henc : ∀ y, enc y = [val y])
    (hwait : waitsBack .any (pushOps a b ix d0 d1 d2 d3 d4 d5 d6 d7 d8 d9 f T E pos aft) = true) (hown : ownSlots (pushOps a b ix d0 d1 d2 d3 d4 d5 d6 d7 d8 d9 f T E pos aft) a0.tmps.size = true)
    (hst : aft = #[⟨9, .data⟩, ⟨8, .data⟩, ⟨8, .chain⟩, ⟨0, .phase⟩, ⟨1, .phase⟩, ⟨2, .phase⟩, ⟨3, .phase⟩, ⟨4, .phase⟩, ⟨5, .phase⟩, ⟨6, .phase⟩, ⟨7, .phase⟩, ⟨8, .phase⟩])
    (ua : unwritten (pushOps a b ix d0 d1 d2 d3 d4 d5 d6 d7 d8 d9 f T E pos aft) a = true) (ub : unwritten (pushOps a b ix d0 d1 d2 d3 d4 d5 d6 d7 d8 d9 f T E pos aft) b = true) (ui : unwritten (pushOps a b ix d0 d1 d2 d3 d4 d5 d6 d7 d8 d9 f T E pos aft) ix = true)
    {pa pb sb so n c i B : Nat} {cur : Value} {xs : List α} {y : α} {csA csB : Array Value}
    (ha : a0.tmps.getD a undef = .pointer (some ⟨pa, 0, none⟩)) (hb : a0.tmps.getD b undef = .pointer (some ⟨pb, 0, none⟩)) (hi : a0.tmps.getD ix undef = .int .i64 (i : Int)) (hin : i < n)
    (hA : Blk w0 pa 32 csA) (hB : Blk w0 pb 32 csB) (cA : csA[f]? = some cur) (cB : csB[f]? = some (.slice (some ⟨sb, so, none⟩) n c))
    (hy : w0.cell? ⟨sb, so + i, none⟩ = some (val y)) (hsb : cur.ownBlock ≠ some sb) (ho : OK enc 1 E w0 B cur xs) (hl : xs.length + 1 ≤ 1000000) (hBw : B ≤ w0.heap.size)
    (hK : ∀ v' w' (y0 : Value) (y1 : Value) (y2 : Value) (y3 : Value) (y4 : Value) (y5 : Value) (y6 : Value) (y7 : Value) (y8 : Value) (y9 : Value), OK enc 1 E w' B v' (xs ++ [y]) → (∃ A n c, v' = .slice A n c) → w0.grownBy w' cur.ownBlock → Blk w' pa 32 csA → Q .normal { tmps := ((((((((((a0.tmps.setIfInBounds d0 y0).setIfInBounds d1 y1).setIfInBounds d2 y2).setIfInBounds d3 y3).setIfInBounds d4 y4).setIfInBounds d5 y5).setIfInBounds d6 y6).setIfInBounds d7 y7).setIfInBounds d8 y8).setIfInBounds d9 y9), defers := a0.defers } (w'.setCell ⟨pa, f, none⟩ v')) :
    (Code.region id (pushOps a b ix d0 d1 d2 d3 d4 d5 d6 d7 d8 d9 f T E pos aft) true).wp Try.prog Q a0 w0 := by
  have hcurA : cur.ownBlock ≠ some pa := by
    rcases ho.2.2 with ⟨e, _⟩ | ⟨g, cap, cs, e, _, hg, _⟩
    · rw [e]; intro e2; cases e2
    · rw [e]
      intro e2
      injection e2 with e2
      subst e2
      exact Blk.ne_ (t := E) (cs := cs) hg hA pt.ne rfl
  have hcurB : cur.ownBlock ≠ some pb := by
    rcases ho.2.2 with ⟨e, _⟩ | ⟨g, cap, cs, e, _, hg, _⟩
    · rw [e]; intro e2; cases e2
    · rw [e]
      intro e2
      injection e2 with e2
      subst e2
      exact Blk.ne_ (t := E) (cs := cs) hg hB pt.ne rfl
  have hcurZ : ∀ h, w0.heap.size ≤ h → some h ≠ cur.ownBlock := fun h hh e => by have := (ho.lt h e.symm).2; omega
  have hgA : ∀ w, w0.grownBy w cur.ownBlock → Blk w pa 32 csA := fun w hg => hA.grown hg (fun e => hcurA e.symm)
  have hgB : ∀ w, w0.grownBy w cur.ownBlock → Blk w pb 32 csB := fun w hg => hB.grown hg (fun e => hcurB e.symm)
  have hlk : ∀ x, (enc x).length = 1 := fun x => by rw [henc]; rfl
  have hl1 : ∀ x, ∀ u ∈ enc x, u.oneCell' = true := fun x u hu => by rw [henc] at hu; rw [List.mem_singleton.1 hu]; exact pt.one x
  have hys : ∀ w, w0.grownBy w cur.ownBlock → w.cell? ⟨sb, so + i, none⟩ = some (val y) := fun w hg => by
    have hlt := World.block_lt_of_cell? w0 _ hy
    exact (World.cell?_of_block (w := w0) (hg.block sb hlt (fun e => hsb e.symm))).trans hy
  refine wp_region_slots (PS15 enc E pa pb f sb so n c i B w0.heap.size cur xs y (val y)) (PI15 enc E B w0 cur xs (fun w => ∃ v' w', w = w'.setCell ⟨pa, f, none⟩ v' ∧ OK enc 1 E w' B v' (xs ++ [y]) ∧ (∃ A n c, v' = .slice A n c) ∧ w0.grownBy w' cur.ownBlock ∧ Blk w' pa 32 csA)) (by kernel_rfl) hwait hown ⟨fun _ => ⟨rfl, rfl, rfl, Nat.le_refl _, fun _ _ _ => rfl⟩, fun _ => ho.drew, fun e => ?_, fun e => ?_⟩ ?_ ?_
  · simp [pushOps] at e
  · simp [pushOps] at e
  · intro L act w q o' h hop h0 hd
    have hsz : L.size = 11 := h.sized
    revert L act w
    revert q o'
    refine each_array ?_
    refine ⟨?_, ?_, ?_, ?_, ?_, ?_, ?_, ?_, ?_, ?_, ?_, trivial⟩ <;> intro L act w h h0 hd hsz
    · exact h.val rfl rfl (pt.fa _ _ _ _ _ _ _ _ ((h.still a ua).trans ha)) (h.world.keep (by decide) h0 (by decide)) rfl
    · exact h.val rfl rfl (pt.lt _ _ _ _ _ _ _ _ _ _ (h.ran 0 _ d0 rfl rfl (hd ⟨0, .data⟩ (by simp) rfl)) (((hgA w (h.world.mid (h.world.notst (by decide) h0))).cell f).trans cA)) (h.world.keep (by decide) h0 (by decide)) rfl
    · exact h.val rfl rfl (pt.fa _ _ _ _ _ _ _ _ ((h.still b ub).trans hb)) (h.world.keep (by decide) h0 (by decide)) rfl
    · exact h.val rfl rfl (pt.lt _ _ _ _ _ _ _ _ _ _ (h.ran 2 _ d2 rfl rfl (hd ⟨2, .data⟩ (by simp) rfl)) (((hgB w (h.world.mid (h.world.notst (by decide) h0))).cell f).trans cB)) (h.world.keep (by decide) h0 (by decide)) rfl
    · exact h.val rfl rfl (ro_move w ((h.still ix ui).trans hi)) (h.world.keep (by decide) h0 (by decide)) rfl
    · exact h.val rfl rfl (pt.ix _ _ _ _ _ _ _ _ _ _ _ _ _ hin (h.ran 3 _ d3 rfl rfl (hd ⟨3, .data⟩ (by simp) rfl)) (h.ran 4 _ d4 rfl rfl (hd ⟨4, .data⟩ (by simp) rfl))) (h.world.keep (by decide) h0 (by decide)) rfl
    · exact h.val rfl rfl (pt.le _ _ _ _ _ _ _ _ _ _ (h.ran 5 _ d5 rfl rfl (hd ⟨5, .data⟩ (by simp) rfl)) (hys w (h.world.mid (h.world.notst (by decide) h0)))) (h.world.keep (by decide) h0 (by decide)) rfl
    · have hmid := h.world.mid (h.world.notst (by decide) h0)
      have hz := hmid.size
      have hal : w.grownBy (w.alloc (.cells #[val y] E)) cur.ownBlock := grownBy_below ((Below.refl _ w).alloc (Nat.le_refl _) _)
      exact h.mem rfl rfl (pt.bs _ _ _ _ _ _ _ _ (h.ran 6 _ d6 rfl rfl (hd ⟨6, .data⟩ (by simp) rfl))) (fun k u hk hs => ps_same k u _ _ (fun _ _ hb => hb.alloc _) (fun _ _ ho => ho.alloc _) hs) (h.world.turn (by decide) h0 (by omega) (grown_trans hmid hal) (fun _ ho => ho.alloc _)) ⟨_, rfl, hz, Blk.new _ _ _⟩
    · have hmid := h.world.mid (h.world.notst (by decide) h0)
      obtain ⟨hh, hx, n1, hbk⟩ := h.ran 7 _ d7 rfl rfl (hd ⟨7, .data⟩ (by simp) rfl)
      have hcur := h.world.cur h0
      obtain ⟨v', w', hrun, k1, k2, k3⟩ := run_app1 (y := y) pt.et hlk hl1 T hcur hh (fun j u hu => by rw [hbk.cell j]; rw [henc] at hu; simpa using hu) hl (Nat.le_trans hBw hmid.size)
      have hv' : ∃ A n c, v' = .slice A n c := by
        obtain ⟨A, c, e, _⟩ := (k1.rk hlk (Nat.le_refl _)).open_
        exact ⟨A, _, c, e⟩
      exact h.mem rfl rfl (ro_app (h.ran 1 _ d1 rfl rfl (hd ⟨1, .data⟩ (by simp) rfl)) hx hrun) (fun k u hk hs => ps_same k u _ _ (fun h2 hz2 hb => hb.grown k2 (hcurZ h2 hz2)) (fun e => by (rw [e, h0] at hk; cases hk)) hs) (h.world.turn (by decide) h0 (by omega) (grown_trans hmid k2) (fun e => absurd rfl e)) ⟨k1, hv'⟩
    · exact h.val rfl rfl (pt.fa _ _ _ _ _ _ _ _ ((h.still a ua).trans ha)) (h.world.keep (by decide) h0 (by decide)) rfl
    · subst hst
      have hmid := h.world.mid h0
      obtain ⟨k1, A, n', c', e8⟩ := h.ran 8 _ d8 rfl rfl (hd ⟨8, .data⟩ (by simp) rfl)
      have hbA := hgA w hmid
      have hfz := hbA.frozen f
      have hc0 := (hbA.cell f).trans cA
      rw [e8] at k1
      refine h.skip rfl rfl (pt.st _ _ _ _ _ _ _ _ _ _ _ _ _ _ (h.ran 9 _ d9 rfl rfl (hd ⟨9, .data⟩ (by simp) rfl)) e8 hc0 hfz) (fun k u hk hs => ps_same k u _ _ (fun h2 hz2 hb => hb.far (p := ⟨pa, f, none⟩) (fun e => by have := hA.lt; have e' : h2 = pa := e; omega) _) (fun _ _ ho => ho.setBlk hbA pt.ne.symm f _) hs) (PI15.st hsz (fun q hq => ?_) ⟨_, w, rfl, k1, ⟨A, n', c', rfl⟩, hmid, hbA⟩) trivial
      match q, hq with
      | 0, _ => exact hd ⟨0, .phase⟩ (by simp) rfl
      | 1, _ => exact hd ⟨1, .phase⟩ (by simp) rfl
      | 2, _ => exact hd ⟨2, .phase⟩ (by simp) rfl
      | 3, _ => exact hd ⟨3, .phase⟩ (by simp) rfl
      | 4, _ => exact hd ⟨4, .phase⟩ (by simp) rfl
      | 5, _ => exact hd ⟨5, .phase⟩ (by simp) rfl
      | 6, _ => exact hd ⟨6, .phase⟩ (by simp) rfl
      | 7, _ => exact hd ⟨7, .phase⟩ (by simp) rfl
      | 8, _ => exact hd ⟨8, .data⟩ (by simp) rfl
      | 9, _ => exact hd ⟨9, .data⟩ (by simp) rfl
      | q + 10, hq => omega
  · intro L act w hL hdf hsz' hw hother hall
    obtain ⟨v', w', rfl, k1, k2, k3, k4⟩ := hw.done (hL 10 (by simp [pushOps]))
    obtain ⟨tm, df⟩ := act
    have hdf' : df = a0.defers := hdf
    subst hdf'
    have htm := tmps_eq [d0, d1, d2, d3, d4, d5, d6, d7, d8, d9] (by simp [pushOps]) hsz' hother
    dsimp only at htm
    simp only [List.foldl] at htm
    rw [htm]
    exact hK v' w' (tm.getD d0 undef) (tm.getD d1 undef) (tm.getD d2 undef) (tm.getD d3 undef) (tm.getD d4 undef) (tm.getD d5 undef) (tm.getD d6 undef) (tm.getD d7 undef) (tm.getD d8 undef) (tm.getD d9 undef) k1 k2 k3 k4

end

end Go.Proofs.Ytbbfnbnjaiimgaa
