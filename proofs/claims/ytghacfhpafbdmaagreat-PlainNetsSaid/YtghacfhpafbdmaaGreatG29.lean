/-
  The walk of plain's walkFrom.
-/
import Derived.Test.YtghacfhpafbdmaaGreatG28
import Derived.StillTailTactics
namespace Go.Proofs.YtghacfhpafbdmaaGreat
open Go.RowKit Go.Sort
set_option linter.unusedVariables false

/-- The state behind walkFrom's first statement. -/
def bfirst (n s : Nat) : Bs := ⟨[s], List.replicate n (0, default), List.replicate n 0, List.replicate n false⟩
/-- What the steps of walkFrom's first statement leave in their slots. -/
def SWalk (B n s : Nat) (i : Nat) (x : Value) (w : World) : Prop := match i with
  | 0 => x = .int .i64 (s : Int)
  | 1 => ∃ g, x = .slice (some ⟨g, 0, none⟩) 1 1 ∧ OK encI 1 3 w B x [natI s]
  | 2 => x = .int .i64 (n : Int)
  | 3 => ∃ g, x = .slice (some ⟨g, 0, none⟩) n n ∧ B ≤ g ∧ Blk w g 160 ((bfirst n s).last.flatMap encP).toArray
  | 4 => x = .int .i64 (n : Int)
  | 5 => ∃ g, x = .slice (some ⟨g, 0, none⟩) n n ∧ B ≤ g ∧ Blk w g 2 ((bfirst n s).far.map intV).toArray
  | 6 => x = .int .i64 (n : Int)
  | 7 => ∃ g, x = .slice (some ⟨g, 0, none⟩) n n ∧ B ≤ g ∧ Blk w g 4 ((bfirst n s).known.map boolV).toArray
  | 8 => ∃ g0 gl gf gk, x = .agg #[.slice (some ⟨g0, 0, none⟩) 1 1, .slice (some ⟨gl, 0, none⟩) n n, .slice (some ⟨gf, 0, none⟩) n n, .slice (some ⟨gk, 0, none⟩) n n] ∧ OK encI 1 3 w B (.slice (some ⟨g0, 0, none⟩) 1 1) [natI s] ∧
      B ≤ gl ∧ Blk w gl 160 ((bfirst n s).last.flatMap encP).toArray ∧ B ≤ gf ∧ Blk w gf 2 ((bfirst n s).far.map intV).toArray ∧ B ≤ gk ∧ Blk w gk 4 ((bfirst n s).known.map boolV).toArray
  | _ => ∃ gw gl gf gk ov, x = .pointer (some ⟨gw, 0, none⟩) ∧ WkAt w B gw gl gf gk n ov (bfirst n s)
theorem swalk_stable (B n s : Nat) : ∀ (i : Nat) (x : Value) (w w' : World), SWalk B n s i x w → Below w.heap.size w w' → SWalk B n s i x w' := by
  intro i x w w' h hb
  match i, h with
  | 0, h => exact h
  | 1, ⟨g, h1, h2⟩ => exact ⟨g, h1, h2.below hb⟩
  | 2, h => exact h
  | 3, ⟨g, h1, h2, h3⟩ => exact ⟨g, h1, h2, h3.below hb h3.lt⟩
  | 4, h => exact h
  | 5, ⟨g, h1, h2, h3⟩ => exact ⟨g, h1, h2, h3.below hb h3.lt⟩
  | 6, h => exact h
  | 7, ⟨g, h1, h2, h3⟩ => exact ⟨g, h1, h2, h3.below hb h3.lt⟩
  | 8, ⟨g0, gl, gf, gk, h1, h2, h3, h4, h5, h6, h7, h8⟩ => exact ⟨g0, gl, gf, gk, h1, h2.below hb, h3, h4.below hb h4.lt, h5, h6.below hb h6.lt, h7, h8.below hb h8.lt⟩
  | i + 9, ⟨gw, gl, gf, gk, ov, h1, h2⟩ => exact ⟨gw, gl, gf, gk, ov, h1, h2.below hb⟩

/-- What holds at the head of walkFrom's loop. -/
def OutRel (w : World) (n s gw gl gf gk G B' : Nat) (vs : List Value) (f : Ed → Nat × Nat) (T : List Ed) (ls : List (List Stp)) (i8 : Value) (wr : World) : Prop :=
  ∃ (i : Nat) (ov : Value) (b : Bs), i8 = .int .i64 (i : Int) ∧ i ≤ b.order.length ∧ Stt w wr n gw gl gf gk G B' vs ls ov b ∧ Went f T n s b ∧ brun ls (n + 1 - i) i b = bfs ls n s
/-- .. and at the head of the loop within it. -/
def InRel (w : World) (n gw gl gf gk G B' : Nat) (vs : List Value) (ls : List (List Stp)) (fr : Nat) (l : List Stp) (b : Bs) (j54 : Value) (wr : World) : Prop :=
  ∃ (j : Nat) (ov : Value), j54 = .int .i64 (j : Int) ∧ j ≤ l.length ∧ Stt w wr n gw gl gf gk G B' vs ls ov ((l.take j).foldl (bstep fr) b)

/-- What the steps of 'w.order = append(w.order, s.to)' leave in their slots. -/
def SOrd (wa : World) (B gw eb to pa : Nat) (ov : Value) (xs : List Int) (q : Nat) (x : Value) (w : World) : Prop := match q with
  | 0 => x = .pointer (some ⟨gw, 0, none⟩)
  | 1 => x = .pointer (some ⟨gw, 0, none⟩)
  | 2 => x = .pointer (some ⟨gw, 0, none⟩)
  | 3 => x = .pointer (some ⟨gw, 0, none⟩)
  | 4 => x = ov
  | 5 => x = .pointer (some ⟨eb, 0, none⟩)
  | 6 => x = .int .i64 (to : Int)
  | 7 => x = .slice (some ⟨pa, 0, none⟩) 1 1
  | 8 => OK encI 1 3 w B x (xs ++ [natI to])
  | 9 => x = .pointer (some ⟨gw, 0, none⟩)
  | 10 => x = .pointer (some ⟨gw, 0, none⟩)
  | _ => True
/-- What holds of the world while they run: one step mk makes memory, one step ap appends, the last, st, stores. -/
structure IApp (mk ap st lo hi : Nat) (W wa : World) (row : Option Nat) (F : World → Prop) (L : Array Bool) (w : World) : Prop where
  all : L.getD st false = true → ∀ q, q < st → L.getD q false = true
  fin : L.getD st false = true → F w
  app : L.getD st false = false → L.getD ap false = true → wa.grownBy w row
  new : L.getD ap false = false → L.getD st false = false → L.getD mk false = true → w = wa
  ord : L.getD ap false = true → L.getD mk false = true
  old : L.getD ap false = false → L.getD st false = false → L.getD mk false = false → w = W.drew
  up : L.getD hi false = true → L.getD lo false = true
theorem up_set {L : Array Bool} {lo hi q : Nat} (h : L.getD hi false = true → L.getD lo false = true) (hq : q = hi → L.getD lo false = true) : (L.setIfInBounds q true).getD hi false = true → (L.setIfInBounds q true).getD lo false = true := by
  intro e
  have hlo : L.getD lo false = true := by
    by_cases hqh : q = hi
    · exact hq hqh
    · rw [getD_set_ne false hqh] at e; exact h e
  by_cases hql : lo = q
  · subst hql
    have hl : lo < L.size := by
      rcases Nat.lt_or_ge lo L.size with h' | h'
      · exact h'
      · rw [Array.getD_eq_getD_getElem?, Array.getElem?_eq_none h'] at hlo; cases hlo
    simp [hl]
  · rw [getD_set_ne false (Ne.symm hql)]; exact hlo
section
variable {mk ap st lo hi : Nat} {W wa w : World} {row : Option Nat} {F : World → Prop} {L : Array Bool}
theorem IApp.keep (h : IApp mk ap st lo hi W wa row F L w) {q : Nat} (h9 : q ≠ mk) (h10 : q ≠ ap) (h12 : q ≠ st) (hq : L.getD q false = false) (hlt : q < st) (hup : q = hi → L.getD lo false = true := by intro e; exact absurd e (by decide)) : IApp mk ap st lo hi W wa row F (L.setIfInBounds q true) w := by
  refine ⟨fun hL => ?_, fun hL => ?_, ?_, ?_, ?_, ?_, up_set h.up hup⟩
  · rw [getD_set_ne false h12] at hL
    have := h.all hL q hlt
    rw [hq] at this; cases this
  · rw [getD_set_ne false h12] at hL; exact h.fin hL
  · rw [getD_set_ne false h12, getD_set_ne false h10]; exact h.app
  · rw [getD_set_ne false h12, getD_set_ne false h10, getD_set_ne false h9]; exact h.new
  · rw [getD_set_ne false h10, getD_set_ne false h9]; exact h.ord
  · rw [getD_set_ne false h12, getD_set_ne false h10, getD_set_ne false h9]; exact h.old
theorem IApp.notst (h : IApp mk ap st lo hi W wa row F L w) {q : Nat} (hq : L.getD q false = false) (hlt : q < st) : L.getD st false = false := by
  cases hL : L.getD st false with
  | false => rfl
  | true => have := h.all hL q hlt; rw [hq] at this; cases this
/-- Till the store the world is the first one, grown. -/
theorem IApp.grown (h : IApp mk ap st lo hi W wa row F L w) (hL : L.getD st false = false) (hba : Below W.heap.size W wa) : W.grownBy w row ∧ (L.getD ap false = false → Below W.heap.size W w) := by
  cases h10 : L.getD ap false with
  | true => exact ⟨grownBy_trans (grownBy_below hba) (h.app hL h10), fun e => by cases e⟩
  | false =>
    cases h9 : L.getD mk false with
    | true => rw [h.new h10 hL h9]; exact ⟨grownBy_below hba, fun _ => hba⟩
    | false =>
      rw [h.old h10 hL h9]
      exact ⟨grownBy_below (Below.refl _ _).drew, fun _ => (Below.refl _ _).drew⟩
theorem IApp.mk_ (h : IApp mk ap st lo hi W wa row F L w) (h0 : L.getD mk false = false) (hst : L.getD st false = false) (hms : mk ≠ st) (hma : mk ≠ ap) (hmh : mk ≠ hi) (hsz : mk < L.size) : IApp mk ap st lo hi W wa row F (L.setIfInBounds mk true) wa ∧ w = W.drew ∧ L.getD ap false = false := by
  have h10 : L.getD ap false = false := by
    cases hL : L.getD ap false with
    | false => rfl
    | true => have := h.ord hL; rw [h0] at this; cases this
  refine ⟨⟨?_, ?_, ?_, fun _ _ _ => rfl, ?_, ?_, up_set h.up (fun e => absurd e hmh)⟩, h.old h10 hst h0, h10⟩
  · rw [getD_set_ne false hms, hst]; intro e; cases e
  · rw [getD_set_ne false hms, hst]; intro e; cases e
  · rw [getD_set_ne false hms, getD_set_ne false hma, h10]; intro _ e; cases e
  · rw [getD_set_ne false hma, h10]; intro e; cases e
  · intro _ _ e
    have : (L.setIfInBounds mk true).getD mk false = true := (by simp [hsz])
    rw [this] at e; cases e
theorem IApp.ap_ {w6 : World} (h : IApp mk ap st lo hi W wa row F L w) (h9 : L.getD mk false = true) (hst : L.getD st false = false) (hms : ap ≠ st) (hma : ap ≠ mk) (hmh : ap ≠ hi) (hsz : ap < L.size) (hg : wa.grownBy w6 row) : IApp mk ap st lo hi W wa row F (L.setIfInBounds ap true) w6 := by
  have hap : (L.setIfInBounds ap true).getD ap false = true := (by simp [hsz])
  refine ⟨?_, ?_, fun _ _ => hg, ?_, ?_, ?_, up_set h.up (fun e => absurd e hmh)⟩
  · rw [getD_set_ne false hms, hst]; intro e; cases e
  · rw [getD_set_ne false hms, hst]; intro e; cases e
  · intro e; rw [hap] at e; cases e
  · intro _; rw [getD_set_ne false hma]; exact h9
  · intro e; rw [hap] at e; cases e
theorem IApp.st_ {w6 : World} (h : IApp mk ap st lo hi W wa row F L w) (h10 : L.getD ap false = true) (hms : st ≠ ap) (hma : st ≠ mk) (hmh : st ≠ hi) (hsz : st < L.size) (hall : ∀ q, q < st → L.getD q false = true) (hF : F w6) : IApp mk ap st lo hi W wa row F (L.setIfInBounds st true) w6 := by
  have hst : (L.setIfInBounds st true).getD st false = true := (by simp [hsz])
  refine ⟨fun _ q hq => ?_, fun _ => hF, ?_, ?_, ?_, ?_, up_set h.up (fun e => absurd e hmh)⟩
  · rw [getD_set_ne false (by omega)]; exact hall q hq
  · intro e; rw [hst] at e; cases e
  · intro _ e; rw [hst] at e; cases e
  · intro _; rw [getD_set_ne false hma]; exact h.ord h10
  · intro _ e; rw [hst] at e; cases e
end
section
variable {a : Act} {ty : TypeId} {pos : String} {d : Option Tmp} {af : Array Edge} {g : Option (Nat × Bool)}
theorem ro_nilc {x : Tmp} {p k : Nat} (w : World) (hx : a.tmps.getD x undef = .pointer (some ⟨p, k, none⟩)) :
    (execOp a.eval { dst := d, op := .nilCheck (.tmp x), type := ty, pos := pos, after := af, guard := g }).run Tryz.prog w = .ok (.value (.pointer (some ⟨p, k, none⟩))) w := by
  simp only [execOp, Act.eval, hx]
  go_simp
theorem ro_walk0 {x : Tmp} {p : Nat} (w : World) (hx : a.tmps.getD x undef = .pointer (some ⟨p, 0, none⟩)) :
    (execOp a.eval { dst := d, op := .fieldAddr 156 (.tmp x) 0, type := ty, pos := pos, after := af, guard := g }).run Tryz.prog w = .ok (.value (.pointer (some ⟨p, 0, none⟩))) w := by
  simp only [execOp, Act.eval, hx]
  go_simp
theorem ro_step0 {x : Tmp} {p : Nat} (w : World) (hx : a.tmps.getD x undef = .pointer (some ⟨p, 0, none⟩)) :
    (execOp a.eval { dst := d, op := .fieldAddr 160 (.tmp x) 0, type := ty, pos := pos, after := af, guard := g }).run Tryz.prog w = .ok (.value (.pointer (some ⟨p, 0, none⟩))) w := by
  simp only [execOp, Act.eval, hx]
  go_simp
theorem ro_load22 {x : Tmp} {p k : Nat} {v : Value} (w : World) (hx : a.tmps.getD x undef = .pointer (some ⟨p, k, none⟩)) (h0 : w.cell? ⟨p, k, none⟩ = some v) :
    (execOp a.eval { dst := d, op := .load 22 (.tmp x), type := ty, pos := pos, after := af, guard := g }).run Tryz.prog w = .ok (.value v) w := by
  simp only [execOp, Act.eval, hx]
  go_simp
theorem ro_store22 {x y : Tmp} {p k m c : Nat} {A : Option Addr} {u : Value} (w : World) (hx : a.tmps.getD x undef = .pointer (some ⟨p, k, none⟩)) (hy : a.tmps.getD y undef = .slice A m c) (h0 : w.cell? ⟨p, k, none⟩ = some u) (h1 : w.frozen? ⟨p, k, none⟩ = false) :
    (execOp a.eval { dst := d, op := .store 22 (.tmp x) (.tmp y), type := ty, pos := pos, after := af, guard := g }).run Tryz.prog w = .ok .skip (w.setCell ⟨p, k, none⟩ (.slice A m c)) := by
  simp only [execOp, Act.eval, hx, hy]
  go_simp
end
theorem still_tail_at {P : Program} {id : Nat} {Q : Exit → Act → World → Prop} {a : Act} {w : World} {l : List Oper} (n : Nat) (W2 : World) (hW : W2 = w.drew) (hm : P.follows .mixedOrders = true) (hB : Region.lexTailB .any l.toArray n = true)
    (h : wpStill P l.toArray W2 (fun a' => wpList P l.toArray Q (l.drop n) a' W2) (l.take n) a) : (Code.region id l.toArray true).wp P Q a w := by
  subst hW; exact wp_region_still_tail n hm hB h

set_option maxRecDepth 100000 in
set_option maxHeartbeats 8000000 in
theorem walkFrom_any (sv se : Value) (V : List Int) (E : List Ed) (s : Nat) (w : World) (B : Nat) (hv : RI w B sv V) (he : RE w B se E) (hB : B ≤ w.heap.size) (hr : Right V E) (hs : s < V.length) :
    Calls Tryz.prog 58 #[netV sv se, .int .i64 (s : Int)] w fun e w' => ∃ gw gl gf gk ov, e = .returned (.pointer (some ⟨gw, 0, none⟩)) ∧ WkAt w' w.heap.size gw gl gf gk V.length ov (bfs (waysF (plE V) V.length (forE V E)) V.length s) ∧ Below w.heap.size w w' := by
  have HR := Lib.hid hr
  have hvl := hr.vlen
  have hel := hr.elen
  have HFS := Lib.hid (forE_sub V E)
  clear hr
  have HV := Lib.hid hv
  have HE := Lib.hid he
  obtain ⟨Av, cv, rfl, hv1, hv2, hv3, _⟩ := hv.open_
  clear hv he
  obtain ⟨n, hn⟩ : ∃ n, n = V.length := ⟨_, rfl⟩
  rw [← hn] at hv1 hv3 hvl HV hs ⊢
  have HN := Lib.hid hn
  clear hn
  go_enter Tryz.func58, Tryz.ntmps58
  go_wp2_with fail
  rename_i K hK
  obtain ⟨W, hW⟩ : ∃ W, W = w.alloc (.cells #[.slice Av n cv, se] 25) := ⟨_, rfl⟩
  have hWb : Below w.heap.size w W := by rw [hW]; exact (Below.refl _ _).alloc (Nat.le_refl _) _
  have hWz : W.heap.size = w.heap.size + 1 := by rw [hW]; simp
  have hWn : Blk W w.heap.size 25 #[.slice Av n cv, se] := by rw [hW]; exact Blk.new _ _ _
  have HWN := Lib.hid hWn
  rw [← hW]
  clear hW hWn
  refine wp_region_slots (SWalk w.heap.size n s) (IAts W) (by kernel_rfl) (by kernel_rfl) (by kernel_rfl) ((Below.refl _ _).drew) ?_ ?_
  · intro L a w1 i o' h ho h0 hd
    have hwb : Below W.heap.size W w1 := h.world
    have hz1 := hwb.size
    have hst := fun (w2 : World) (hb : Below w1.heap.size w1 w2) (k : Nat) (v : Value) (_ : L.getD k false = true) (hk : SWalk w.heap.size n s k v w1) => swalk_stable w.heap.size n s k v w1 w2 hk hb
    revert L a w1
    revert i o'
    refine each_array ?_
    refine ⟨?_, ?_, ?_, ?_, ?_, ?_, ?_, ?_, ?_, ?_, ?_, trivial⟩ <;> intro L a w1 h h0 hd hwb hz1 hst
    · exact h.val rfl rfl (ro_move w1 (h.still 1 (by kernel_rfl))) hwb rfl
    · have r0 : a.tmps.getD 15 undef = .int .i64 (s : Int) := h.ran 0 _ 15 rfl rfl (hd ⟨0, .data⟩ (by simp) rfl)
      have hb := (Below.refl w1.heap.size w1).alloc (Nat.le_refl _) (.cells #[.int .i64 (s : Int)] 3)
      refine h.mem rfl rfl (ro_slice3 w1 r0) (hst _ hb) (hwb.trans (hb.mono hz1)) ⟨_, rfl, ⟨by simp, ?_⟩⟩
      exact World.ownsRow_lit w1 #[.int .i64 (s : Int)] 1 (by omega) (by decide) rfl
    · exact h.val rfl rfl (ro_move w1 (h.still 5 (by kernel_rfl))) hwb rfl
    · have r0 : a.tmps.getD 17 undef = .int .i64 (n : Int) := h.ran 2 _ 17 rfl rfl (hd ⟨2, .data⟩ (by simp) rfl)
      have hb := (Below.refl w1.heap.size w1).alloc (Nat.le_refl _) (.cells (madeCells #[.int .i64 0, .int .i64 0, .int .i64 0, .int .i64 0, .int .i64 0] (n * 5)) 160)
      refine h.mem rfl rfl (ro_make w1 r0 (run_make153 n (by omega) w1)) (hst _ hb) (hwb.trans (hb.mono hz1)) ⟨_, rfl, by omega, ?_⟩
      have := Blk.new w1 160 (madeCells #[.int .i64 0, .int .i64 0, .int .i64 0, .int .i64 0, .int .i64 0] (n * 5))
      rw [made_last] at this ⊢
      exact this
    · exact h.val rfl rfl (ro_move w1 (h.still 5 (by kernel_rfl))) hwb rfl
    · have r0 : a.tmps.getD 19 undef = .int .i64 (n : Int) := h.ran 4 _ 19 rfl rfl (hd ⟨4, .data⟩ (by simp) rfl)
      have hb := (Below.refl w1.heap.size w1).alloc (Nat.le_refl _) (.cells (madeCells #[.int .i64 0] n) 2)
      refine h.mem rfl rfl (ro_make w1 r0 (run_make114 n (by omega) w1)) (hst _ hb) (hwb.trans (hb.mono hz1)) ⟨_, rfl, by omega, ?_⟩
      have := Blk.new w1 2 (madeCells #[.int .i64 0] n)
      have e : madeCells #[.int .i64 0] n = ((bfirst n s).far.map intV).toArray := by
        rw [show (bfirst n s).far.map intV = List.replicate n (.int .i64 0) by simp [bfirst, intV], ← toList_madeCells_one]
      rw [e] at this ⊢
      exact this
    · exact h.val rfl rfl (ro_move w1 (h.still 5 (by kernel_rfl))) hwb rfl
    · have r0 : a.tmps.getD 21 undef = .int .i64 (n : Int) := h.ran 6 _ 21 rfl rfl (hd ⟨6, .data⟩ (by simp) rfl)
      have hb := (Below.refl w1.heap.size w1).alloc (Nat.le_refl _) (.cells (madeCells #[.bool false] n) 4)
      refine h.mem rfl rfl (ro_make w1 r0 (run_make154 n (by omega) w1)) (hst _ hb) (hwb.trans (hb.mono hz1)) ⟨_, rfl, by omega, ?_⟩
      have := Blk.new w1 4 (madeCells #[.bool false] n)
      have e : madeCells #[.bool false] n = ((bfirst n s).known.map boolV).toArray := by
        rw [show (bfirst n s).known.map boolV = List.replicate n (.bool false) by simp [bfirst, boolV], ← toList_madeCells_one]
      rw [e] at this ⊢
      exact this
    · obtain ⟨g0, r1, o1⟩ := h.ran 1 _ 16 rfl rfl (hd ⟨1, .data⟩ (by simp) rfl)
      obtain ⟨gl, r3, b3, o3⟩ := h.ran 3 _ 18 rfl rfl (hd ⟨3, .data⟩ (by simp) rfl)
      obtain ⟨gf, r5, b5, o5⟩ := h.ran 5 _ 20 rfl rfl (hd ⟨5, .data⟩ (by simp) rfl)
      obtain ⟨gk, r7, b7, o7⟩ := h.ran 7 _ 22 rfl rfl (hd ⟨7, .data⟩ (by simp) rfl)
      refine h.val rfl rfl (ro_build156 w1 r1 r3 r5 r7) hwb ⟨g0, gl, gf, gk, rfl, by rw [← r1]; exact o1, b3, o3, b5, o5, b7, o7⟩
    · obtain ⟨g0, gl, gf, gk, r8, o0, b3, o3, b5, o5, b7, o7⟩ := h.ran 8 _ 23 rfl rfl (hd ⟨8, .data⟩ (by simp) rfl)
      have hb := (Below.refl w1.heap.size w1).alloc (Nat.le_refl _) (.cells #[.slice (some ⟨g0, 0, none⟩) 1 1, .slice (some ⟨gl, 0, none⟩) n n, .slice (some ⟨gf, 0, none⟩) n n, .slice (some ⟨gk, 0, none⟩) n n] 156)
      refine h.mem rfl rfl (ro_box156 w1 r8) (hst _ hb) (hwb.trans (hb.mono hz1)) ⟨w1.heap.size, gl, gf, gk, _, rfl, ⟨Blk.new _ _ _, o0.alloc _, o3.alloc _, o5.alloc _, o7.alloc _, ?_, ?_, ?_, by omega, b3, b5, b7⟩⟩
      · simp [bfirst]
      · simp [bfirst]
      · simp [bfirst]
    · exact h.val rfl rfl (ro_assign w1 rfl) hwb (h.ran 9 _ 24 rfl rfl (hd ⟨9, .data⟩ (by simp) rfl))
  · intro L a w1 hL hdf hsz' hw hother hall
    have hwb : Below W.heap.size W w1 := hw
    obtain ⟨gw, gl, gf, gk, ov, h10, hwk⟩ := hall 10 _ 6 rfl rfl
    have hnet := HWN.out.below hwb (by omega)
    have hbw : Below w.heap.size w w1 := hWb.trans (hwb.mono (by omega))
    have hz1 := hwb.size
    refine hK _ _ ?_
    obtain ⟨tm, df⟩ := a
    obtain rfl : df = [] := hdf
    have htm := tmps_eq [15, 16, 17, 18, 19, 20, 21, 22, 23, 24, 6] (by kernel_rfl) hsz' hother
    dsimp only at htm h10
    simp only [List.foldl] at htm
    rw [h10] at htm
    generalize tm.getD 15 undef = y15 at htm
    generalize tm.getD 16 undef = y16 at htm
    generalize tm.getD 17 undef = y17 at htm
    generalize tm.getD 18 undef = y18 at htm
    generalize tm.getD 19 undef = y19 at htm
    generalize tm.getD 20 undef = y20 at htm
    generalize tm.getD 21 undef = y21 at htm
    generalize tm.getD 22 undef = y22 at htm
    generalize tm.getD 23 undef = y23 at htm
    generalize tm.getD 24 undef = y24 at htm
    clear hother hall hsz' h10 hw
    rw [htm]
    clear htm
    have HWK := Lib.hid hwk
    have HNET := Lib.hid hnet
    have HBW := Lib.hid hbw
    have a3 : w1.cell? ⟨gw, 3, none⟩ = some (.slice (some ⟨gk, 0, none⟩) n n) := hwk.head.cell 3
    obtain ⟨u0, k0⟩ := hwk.known.setAt s (by simp [bfirst]; exact hs)
    have kf := hwk.known.frozen s
    have hsn : (s : Int) < n := by omega
    have d0 : (w1.setCell ⟨gk, s, none⟩ (.bool true)).cell? ⟨w.heap.size, 0, none⟩ = some (.slice Av n cv) := (hnet.far (p := ⟨gk, s, none⟩) (hnet.ne_ hwk.known (by decide)) _).cell 0
    have d1 : (w1.setCell ⟨gk, s, none⟩ (.bool true)).cell? ⟨w.heap.size, 1, none⟩ = some se := (hnet.far (p := ⟨gk, s, none⟩) (hnet.ne_ hwk.known (by decide)) _).cell 1
    clear hL hwk hnet hbw
    simp only [List.setIfInBounds_toArray, List.set_cons_succ, List.set_cons_zero]
    go_wp2_with fail
    have hwk2 : WkAt (w1.setCell ⟨gk, s, none⟩ (.bool true)) w.heap.size gw gl gf gk n ov (bstart n s) := HWK.out.setKnown s
    have HB2 : Hid (Below w.heap.size w (w1.setCell ⟨gk, s, none⟩ (.bool true))) := HBW.out.setCell HWK.out.bk _
    have HK2 := Lib.hid hwk2
    clear hwk2
    refine (waysOf_any _ _ V E _ B (HV.out.below (HB2.out.mono hB)) (HE.out.below (HB2.out.mono hB)) (by simp; omega) HR.out).mono ?_
    rw [← HN.out]
    rintro e w2 ⟨G, vs, rfl, hG, hzw, ⟨B', hB', hgrp⟩, hb2⟩
    have HST : Hid (Stt w w2 n gw gl gf gk G B' vs (waysF (plE V) n (forE V E)) ov (bstart n s)) := ⟨HB2.out.trans (hb2.mono (by simp; omega)), HK2.out.below hb2, hgrp, by have := HK2.out.last.lt; omega, by simp at hB'; omega⟩
    clear hgrp hb2 a3 k0 kf d0 d1
    go_wp2_with fail
    obtain ⟨ls, hls⟩ : ∃ ls, ls = waysF (plE V) n (forE V E) := ⟨_, rfl⟩
    rw [← hls] at HST
    have HLs := Lib.hid hls
    clear hls HWK HNET HBW HB2 HK2 hwb hWb hz1 hWz HWN
    have hTn : ∀ e ∈ forE V E, (plE V e).1 < n ∧ (plE V e).2 < n := fun e he => by
      have := HFS.out e he
      rw [HN.out]
      exact ⟨pl_lt HR.out.vup (HR.out.eu e this), pl_lt HR.out.vup (HR.out.ev e this)⟩
    have HT := Lib.hid hTn
    have hTw : ∀ e ∈ forE V E, 0 ≤ e.w ∧ e.w ≤ 1099511627776 := fun e he => HR.out.ew e (HFS.out e he)
    have HW := Lib.hid hTw
    have hls_len : ls.length = n := by rw [HLs.out]; unfold waysF; rw [length_waysF]; simp
    have HLl := Lib.hid hls_len
    clear hTn hTw hls_len
    go_loopw [8] (fun i wr => OutRel w n s gw gl gf gk G B' vs (plE V) (forE V E) ls i wr) (fun i wr => n + 1 - (intOf i).toNat)
    case atStart =>
      refine ⟨0, ov, bstart n s, rfl, Nat.zero_le _, HST.out, went_start hs, ?_⟩
      rfl
    case round =>
      obtain ⟨i, ov, b, rfl, hil, hst, hwent, hrun⟩ := hrel
      have HS := Lib.hid hst
      have HGo := Lib.hid hwent
      have HRun := Lib.hid hrun
      have hbl := hwent.len
      have hne : b.order ≠ [] := by intro e; have := hwent.first; rw [e] at this; simp at this
      have hnem : b.order.map natI ≠ [] := by simpa using hne
      obtain ⟨go, co, hov, ho1, ho2, ho3, ho4, hoc⟩ := hst.wk.order.row encI_len hnem
      rw [List.length_map] at hov ho3
      subst hov
      have a0 : wr.cell? ⟨gw, 0, none⟩ = some (.slice (some ⟨go, 0, none⟩) b.order.length co) := hst.wk.head.cell 0
      obtain ⟨m, hm⟩ : ∃ m, m = b.order.length := ⟨_, rfl⟩
      rw [← hm] at hil hbl ho3 a0
      have HM := Lib.hid hm
      by_cases hlt : i < m
      · obtain ⟨fr, hfr⟩ : ∃ fr, b.order[i]? = some fr := ⟨b.order[i]'(by omega), List.getElem?_eq_getElem _⟩
        have hfrn : fr < n := hwent.lt (List.mem_of_getElem? hfr)
        have o0 : wr.cell? ⟨go, i, none⟩ = some (.int .i64 (fr : Int)) := by
          have := hoc i (natI fr) (by simp [hfr]) 0 _ rfl
          simpa [natI] using this
        obtain ⟨vf, hvf⟩ : ∃ vf, vs[fr]? = some vf := ⟨vs[fr]'(by rw [hst.grp.len, HLl.out]; exact hfrn), List.getElem?_eq_getElem _⟩
        have hlf : ls[fr]? = some (wys ls fr) := wys_get (by rw [HLl.out]; exact hfrn)
        have hovf := hst.grp.own fr vf _ hvf hlf
        obtain ⟨Af, cf, rfl⟩ := hovf.slice
        have g0 : wr.cell? ⟨G, fr, none⟩ = some (.slice Af (wys ls fr).length cf) := (hst.grp.blk.cell fr).trans (by simpa using hvf)
        have hfi : (fr : Int) < n := by omega
        have hwl : (wys ls fr).length ≤ 1000000 := by
          have := wys_len_aux (plE V) (forE V E) (List.replicate n []) 0 (by simpa using HT.out) (fun i => by simp [wys, List.getD, List.getElem?_replicate]; split <;> simp) fr
          have h2 := forE_len V E
          rw [HLs.out]
          unfold waysF
          omega
        obtain ⟨l, hl⟩ : ∃ l, l = wys ls fr := ⟨_, rfl⟩
        rw [← hl] at g0 hwl
        have HL := Lib.hid hl
        obtain ⟨ml, hml⟩ : ∃ ml, ml = l.length := ⟨_, rfl⟩
        rw [← hml] at g0 hwl
        have HMl := Lib.hid hml
        have HVF : Hid (vs[fr]? = some (.slice Af ml cf)) := by show _ = _; rw [hvf, HMl.out, HL.out]
        have HFR := Lib.hid hfr
        have HLF : Hid (ls[fr]? = some l) := by show _ = _; rw [HL.out]; exact hlf
        clear hst hwent hrun hoc hvf hlf hovf hl hml hfr hne hnem hm
        go_wp2_with fail
        clear a0 o0 g0
        obtain ⟨wo, rfl⟩ : ∃ wo : World, wo = wr := ⟨_, rfl⟩
        go_loopw [54] (fun j wr => InRel w n gw gl gf gk G B' vs ls fr l b j wr) (fun j wr => ml - (intOf j).toNat)
        case atStart => exact ⟨0, _, rfl, Nat.zero_le _, HS.out⟩
        case round =>
          obtain ⟨j, ov2, rfl, hjl, hst2⟩ := hrel
          rw [← HMl.out] at hjl
          obtain ⟨bj, hbj⟩ : ∃ bj, bj = (l.take j).foldl (bstep fr) b := ⟨_, rfl⟩
          rw [← hbj] at hst2
          have hwj : Went (plE V) (forE V E) n s bj ∧ Ext b bj := by
            have := bsteps_went_aux (f := plE V) (T := forE V E) (n := n) (s := s) (i := i) (fr := fr) HT.out (l.take j) b HGo.out HFR.out (fun p hp => by
              have hp' : p ∈ wys (waysF (plE V) n (forE V E)) fr := by rw [← HLs.out, ← HL.out]; exact List.mem_of_mem_take hp
              exact (mem_waysF HT.out fr p).1 hp')
            rw [hbj]; exact ⟨this.1, this.2.1⟩
          have HWj := Lib.hid hwj
          have HBj := Lib.hid hbj
          clear hwj hbj
          by_cases hlt2 : j < ml
          · obtain ⟨p, hp⟩ : ∃ p, l[j]? = some p := ⟨l[j]'(by have := HMl.out; omega), List.getElem?_eq_getElem _⟩
            have hpm : p.2 ∈ forE V E ∧ Leads (plE V) p.2 fr p.1 := by
              have hp' : p ∈ wys (waysF (plE V) n (forE V E)) fr := by rw [← HLs.out, ← HL.out]; exact List.mem_of_getElem? hp
              exact (mem_waysF HT.out fr p).1 hp'
            have hpn := (hpm.2.lt HT.out hpm.1).2
            have hovf2 := hst2.grp.own fr _ l HVF.out HLF.out
            obtain ⟨gq, cq, hAq, _, hgq, _, _, hcq⟩ := hovf2.row encP_len (by intro e; rw [e] at hp; simp at hp)
            have hA : Af = some ⟨gq, 0, none⟩ := by injection hAq
            subst hA
            have y0 : wr.cell? ⟨gq, j * 5, none⟩ = some (.int .i64 (p.1 : Int)) := hcq j p hp 0 _ rfl
            have y1 : wr.cell? ⟨gq, j * 5 + 1, none⟩ = some (.int .i64 p.2.id) := hcq j p hp 1 _ rfl
            have y2 : wr.cell? ⟨gq, j * 5 + 2, none⟩ = some (.int .i64 p.2.u) := hcq j p hp 2 _ rfl
            have y3 : wr.cell? ⟨gq, j * 5 + 3, none⟩ = some (.int .i64 p.2.v) := hcq j p hp 3 _ rfl
            have y4 : wr.cell? ⟨gq, j * 5 + 4, none⟩ = some (.int .i64 p.2.w) := hcq j p hp 4 _ rfl
            have hstep : (l.take (j + 1)).foldl (bstep fr) b = bstep fr bj p := by
              rw [List.take_add_one, hp, List.foldl_append, HBj.out]; rfl
            have HStep := Lib.hid hstep
            have hpw := HW.out p.2 hpm.1
            have HP := Lib.hid hpm
            have HS2 := Lib.hid hst2
            clear hst2 hovf2 hcq hAq hstep hp hpm
            obtain ⟨to, eid, eu, ev, ew⟩ := p
            dsimp only at *
            go_wp2_with fail
            obtain ⟨W, hW⟩ : ∃ W, W = wr.alloc (.cells #[.int .i64 (to : Int), .int .i64 eid, .int .i64 eu, .int .i64 ev, .int .i64 ew] 160) := ⟨_, rfl⟩
            have hSW : Stt w W n gw gl gf gk G B' vs ls ov2 bj := by rw [hW]; exact HS2.out.later ((Below.refl _ _).alloc (Nat.le_refl _) _)
            have hBW : Blk W wr.heap.size 160 #[.int .i64 (to : Int), .int .i64 eid, .int .i64 eu, .int .i64 ev, .int .i64 ew] := by rw [hW]; exact Blk.new _ _ _
            have hlb : gl < wr.heap.size := HS2.out.wk.last.lt
            rw [← hW]
            clear hW y0 y1 y2 y3 y4 HS2
            have HSW := Lib.hid hSW
            have HBW := Lib.hid hBW
            obtain ⟨eb, heb⟩ : ∃ eb, eb = wr.heap.size := ⟨_, rfl⟩
            rw [← heb] at hBW hlb HBW
            simp only [← heb]
            have k3 : W.cell? ⟨gw, 3, none⟩ = some (.slice (some ⟨gk, 0, none⟩) n n) := hSW.wk.head.cell 3
            have e0 : W.cell? ⟨eb, 0, none⟩ = some (.int .i64 (to : Int)) := hBW.cell 0
            have htn : (to : Int) < n := by omega
            have hklen := hSW.wk.klen
            have kk : W.cell? ⟨gk, to, none⟩ = some (.bool (knw bj.known to)) := by
              rw [hSW.wk.known.cell]
              unfold knw
              simp [boolV, List.getD, List.getElem?_eq_getElem (show to < bj.known.length by omega)]
            have HKK := Lib.hid kk
            clear hSW hBW kk heb
            cases hkn : knw bj.known to with
            | true =>
              have kk := HKK.out
              rw [hkn] at kk
              clear HKK
              go_quiet (fail)
              go_wp2_with fail
              go_roundw
              case measure => simp only [intOf]; omega
              case rel =>
                refine ⟨j + 1, ov2, by go_num, by rw [← HMl.out]; omega, ?_⟩
                rw [HStep.out, bstep]
                dsimp only
                rw [if_pos hkn]
                exact HSW.out.later (below_drewN (Below.refl _ _) _)
            | false =>
              have kk := HKK.out
              rw [hkn] at kk
              clear HKK
              go_quiet (fail)
              go_wp2_with fail
              clear k3 e0 kk
              obtain ⟨W1, hS1, hB1, hW1⟩ : ∃ W1, Stt w W1 n gw gl gf gk G B' vs ls ov2 bj ∧ Blk W1 eb 160 #[.int .i64 (to : Int), .int .i64 eid, .int .i64 eu, .int .i64 ev, .int .i64 ew] ∧ W1 = (W.drewN nq).drew := ⟨_, HSW.out.later ((below_drewN (Below.refl _ _) _).drew), (HBW.out.drewN _).drew, rfl⟩
              have HS1 := Lib.hid hS1
              have HB1 := Lib.hid hB1
              have k3 : W1.cell? ⟨gw, 3, none⟩ = some (.slice (some ⟨gk, 0, none⟩) n n) := hS1.wk.head.cell 3
              have e0 : W1.cell? ⟨eb, 0, none⟩ = some (.int .i64 (to : Int)) := hB1.cell 0
              obtain ⟨u1, kk⟩ := hS1.wk.known.setAt to (by simp; omega)
              have kf := hS1.wk.known.frozen to
              clear hS1 hB1
              refine still_tail_at 7 W1 hW1 (by kernel_rfl) (by kernel_rfl) ?_
              clear hW1
              simp only [List.take_succ_cons, List.take_zero, List.drop_succ_cons, List.drop_zero]
              repeat still_step
              try refine wpStill_nil ?_
              go_wp2_with fail
              clear k3 e0 kk kf
              obtain ⟨W2, hS2, hB2, hW2⟩ : ∃ W2, Stt w W2 n gw gl gf gk G B' vs ls ov2 ⟨bj.order, bj.last, bj.far, bj.known.set to true⟩ ∧ Blk W2 eb 160 #[.int .i64 (to : Int), .int .i64 eid, .int .i64 eu, .int .i64 ev, .int .i64 ew] ∧ W2 = (W1.setCell ⟨gk, to, none⟩ (.bool true)).drew := ⟨_, (HS1.out.setKnown to).later ((Below.refl _ _).drew), (HB1.out.far (p := ⟨gk, to, none⟩) (HB1.out.ne_ HS1.out.wk.known (by decide)) _).drew, rfl⟩
              have HS2 := Lib.hid hS2
              have HB2 := Lib.hid hB2
              have k3 : W2.cell? ⟨gw, 1, none⟩ = some (.slice (some ⟨gl, 0, none⟩) n n) := hS2.wk.head.cell 1
              have e0 : W2.cell? ⟨eb, 0, none⟩ = some (.int .i64 (to : Int)) := hB2.cell 0
              have e1 : W2.cell? ⟨eb, 1, none⟩ = some (.int .i64 eid) := hB2.cell 1
              have e2 : W2.cell? ⟨eb, 2, none⟩ = some (.int .i64 eu) := hB2.cell 2
              have e3 : W2.cell? ⟨eb, 3, none⟩ = some (.int .i64 ev) := hB2.cell 3
              have e4 : W2.cell? ⟨eb, 4, none⟩ = some (.int .i64 ew) := hB2.cell 4
              have hz : (bj.last.flatMap encP).toArray.size = n * 5 := by have h1 := hS2.wk.llen; simp only [] at h1; rw [List.size_toArray, flat_len encP_len, h1]
              obtain ⟨u10, kk0⟩ := hS2.wk.last.setAt (to * 5) (by rw [hz]; omega)
              obtain ⟨u11, kk1⟩ := hS2.wk.last.setAt (to * 5 + 1) (by rw [hz]; omega)
              obtain ⟨u12, kk2⟩ := hS2.wk.last.setAt (to * 5 + 2) (by rw [hz]; omega)
              obtain ⟨u13, kk3⟩ := hS2.wk.last.setAt (to * 5 + 3) (by rw [hz]; omega)
              obtain ⟨u14, kk4⟩ := hS2.wk.last.setAt (to * 5 + 4) (by rw [hz]; omega)
              have kf0 := hS2.wk.last.frozen (to * 5)
              have kf1 := hS2.wk.last.frozen (to * 5 + 1)
              have kf2 := hS2.wk.last.frozen (to * 5 + 2)
              have kf3 := hS2.wk.last.frozen (to * 5 + 3)
              have kf4 := hS2.wk.last.frozen (to * 5 + 4)
              clear hS2 hB2 hz
              refine still_tail_at 11 W2 hW2 (by kernel_rfl) (by kernel_rfl) ?_
              clear hW2
              simp only [List.take_succ_cons, List.take_zero, List.drop_succ_cons, List.drop_zero]
              repeat still_step
              try refine wpStill_nil ?_
              go_wp2_with fail
              clear k3 e0 e1 e2 e3 e4 kk0 kk1 kk2 kk3 kk4 kf0 kf1 kf2 kf3 kf4
              have hnlk : eb ≠ gl := by have := HB2.out.lt; omega
              obtain ⟨W3, hS3, hB3, hW3⟩ : ∃ W3, Stt w W3 n gw gl gf gk G B' vs ls ov2 ⟨bj.order, bj.last.set to (fr, ⟨eid, eu, ev, ew⟩), bj.far, bj.known.set to true⟩ ∧ Blk W3 eb 160 #[.int .i64 (to : Int), .int .i64 eid, .int .i64 eu, .int .i64 ev, .int .i64 ew] ∧
                  W3 = (((((W2.setCell ⟨gl, to * 5, none⟩ (.int .i64 (fr : Int))).setCell ⟨gl, to * 5 + 1, none⟩ (.int .i64 eid)).setCell ⟨gl, to * 5 + 2, none⟩ (.int .i64 eu)).setCell ⟨gl, to * 5 + 3, none⟩ (.int .i64 ev)).setCell ⟨gl, to * 5 + 4, none⟩ (.int .i64 ew)).drew :=
                ⟨_, (HS2.out.setLast to (fr, ⟨eid, eu, ev, ew⟩) (by omega)).later ((Below.refl _ _).drew), (((((HB2.out.far (p := ⟨gl, to * 5, none⟩) hnlk _).far (p := ⟨gl, to * 5 + 1, none⟩) hnlk _).far (p := ⟨gl, to * 5 + 2, none⟩) hnlk _).far (p := ⟨gl, to * 5 + 3, none⟩) hnlk _).far (p := ⟨gl, to * 5 + 4, none⟩) hnlk _).drew, rfl⟩
              have HS3 := Lib.hid hS3
              have HB3 := Lib.hid hB3
              have k3 : W3.cell? ⟨gw, 2, none⟩ = some (.slice (some ⟨gf, 0, none⟩) n n) := hS3.wk.head.cell 2
              have e0 : W3.cell? ⟨eb, 0, none⟩ = some (.int .i64 (to : Int)) := hB3.cell 0
              have e4 : W3.cell? ⟨eb, 4, none⟩ = some (.int .i64 ew) := hB3.cell 4
              obtain ⟨u3, kk⟩ := hS3.wk.far.setAt to (by simp; have h1 := hS3.wk.flen; simp only [] at h1; omega)
              have kf := hS3.wk.far.frozen to
              have kr : W3.cell? ⟨gf, fr, none⟩ = some (.int .i64 (frr bj.far fr)) := by
                rw [hS3.wk.far.cell]
                have h1 := hS3.wk.flen
                simp only [] at h1
                unfold frr
                simp [intV, List.getD, List.getElem?_eq_getElem (show fr < bj.far.length by omega)]
              have hbd := HWj.out.1.far_bd HW.out i fr (HWj.out.2.order i fr HFR.out)
              have hin : i < n := by omega
              obtain ⟨dj, hdj⟩ : ∃ dj, dj = frr bj.far fr := ⟨_, rfl⟩
              rw [← hdj] at kr hbd
              have hbd2 : 0 ≤ dj + ew ∧ dj + ew ≤ 4611686018427387904 := by omega
              have HDj := Lib.hid hdj
              clear hS3 hB3 hnlk hdj
              refine still_tail_at 18 W3 hW3 (by kernel_rfl) (by kernel_rfl) ?_
              clear hW3
              simp only [List.take_succ_cons, List.take_zero, List.drop_succ_cons, List.drop_zero]
              repeat still_step
              try refine wpStill_nil ?_
              go_wp2_with fail
              clear k3 e0 e4 kk kf kr
              rename_i K2 hK2
              obtain ⟨b4, hb4⟩ : ∃ b4 : Bs, b4 = ⟨bj.order, bj.last.set to (fr, ⟨eid, eu, ev, ew⟩), bj.far.set to (dj + ew), bj.known.set to true⟩ := ⟨_, rfl⟩
              obtain ⟨W4, hS4, hB4, hW4⟩ : ∃ W4, Stt w W4 n gw gl gf gk G B' vs ls ov2 b4 ∧ Blk W4 eb 160 #[.int .i64 (to : Int), .int .i64 eid, .int .i64 eu, .int .i64 ev, .int .i64 ew] ∧ W4 = W3.setCell ⟨gf, to, none⟩ (.int .i64 (dj + ew)) :=
                ⟨_, by rw [hb4]; exact HS3.out.setFar to (dj + ew), HB3.out.far (p := ⟨gf, to, none⟩) (HB3.out.ne_ HS3.out.wk.far (by decide)) _, rfl⟩
              rw [← hW4]
              obtain ⟨wa, hwa0⟩ : ∃ wa, wa = (W4.drew.alloc (.cells #[.int .i64 (to : Int)] 3)) := ⟨_, rfl⟩
              have hba : Below W4.heap.size W4 wa := by rw [hwa0]; exact ((Below.refl _ _).drew).alloc (Nat.le_refl _) _
              have hwaz : wa.heap.size = W4.heap.size + 1 := by rw [hwa0]; simp
              have hwab : Blk wa W4.heap.size 3 #[.int .i64 (to : Int)] := by rw [hwa0]; exact Blk.new W4.drew _ _
              have hxs : b4.order = bj.order := by rw [hb4]
              have hol : (bj.order.map natI).length + 1 ≤ 1000000 := by have := HWj.out.1.len; simp; omega
              have hwz4 : w.heap.size ≤ W4.heap.size := hS4.below.size
              refine wp_region_slots (SOrd wa w.heap.size gw eb to W4.heap.size ov2 (bj.order.map natI)) (IApp 7 8 11 9 10 W4 wa ov2.ownBlock (fun wx => ∃ ov', Stt w wx n gw gl gf gk G B' vs ls ov' ⟨b4.order ++ [to], b4.last, b4.far, b4.known⟩)) (by kernel_rfl) (by kernel_rfl) (by kernel_rfl) ⟨fun h => by simp at h, fun h => by simp at h, fun _ h => by simp at h, fun _ _ h => by simp at h, fun h => by simp at h, fun _ _ _ => rfl, fun h => by simp at h⟩ ?_ ?_
              · intro L a w5 q o' h ho h0 hd
                revert L a w5
                revert q o'
                refine each_array ?_
                refine ⟨?_, ?_, ?_, ?_, ?_, ?_, ?_, ?_, ?_, ?_, ?_, ?_, trivial⟩ <;> intro L a w5 h h0 hd
                · exact h.val rfl rfl (ro_move w5 (h.still 6 (by kernel_rfl))) (h.world.keep (by decide) (by decide) (by decide) h0 (by decide)) rfl
                · exact h.val rfl rfl (ro_move w5 (h.still 6 (by kernel_rfl))) (h.world.keep (by decide) (by decide) (by decide) h0 (by decide)) rfl
                · exact h.val rfl rfl (ro_nilc w5 (h.ran 1 _ 103 rfl rfl (hd ⟨1, .data⟩ (by simp) rfl))) (h.world.keep (by decide) (by decide) (by decide) h0 (by decide)) rfl
                · exact h.val rfl rfl (ro_walk0 w5 (h.ran 2 _ 104 rfl rfl (hd ⟨2, .data⟩ (by simp) rfl))) (h.world.keep (by decide) (by decide) (by decide) h0 (by decide)) rfl
                · have r3 : a.tmps.getD 105 undef = .pointer (some ⟨gw, 0, none⟩) := h.ran 3 _ 105 rfl rfl (hd ⟨3, .data⟩ (by simp) rfl)
                  have cg : w5.cell? ⟨gw, 0, none⟩ = some ov2 := (hS4.wk.head.grown (h.world.grown (h.world.notst h0 (by decide)) hba).1 (Ne.symm hS4.wk.ne_ow)).cell 0
                  exact h.val rfl rfl (ro_load22 w5 r3 cg) (h.world.keep (by decide) (by decide) (by decide) h0 (by decide)) rfl
                · exact h.val rfl rfl (ro_step0 w5 (h.still 11 (by kernel_rfl))) (h.world.keep (by decide) (by decide) (by decide) h0 (by decide)) rfl
                · have r5 : a.tmps.getD 107 undef = .pointer (some ⟨eb, 0, none⟩) := h.ran 5 _ 107 rfl rfl (hd ⟨5, .data⟩ (by simp) rfl)
                  have cg : w5.cell? ⟨eb, 0, none⟩ = some (.int .i64 (to : Int)) := (hB4.grown (h.world.grown (h.world.notst h0 (by decide)) hba).1 (Ne.symm (hS4.wk.order.ne_blk hB4 (by decide)))).cell 0
                  exact h.val rfl rfl (ro_loadI w5 r5 cg) (h.world.keep (by decide) (by decide) (by decide) h0 (by decide)) rfl
                · have r6 : a.tmps.getD 108 undef = .int .i64 (to : Int) := h.ran 6 _ 108 rfl rfl (hd ⟨6, .data⟩ (by simp) rfl)
                  obtain ⟨hI, hw5, h10⟩ := h.world.mk_ h0 (h.world.notst h0 (by decide)) (by decide) (by decide) (by decide) (by simp [h.sized])
                  have hw6 : w5.alloc (.cells #[.int .i64 (to : Int)] 3) = wa := by rw [hw5, hwa0]
                  have hz5 : w5.heap.size = W4.heap.size := by rw [hw5]; rfl
                  refine h.mem rfl rfl (v := .slice (some ⟨W4.heap.size, 0, none⟩) 1 1) (w' := wa) ?_ ?_ hI rfl
                  · rw [← hw6, ← hz5]; exact ro_slice3 w5 r6
                  · intro k' v' hk' hs'
                    match k', hk', hs' with
                    | 0, _, hs' => exact hs'
                    | 1, _, hs' => exact hs'
                    | 2, _, hs' => exact hs'
                    | 3, _, hs' => exact hs'
                    | 4, _, hs' => exact hs'
                    | 5, _, hs' => exact hs'
                    | 6, _, hs' => exact hs'
                    | 7, _, hs' => exact hs'
                    | 8, hk', hs' => rw [h10] at hk'; cases hk'
                    | 9, _, hs' => exact hs'
                    | 10, _, hs' => exact hs'
                    | k' + 11, _, hs' => trivial
                · have r4 : a.tmps.getD 106 undef = ov2 := h.ran 4 _ 106 rfl rfl (hd ⟨4, .data⟩ (by simp) rfl)
                  have r7 : a.tmps.getD 109 undef = .slice (some ⟨W4.heap.size, 0, none⟩) 1 1 := h.ran 7 _ 109 rfl rfl (hd ⟨7, .data⟩ (by simp) rfl)
                  have h9 : L.getD 7 false = true := hd ⟨7, .data⟩ (by simp) rfl
                  have h12 := h.world.notst h0 (by decide)
                  have hw5 := h.world.new h0 h12 h9
                  have hoW := hS4.wk.order
                  rw [hxs] at hoW
                  obtain ⟨v', w6, hrun, ho6, hg6, hb6⟩ := ro_app1 (w := w5) (base := w.heap.size) (xs := bj.order.map natI) (y := natI to) etInts encI_len encI_one r4 (by rw [hw5]; exact hoW.below hba) W4.heap.size r7 (by intro c u hu; rw [hw5, hwab.cell c, ← Array.getElem?_toList]; exact hu) hol (by rw [hw5, hwaz]; omega)
                  refine h.mem rfl rfl hrun ?_ (h.world.ap_ h9 h12 (by decide) (by decide) (by decide) (by simp [h.sized]) (by rw [← hw5]; exact hg6)) ho6
                  intro k' v'' hk' hs'
                  match k', hk', hs' with
                  | 0, _, hs' => exact hs'
                  | 1, _, hs' => exact hs'
                  | 2, _, hs' => exact hs'
                  | 3, _, hs' => exact hs'
                  | 4, _, hs' => exact hs'
                  | 5, _, hs' => exact hs'
                  | 6, _, hs' => exact hs'
                  | 7, _, hs' => exact hs'
                  | 8, hk', hs' => rw [h0] at hk'; cases hk'
                  | 9, _, hs' => exact hs'
                  | 10, _, hs' => exact hs'
                  | k' + 11, _, hs' => trivial
                · exact h.val rfl rfl (ro_nilc w5 (h.ran 0 _ 102 rfl rfl (hd ⟨0, .data⟩ (by simp) rfl))) (h.world.keep (by decide) (by decide) (by decide) h0 (by decide)) rfl
                · exact h.val rfl rfl (ro_walk0 w5 (h.ran 9 _ 111 rfl rfl (hd ⟨9, .data⟩ (by simp) rfl))) (h.world.keep (by decide) (by decide) (by decide) h0 (by decide) (fun _ => hd ⟨9, .data⟩ (by simp) rfl)) rfl
                · have r10 : a.tmps.getD 112 undef = .pointer (some ⟨gw, 0, none⟩) := h.ran 10 _ 112 rfl rfl (hd ⟨10, .data⟩ (by simp) rfl)
                  have h10 : L.getD 8 false = true := hd ⟨8, .data⟩ (by simp) rfl
                  have ho5 : OK encI 1 3 w5 w.heap.size (a.tmps.getD 110 undef) (bj.order.map natI ++ [natI to]) := h.ran 8 _ 110 rfl rfl h10
                  obtain ⟨A5, m5, q5, hv5⟩ := ho5.slice3
                  have hg5 := h.world.app h0 h10
                  have bg := hS4.wk.head.grown (h.world.grown h0 hba).1 (Ne.symm hS4.wk.ne_ow)
                  obtain ⟨u5, c5⟩ := bg.setAt 0 (by simp)
                  have f5 := bg.frozen 0
                  have hpush := hS4.push hba (by rw [hxs]; exact ho5) hg5
                  rw [hv5] at hpush
                  have hP : ∃ ov', Stt w (w5.setCell ⟨gw, 0, none⟩ (.slice A5 m5 q5)) n gw gl gf gk G B' vs ls ov' ⟨b4.order ++ [to], b4.last, b4.far, b4.known⟩ := ⟨_, hpush⟩
                  refine h.skip rfl rfl (w' := w5.setCell ⟨gw, 0, none⟩ (.slice A5 m5 q5)) (ro_store22 w5 r10 hv5 c5 f5) ?_ (h.world.st_ h10 (by decide) (by decide) (by decide) (by simp [h.sized]) ?_ hP) trivial
                  · intro k' v'' hk' hs'
                    match k', hk', hs' with
                    | 0, _, hs' => exact hs'
                    | 1, _, hs' => exact hs'
                    | 2, _, hs' => exact hs'
                    | 3, _, hs' => exact hs'
                    | 4, _, hs' => exact hs'
                    | 5, _, hs' => exact hs'
                    | 6, _, hs' => exact hs'
                    | 7, _, hs' => exact hs'
                    | 8, _, hs' => exact OK.kept hs' (grownBy_set gw 0 _) (.inr (OK.ne_blk hs' bg (by decide)))
                    | 9, _, hs' => exact hs'
                    | 10, _, hs' => exact hs'
                    | k' + 11, _, hs' => trivial
                  · intro q hq
                    match q, hq with
                    | 0, _ => exact hd ⟨0, .phase⟩ (by simp) rfl
                    | 1, _ => exact hd ⟨1, .phase⟩ (by simp) rfl
                    | 2, _ => exact hd ⟨2, .phase⟩ (by simp) rfl
                    | 3, _ => exact hd ⟨3, .phase⟩ (by simp) rfl
                    | 4, _ => exact hd ⟨4, .phase⟩ (by simp) rfl
                    | 5, _ => exact hd ⟨5, .phase⟩ (by simp) rfl
                    | 6, _ => exact hd ⟨6, .phase⟩ (by simp) rfl
                    | 7, _ => exact hd ⟨7, .phase⟩ (by simp) rfl
                    | 8, _ => exact hd ⟨8, .phase⟩ (by simp) rfl
                    | 9, _ => exact h.world.up (hd ⟨10, .data⟩ (by simp) rfl)
                    | 10, _ => exact hd ⟨10, .data⟩ (by simp) rfl
              · intro L a w6 hL hdf hsz6 hw hother hall
                obtain ⟨ov6, hS6⟩ := hw.fin (hL 11 (by simp))
                have HS6 := Lib.hid hS6
                clear hS6 hw hall
                refine hK2 _ _ ?_
                obtain ⟨tm, df⟩ := a
                obtain rfl : df = [] := hdf
                have htm := tmps_eq [102, 103, 104, 105, 106, 107, 108, 109, 110, 111, 112] (by kernel_rfl) hsz6 hother
                dsimp only at htm
                simp only [List.foldl] at htm
                generalize tm.getD 102 undef = z102 at htm
                generalize tm.getD 103 undef = z103 at htm
                generalize tm.getD 104 undef = z104 at htm
                generalize tm.getD 105 undef = z105 at htm
                generalize tm.getD 106 undef = z106 at htm
                generalize tm.getD 107 undef = z107 at htm
                generalize tm.getD 108 undef = z108 at htm
                generalize tm.getD 109 undef = z109 at htm
                generalize tm.getD 110 undef = z110 at htm
                generalize tm.getD 111 undef = z111 at htm
                generalize tm.getD 112 undef = z112 at htm
                clear hother hsz6
                rw [htm]
                clear htm
                simp only [List.setIfInBounds_toArray, List.set_cons_succ, List.set_cons_zero]
                clear hS4 hB4 hW4 hba hwab hwa0 hK2
                go_wp2_with fail
                go_roundw
                case measure => simp only [intOf]; omega
                case rel =>
                  refine ⟨j + 1, ov6, by go_num, by rw [← HMl.out]; omega, ?_⟩
                  rw [HStep.out, bstep]
                  dsimp only
                  rw [if_neg (by rw [hkn]; decide), ← HDj.out]
                  have := HS6.out
                  rw [hb4] at this
                  exact this
          · have hje : j = ml := by omega
            subst hje
            have hbe : bj = bsteps ls b fr := by
              rw [HBj.out, HMl.out, List.take_length, bsteps, HL.out]
            have hin : i < n := by omega
            have hrun2 : brun ls (n + 1 - (i + 1)) (i + 1) bj = bfs ls n s := by
              rw [← HRun.out, show n + 1 - i = (n + 1 - (i + 1)) + 1 by omega]
              simp only [brun, HFR.out]
              rw [hbe]
            have HR2 := Lib.hid hrun2
            clear hrun2 hbe
            go_wp2_with fail
            refine ⟨⟨i + 1, ov2, bj, by go_num, ?_, hst2, HWj.out.1, HR2.out⟩, by simp only [intOf]; omega⟩
            have := (List.getElem?_eq_some_iff.1 (HWj.out.2.order i fr HFR.out)).1
            omega
      · have hie : i = m := by omega
        subst hie
        have hbe : b = bfs ls n s := by
          rw [← HRun.out, show n + 1 - i = (n - i) + 1 by omega]
          simp only [brun]
          rw [List.getElem?_eq_none (by rw [← HM.out]; exact Nat.le_refl _)]
        have HBe := Lib.hid hbe
        clear hbe hst hwent hrun hoc ho1 ho2 ho4 hne hnem hm HGo HRun
        go_wp2_with fail
        go_ret
        obtain ⟨ov0, hov0⟩ : ∃ ov0, WkAt wr w.heap.size gw gl gf gk n ov0 b := ⟨_, HS.out.wk⟩
        rw [HBe.out, HLs.out] at hov0
        exact ⟨gw, gl, gf, gk, ov0, rfl, hov0, HS.out.below⟩
end Go.Proofs.YtghacfhpafbdmaaGreat
