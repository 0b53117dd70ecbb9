/-
  The walks of graph's New, isId, has, HasV, addV and Do at a new vertex. The set of vertices is a map that reads as a datum.
-/
import Derived.Test.YtghacfhpafbdmaaGreatG6
import Derived.Test.YtghacfhpafbdmaaGreatG11
import Derived.Maps.OwnSet
import Derived.RegionTactic
import Derived.Laws.ResultCell
import Derived.Laws.Tables
import Derived.Laws.CopyRow
namespace Go.Proofs.YtghacfhpafbdmaaGreat
open Go.RowKit Go.Maps
set_option linter.unusedVariables false

/-- The map of vertices in block b reads as D. -/
abbrev SetM (w : World) (b n : Nat) (D : DataW Unit) : Prop := w.ownsMap Tryz.prog 3 unitElem b n D
theorem keyed3 : Keyed Tryz.prog 3 := int_keyed Tryz.underlying3
theorem key3 {i : Int} (hi : (Lit.int .i64 i).wf = true) : keyOf Tryz.prog 3 (.int .i64 i) = some (.int .i64 i) := keyOf_int_mk Tryz.underlying3 hi
theorem SetM.below {w w' : World} {b n B : Nat} {D : DataW Unit} (h : SetM w b n D) (hb : Below B w w') (hB : b < B) : SetM w' b n D := by
  obtain ⟨es, clock, h1, r⟩ := h
  exact ⟨es, clock, (hb.block b hB).trans h1, r⟩
theorem unit_zero (w : World) : (zeroValue 162).run Tryz.prog w = .ok (.agg #[]) w := by kernel_rfl

/-- A graph: its block g, with the three maps' blocks; of the first one what it reads as. -/
structure Gr (w : World) (g b c d n : Nat) (D : DataW Unit) : Prop where
  blk : Blk w g 127 #[.map (some b), .map (some c), .map (some d)]
  set_ : SetM w b n D
theorem Gr.below {w w' : World} {g b c d n B : Nat} {D : DataW Unit} (h : Gr w g b c d n D) (hb : Below B w w') (hg : g < B) (hB : b < B) : Gr w' g b c d n D :=
  ⟨h.blk.below hb hg, h.set_.below hb hB⟩

theorem Gr.ne {w : World} {g b c d n : Nat} {D : DataW Unit} (h : Gr w g b c d n D) : g ≠ b := by
  rintro rfl
  have h1 := h.blk
  obtain ⟨es, clock, h2, _⟩ := h.set_
  unfold Blk at h1
  rw [h1] at h2
  cases h2

theorem New_any (w : World) : Calls Tryz.prog 33 #[] w fun e w' => e = .returned (.pointer (some ⟨w.heap.size + 3, 0, none⟩)) ∧ Gr w' (w.heap.size + 3) w.heap.size (w.heap.size + 1) (w.heap.size + 2) 0 (.map []) ∧ w'.heap.size = w.heap.size + 4 ∧ Below w.heap.size w w' := by
  have hmm := @run_makeMap Tryz.prog
  go_enter Tryz.func33, Tryz.ntmps33
  go_wp2
  go_ret
  refine ⟨by simp, ⟨?_, ?_⟩, by simp, ?_⟩
  · have := Blk.new (((w.alloc (.map #[] 0)).alloc (.map #[] 0)).alloc (.map #[] 0)) 127 #[.map (some w.heap.size), .map (some (w.heap.size + 1)), .map (some (w.heap.size + 2))]
    simpa using this
  · exact (((World.ownsMap_made w _ _ _).alloc _).alloc _).alloc _
  · exact ((((Below.refl _ _).alloc (Nat.le_refl _) _).alloc (by simp) _).alloc (by simp; omega) _).alloc (by simp; omega) _

theorem grIsId_yes (i : Int) (h : idB i = true) (w : World) : Calls Tryz.prog 95 #[.int .i64 i] w fun e w' => e = .returned (.bool true) ∧ w = w' := by
  obtain ⟨h1, h2⟩ := idB_iff.1 h
  clear h
  go_enter Tryz.func95, Tryz.ntmps95
  go_wp2
  go_ret
  exact ⟨rfl, rfl⟩

section
variable {a : Act} {ty : TypeId} {pos : String} {d : Option Tmp} {af : Array Edge} {g : Option (Nat × Bool)}
theorem rg_move {x : Tmp} {v : Value} (w : World) (hx : a.tmps.getD x undef = v) :
    (execOp a.eval { dst := d, op := .move (.tmp x), type := ty, pos := pos, after := af, guard := g }).run Tryz.prog w = .ok (.value v) w := by
  simp only [execOp, Act.eval, hx]; rfl
theorem rg_assign {x : Tmp} {v : Value} (w : World) (hx : a.tmps.getD x undef = v) :
    (execOp a.eval { dst := d, op := .assign (.tmp x), type := ty, pos := pos, after := af, guard := g }).run Tryz.prog w = .ok (.value v) w := by
  simp only [execOp, Act.eval, hx]; rfl
theorem rg_nilc {x : Tmp} {p k : Nat} (w : World) (hx : a.tmps.getD x undef = .pointer (some ⟨p, k, none⟩)) :
    (execOp a.eval { dst := d, op := .nilCheck (.tmp x), type := ty, pos := pos, after := af, guard := g }).run Tryz.prog w = .ok (.value (.pointer (some ⟨p, k, none⟩))) w := by
  simp only [execOp, Act.eval, hx]
  go_simp
theorem rg_field0 {x : Tmp} {p : Nat} (w : World) (hx : a.tmps.getD x undef = .pointer (some ⟨p, 0, none⟩)) :
    (execOp a.eval { dst := d, op := .fieldAddr 127 (.tmp x) 0, type := ty, pos := pos, after := af, guard := g }).run Tryz.prog w = .ok (.value (.pointer (some ⟨p, 0, none⟩))) w := by
  simp only [execOp, Act.eval, hx]
  go_simp
theorem rg_fieldR {x : Tmp} {p : Nat} (w : World) (hx : a.tmps.getD x undef = .pointer (some ⟨p, 0, none⟩)) :
    (execOp a.eval { dst := d, op := .fieldAddr 76 (.tmp x) 1, type := ty, pos := pos, after := af, guard := g }).run Tryz.prog w = .ok (.value (.pointer (some ⟨p, 1, none⟩))) w := by
  simp only [execOp, Act.eval, hx]
  go_simp
theorem rg_loadM {x : Tmp} {p k : Nat} {v : Value} (w : World) (hx : a.tmps.getD x undef = .pointer (some ⟨p, k, none⟩)) (h0 : w.cell? ⟨p, k, none⟩ = some v) :
    (execOp a.eval { dst := d, op := .load 123 (.tmp x), type := ty, pos := pos, after := af, guard := g }).run Tryz.prog w = .ok (.value v) w := by
  simp only [execOp, Act.eval, hx]
  go_simp
theorem rg_loadI {x : Tmp} {p k : Nat} {v : Value} (w : World) (hx : a.tmps.getD x undef = .pointer (some ⟨p, k, none⟩)) (h0 : w.cell? ⟨p, k, none⟩ = some v) :
    (execOp a.eval { dst := d, op := .load 3 (.tmp x), type := ty, pos := pos, after := af, guard := g }).run Tryz.prog w = .ok (.value v) w := by
  simp only [execOp, Act.eval, hx]
  go_simp
theorem rg_look {x y : Tmp} {b n : Nat} {D : DataW Unit} {i : Int} {h : Bool} (w : World) (hs : SetM w b n D) (hi : (Lit.int .i64 i).wf = true) (hh : Maps.has D (.int .i64 i) = h) (hx : a.tmps.getD x undef = .map (some b)) (hy : a.tmps.getD y undef = .int .i64 i) :
    (execOp a.eval { dst := d, op := .lookup 123 (.tmp x) (.tmp y) true, type := ty, pos := pos, after := af, guard := g }).run Tryz.prog w = .ok (.value (.tuple #[.agg #[], .bool h])) w := by
  subst hh
  obtain ⟨v, ps, hrun, hv⟩ := hs.look_ok keyed3 Tryz.underlying123 (unit_zero w) unitElem_mk (key3 hi)
  obtain ⟨rfl, _⟩ := unitElem_inv hv
  simp [execOp, Act.eval, hx, hy, hrun, Result.andThen]
theorem rg_extract0 {x : Tmp} {v0 v1 : Value} (w : World) (hx : a.tmps.getD x undef = .tuple #[v0, v1]) :
    (execOp a.eval { dst := d, op := .extract (.tmp x) 0, type := ty, pos := pos, after := af, guard := g }).run Tryz.prog w = .ok (.value v0) w := by
  simp only [execOp, Act.eval, hx]
  go_simp
theorem rg_extract1 {x : Tmp} {v0 v1 : Value} (w : World) (hx : a.tmps.getD x undef = .tuple #[v0, v1]) :
    (execOp a.eval { dst := d, op := .extract (.tmp x) 1, type := ty, pos := pos, after := af, guard := g }).run Tryz.prog w = .ok (.value v1) w := by
  simp only [execOp, Act.eval, hx]
  go_simp
theorem rg_alloc (w : World) :
    (execOp a.eval { dst := d, op := .alloc 162, type := ty, pos := pos, after := af, guard := g }).run Tryz.prog w = .ok (.value (.pointer (some ⟨w.heap.size, 0, none⟩))) (w.alloc (.cells #[] 162)) := by
  simp only [execOp]
  go_simp
theorem rg_store {x y : Tmp} {p : Nat} (w : World) (hx : a.tmps.getD x undef = .pointer (some ⟨p, 0, none⟩)) (hy : a.tmps.getD y undef = .agg #[]) (h : Blk w p 162 #[]) :
    (execOp a.eval { dst := d, op := .store 162 (.tmp x) (.tmp y), type := ty, pos := pos, after := af, guard := g }).run Tryz.prog w = .ok .skip w := by
  simp only [execOp, Act.eval, hx, hy]
  go_simp
end

/-- What the steps of '_, ok := g.verts[r.Id]' leave in their slots. -/
def SHas (g b x : Nat) (i : Int) (h : Bool) (W0 : Nat) (q : Nat) (v : Value) (w : World) : Prop := match q with
  | 0 => v = .pointer (some ⟨g, 0, none⟩)
  | 1 => v = .pointer (some ⟨g, 0, none⟩)
  | 2 => v = .pointer (some ⟨g, 0, none⟩)
  | 3 => v = .map (some b)
  | 4 => v = .pointer (some ⟨x, 1, none⟩)
  | 5 => v = .int .i64 i
  | 6 => v = .tuple #[.agg #[], .bool h]
  | 7 => v = .tuple #[.agg #[], .bool h]
  | 8 => v = .agg #[]
  | 9 => v = .bool h
  | 10 => ∃ p, v = .pointer (some ⟨p, 0, none⟩) ∧ Blk w p 162 #[]
  | 11 => True
  | _ => v = .bool h
theorem shas_stable (g b x : Nat) (i : Int) (h : Bool) (W0 : Nat) : ∀ (q : Nat) (v : Value) (w w' : World), SHas g b x i h W0 q v w → Below w.heap.size w w' → SHas g b x i h W0 q v w' := by
  intro q v w w' hs hb
  match q, hs with
  | 0, h => exact h
  | 1, h => exact h
  | 2, h => exact h
  | 3, h => exact h
  | 4, h => exact h
  | 5, h => exact h
  | 6, h => exact h
  | 7, h => exact h
  | 8, h => exact h
  | 9, h => exact h
  | 10, ⟨p, h1, h2⟩ => exact ⟨p, h1, h2.below hb h2.lt⟩
  | 11, h => exact h
  | _ + 12, h => exact h

set_option maxRecDepth 100000 in
set_option maxHeartbeats 2000000 in
theorem has_any (g b c d n : Nat) (D : DataW Unit) (i : Int) (h : Bool) (w : World) (hg : Gr w g b c d n D) (hi : (Lit.int .i64 i).wf = true) (hh : Maps.has D (.int .i64 i) = h) :
    Calls Tryz.prog 97 #[.pointer (some ⟨g, 0, none⟩), .agg #[.bool false, .int .i64 i]] w fun e w' => e = .returned (.bool h) ∧ Below w.heap.size w w' := by
  have HG := Lib.hid hg
  have hgl := hg.blk.lt
  have hbl := hg.set_.lt
  have HH := Lib.hid hh
  have HI := Lib.hid hi
  clear hg hh hi
  go_enter Tryz.func97, Tryz.ntmps97
  go_wp2_with fail
  rename_i K hK
  obtain ⟨W, hW⟩ : ∃ W, W = w.alloc (.cells #[.bool false, .int .i64 i] 76) := ⟨_, rfl⟩
  have hWb : Below w.heap.size w W := by rw [hW]; exact (Below.refl _ _).alloc (Nat.le_refl _) _
  have hWz : W.heap.size = w.heap.size + 1 := by rw [hW]; simp
  have hWn : Blk W w.heap.size 76 #[.bool false, .int .i64 i] := by rw [hW]; exact Blk.new _ _ _
  have HGW : Hid (Gr W g b c d n D) := HG.out.below hWb hgl hbl
  rw [← hW]
  clear hW
  refine wp_region_slots (SHas g b w.heap.size i h W.heap.size) (fun _ w1 => Below W.heap.size W w1) (by kernel_rfl) (by kernel_rfl) (by kernel_rfl) ((Below.refl _ _).drew) ?_ ?_
  · intro L a w1 q o' h1 ho h0 hd
    have hwb : Below W.heap.size W w1 := h1.world
    have hz1 := hwb.size
    have hst := fun (w2 : World) (hb : Below w1.heap.size w1 w2) (k : Nat) (v : Value) (_ : L.getD k false = true) (hk : SHas g b w.heap.size i h W.heap.size k v w1) => shas_stable g b w.heap.size i h W.heap.size k v w1 w2 hk hb
    have hgr := HGW.out.below hwb (by omega) (by omega)
    have hrf := hWn.below hwb (by omega)
    revert L a w1
    revert q o'
    refine each_array ?_
    refine ⟨?_, ?_, ?_, ?_, ?_, ?_, ?_, ?_, ?_, ?_, ?_, ?_, ?_, trivial⟩ <;> intro L a w1 h1 h0 hd hwb hz1 hst hgr hrf
    · exact h1.val rfl rfl (rg_move w1 (h1.still 0 (by kernel_rfl))) hwb rfl
    · exact h1.val rfl rfl (rg_nilc w1 (h1.ran 0 _ 23 rfl rfl (hd ⟨0, .data⟩ (by simp) rfl))) hwb rfl
    · exact h1.val rfl rfl (rg_field0 w1 (h1.ran 1 _ 24 rfl rfl (hd ⟨1, .data⟩ (by simp) rfl))) hwb rfl
    · exact h1.val rfl rfl (rg_loadM w1 (h1.ran 2 _ 25 rfl rfl (hd ⟨2, .data⟩ (by simp) rfl)) (hgr.blk.cell 0)) hwb rfl
    · exact h1.val rfl rfl (rg_fieldR w1 (h1.still 3 (by kernel_rfl))) hwb rfl
    · exact h1.val rfl rfl (rg_loadI w1 (h1.ran 4 _ 27 rfl rfl (hd ⟨4, .data⟩ (by simp) rfl)) (hrf.cell 1)) hwb rfl
    · exact h1.val rfl rfl (rg_look w1 hgr.set_ HI.out HH.out (h1.ran 3 _ 26 rfl rfl (hd ⟨3, .data⟩ (by simp) rfl)) (h1.ran 5 _ 28 rfl rfl (hd ⟨5, .data⟩ (by simp) rfl))) hwb rfl
    · exact h1.val rfl rfl (rg_move w1 (h1.ran 6 _ 29 rfl rfl (hd ⟨6, .data⟩ (by simp) rfl))) hwb rfl
    · exact h1.val rfl rfl (rg_extract0 w1 (h1.ran 7 _ 22 rfl rfl (hd ⟨7, .data⟩ (by simp) rfl))) hwb rfl
    · exact h1.val rfl rfl (rg_extract1 w1 (h1.ran 7 _ 22 rfl rfl (hd ⟨7, .data⟩ (by simp) rfl))) hwb rfl
    · have hb := (Below.refl w1.heap.size w1).alloc (Nat.le_refl _) (.cells #[] 162)
      exact h1.mem rfl rfl (rg_alloc w1) (hst _ hb) (hwb.trans (hb.mono hz1)) ⟨_, rfl, Blk.new _ _ _⟩
    · obtain ⟨p, r1, r2⟩ := h1.ran 10 _ 7 rfl rfl (hd ⟨10, .data⟩ (by simp) rfl)
      exact h1.skip rfl rfl (rg_store w1 r1 (h1.ran 8 _ 30 rfl rfl (hd ⟨8, .data⟩ (by simp) rfl)) r2) (fun _ _ _ h => h) hwb trivial
    · exact h1.val rfl rfl (rg_assign w1 (h1.ran 9 _ 31 rfl rfl (hd ⟨9, .data⟩ (by simp) rfl))) hwb rfl
  · intro L a w1 hL hdf hsz' hw hother hall
    have hwb : Below W.heap.size W w1 := hw
    have h12 : a.tmps.getD 8 undef = .bool h := hall 12 _ 8 rfl rfl
    refine hK _ _ ?_
    obtain ⟨tm, df⟩ := a
    obtain rfl : df = [] := hdf
    dsimp only at h12 hsz' hother
    clear hother hall hL hw
    go_wp2_with fail
    have hz : tm.size = 33 := hsz'
    exact bodyPost_ret (v := .bool h) (by simp [results, Tryz.results97, go_sem, hz]) rfl ⟨rfl, hWb.trans (hwb.mono (by omega))⟩

set_option maxRecDepth 100000 in
theorem HasV_any (g b c d n : Nat) (D : DataW Unit) (i : Int) (h : Bool) (w : World) (hg : Gr w g b c d n D) (hi : (Lit.int .i64 i).wf = true) (hh : Maps.has D (.int .i64 i) = h) :
    Calls Tryz.prog 72 #[.pointer (some ⟨g, 0, none⟩), .int .i64 i] w fun e w' => e = .returned (.bool h) ∧ Below w.heap.size w w' := by
  have HG := Lib.hid hg
  have HH := Lib.hid hh
  have HI := Lib.hid hi
  clear hg hh hi
  go_enter Tryz.func72, Tryz.ntmps72
  go_wp2_with fail
  refine (has_any g b c d n D i h _ HG.out HI.out HH.out).mono ?_
  rintro e w' ⟨rfl, hb⟩
  have HB := Lib.hid hb
  clear hb
  go_wp2_with fail
  go_ret
  exact ⟨rfl, HB.out⟩

/-- A vertex comes to a graph without any. -/
theorem addV_any (g b c d : Nat) (i : Int) (hid : idB i = true) (hi : (Lit.int .i64 i).wf = true) (w : World) (hg : Gr w g b c d 0 (.map [])) :
    Calls Tryz.prog 65 #[.pointer (some ⟨g, 0, none⟩), .int .i64 i] w fun e w' => e = .returned (.int .i64 0) ∧ Gr w' g b c d 1 (DataW.put (.map []) (.int .i64 i) (.agg [])) ∧ (∀ B, B ≤ w.heap.size → B ≤ b → Below B w w') := by
  have HID := Lib.hid hid
  have HI := Lib.hid hi
  have HG := Lib.hid hg
  have hgl := hg.blk.lt
  have hbl := hg.set_.lt
  have a0 := hg.blk.cell 0
  clear hi hid hg
  go_enter Tryz.func65, Tryz.ntmps65
  go_wp2_with fail
  refine (grIsId_yes i HID.out _).mono ?_
  rintro e w' ⟨rfl, rfl⟩
  go_wp2_with fail
  refine (HasV_any g b c d 0 (.map []) i false _ HG.out HI.out rfl).mono ?_
  rintro e w1 ⟨rfl, hb⟩
  have HB := Lib.hid hb
  have HG1 : Hid (Gr w1 g b c d 0 (.map [])) := HG.out.below hb hgl hbl
  have a0 : w1.cell? ⟨g, 0, none⟩ = some (.map (some b)) := HG1.out.blk.cell 0
  clear hb
  go_wp2_with (first
    | (at_len; refine wpList_len_own _ rfl _ 123 rfl 3 162 Tryz.underlying123 _ b 0 _ rfl HG1.out.set_ ?_)
    | (at_mapUpdate; refine wpList_mapUpdate_in _ rfl _ _ _ 123 rfl 3 162 keyed3 Tryz.underlying123 unitElem b 0 _ rfl HG1.out.set_ (by unfold maxLen; omega) _ _ _ rfl rfl (key3 HI.out) _ [] unitElem_mk ?_; intro w2 hown2 hturn2; have HO2 := Lib.hid hown2; have HT2 := Lib.hid hturn2; clear hown2 hturn2))
  go_ret
  refine ⟨rfl, ⟨HG1.out.blk.grown HT2.out.grown (by have := HG1.out.ne; simpa using this), HO2.out⟩, fun B h1 h2 => ?_⟩
  exact (HB.out.mono h1).grown HT2.out.grown (by have := HB.out.size; omega) (by intro q hq; injection hq with hq; omega)

/-- The write of vertex 1, the question for it. -/
abbrev wrV : Array Value := #[.int .i64 1, .int .i64 1, .int .i64 0, .int .i64 0, .int .i64 0, .bool false, .int .i64 0, .string ByteArray.empty, .int .i64 0, .int .i64 0, .complex .f64 0 0, .slice none 0 0]
abbrev quV : Array Value := #[.int .i64 1, .int .i64 1, .int .i64 0, .bool false, .int .i64 0, .string ByteArray.empty]

set_option maxRecDepth 100000 in
set_option maxHeartbeats 1000000 in
theorem DoV_any (g b c d : Nat) (w : World) (hg : Gr w g b c d 0 (.map [])) :
    Calls Tryz.prog 34 #[.pointer (some ⟨g, 0, none⟩), .agg wrV] w fun e w' => e = .returned (.int .i64 0) ∧ Gr w' g b c d 1 (DataW.put (.map []) (.int .i64 1) (.agg [])) ∧ (∀ B, B ≤ w.heap.size → B ≤ b → Below B w w') := by
  have hgl := hg.blk.lt
  have hbl := hg.set_.lt
  have HG := Lib.hid (hg.below ((Below.refl w.heap.size w).alloc (Nat.le_refl _) (.cells wrV 81)) hgl hbl)
  clear hg
  go_enter Tryz.func34, Tryz.ntmps34
  go_wp2_with fail
  refine (addV_any g b c d 1 (by decide) (by decide) _ HG.out).mono ?_
  rintro e w1 ⟨rfl, hg1, hb⟩
  have HG1 := Lib.hid hg1
  have HB := Lib.hid hb
  clear hg1 hb
  go_wp2_with fail
  go_ret
  exact ⟨rfl, HG1.out, fun B h1 h2 => ((Below.refl _ _).alloc h1 _).trans (HB.out B (by simp; omega) h2)⟩

theorem isId_one (w : World) : Calls Tryz.prog 78 #[.int .i64 1] w fun e w' => e = .returned (.bool true) ∧ w = w' := isId_any 1 w

set_option maxRecDepth 100000 in
set_option maxHeartbeats 1000000 in
theorem checkQueryV (w : World) : Calls Tryz.prog 71 #[.agg quV] w fun e w' => e = .returned (.int .i64 0) ∧ Below w.heap.size w w' := by
  go_enter Tryz.func71, Tryz.ntmps71
  go_wp2_with fail
  refine (isId_one _).mono ?_
  rintro e w1 ⟨rfl, rfl⟩
  go_wp2_with fail
  go_ret
  exact ⟨rfl, (Below.refl _ _).alloc (Nat.le_refl _) _⟩

/-- What Ask answers. -/
abbrev ansV (y : Bool) : Array Value := #[.int .i64 0, .bool y, .int .i64 0, .complex .f64 0 0, .int .i64 0, .int .i64 0, .int .i64 0, .int .i64 0, .slice none 0 0, .int .i64 0, .int .i64 0, .complex .f64 0 0, .slice none 0 0, .slice none 0 0, .slice none 0 0]
theorem load_ans {w : World} {g : Nat} {y : Bool} (h : Blk w g 83 (ansV y)) : (loadVar 83 ⟨g, 0, none⟩).run Tryz.prog w = .ok (.agg (ansV y)) w := by
  have c0 : w.cell? ⟨g, 0, none⟩ = some (.int .i64 0) := h.cell 0
  have c1 : w.cell? ⟨g, 1, none⟩ = some (.bool y) := h.cell 1
  have c2 : w.cell? ⟨g, 2, none⟩ = some (.int .i64 0) := h.cell 2
  have c3 : w.cell? ⟨g, 3, none⟩ = some (.complex .f64 0 0) := h.cell 3
  have c4 : w.cell? ⟨g, 4, none⟩ = some (.int .i64 0) := h.cell 4
  have c5 : w.cell? ⟨g, 5, none⟩ = some (.int .i64 0) := h.cell 5
  have c6 : w.cell? ⟨g, 6, none⟩ = some (.int .i64 0) := h.cell 6
  have c7 : w.cell? ⟨g, 7, none⟩ = some (.int .i64 0) := h.cell 7
  have c8 : w.cell? ⟨g, 8, none⟩ = some (.slice none 0 0) := h.cell 8
  have c9 : w.cell? ⟨g, 9, none⟩ = some (.int .i64 0) := h.cell 9
  have c10 : w.cell? ⟨g, 10, none⟩ = some (.int .i64 0) := h.cell 10
  have c11 : w.cell? ⟨g, 11, none⟩ = some (.complex .f64 0 0) := h.cell 11
  have c12 : w.cell? ⟨g, 12, none⟩ = some (.slice none 0 0) := h.cell 12
  have c13 : w.cell? ⟨g, 13, none⟩ = some (.slice none 0 0) := h.cell 13
  have c14 : w.cell? ⟨g, 14, none⟩ = some (.slice none 0 0) := h.cell 14
  go_simp
/-- The end of a call whose one result lies in a cell. -/
theorem ret_cell1 {fn : Func} {p : Tmp} {ty : TypeId} {a : Act} {w : World} {post : Ending → World → Prop} {A : Addr} {v : Value} (hr : fn.results = #[.cell p ty]) (hp : a.tmps.getD p undef = .pointer (some A))
    (hl : (loadVar ty A).run Tryz.prog w = .ok v w) (hd : a.defers = []) (h : post (.returned v) w) : bodyPost Tryz.prog fn post .ret a w := by
  refine bodyPost_ret (v := v) ?_ hd h
  have hp' : a.tmps[p]?.getD undef = .pointer (some A) := by simpa using hp
  simp only [results, hr]
  simp [hp', asAddr, hl]
/-- .. behind a store of what the cell holds. -/
theorem setRow_same {w : World} {g : Nat} {t : TypeId} {cs : Array Value} (h : Blk w g t cs) : w.setRow g cs = w := setRow_self w g cs t (0, 0) h
theorem run_storeCx (P : Program) (w : World) (a : Addr) (m : Mode) (k : FloatKind) (x y : Nat) : (store a (.complex k x y) m).run P w = stored P w a (.complex k x y) m := run_store P w a _ m rfl
attribute [local go_sem] run_storeCx

set_option maxRecDepth 100000 in
set_option maxHeartbeats 2000000 in
theorem AskV_any (g b c d n : Nat) (D : DataW Unit) (w : World) (hg : Gr w g b c d n D) (hh : Maps.has D (.int .i64 1) = true) :
    Calls Tryz.prog 35 #[.pointer (some ⟨g, 0, none⟩), .agg quV] w fun e w' => e = .returned (.agg (ansV true)) ∧ Below w.heap.size w w' := by
  have hgl := hg.blk.lt
  have hbl := hg.set_.lt
  have HH := Lib.hid hh
  have HG := Lib.hid hg
  clear hg hh
  go_enter Tryz.func35, Tryz.ntmps35
  go_wp2_with fail
  refine (checkQueryV _).mono ?_
  rintro e w1 ⟨rfl, hb⟩
  have hz : ((w.alloc (.cells quV 86)).alloc (.cells (ansV false) 83)).heap.size = w.heap.size + 2 := by simp
  have hz1 := hb.size
  rw [hz] at hz1
  have hA : Blk w1 (w.heap.size + 1) 83 (ansV false) := by
    have := Blk.new (w.alloc (.cells quV 86)) 83 (ansV false)
    have := this.below hb (by simp)
    simpa using this
  have hQ : Blk w1 w.heap.size 86 quV := ((Blk.new w 86 quV).alloc _).below hb (by simp; omega)
  have HW1 : Hid (Below w.heap.size w w1) := (((Below.refl _ _).alloc (Nat.le_refl _) _).alloc (by simp) _).trans (hb.mono (by simp; omega))
  have HA := Lib.hid hA
  have HQ := Lib.hid hQ
  clear hb hz
  have a0 : w1.cell? ⟨w.heap.size + 1, 0, none⟩ = some (.int .i64 0) := hA.cell 0
  have f0 := hA.frozen 0
  have q0 : (w1.setCell ⟨w.heap.size + 1, 0, none⟩ (.int .i64 0)).cell? ⟨w.heap.size, 0, none⟩ = some (.int .i64 1) := (hQ.far (p := ⟨w.heap.size + 1, 0, none⟩) (by show w.heap.size ≠ w.heap.size + 1; omega) _).cell 0
  have q1 : (w1.setCell ⟨w.heap.size + 1, 0, none⟩ (.int .i64 0)).cell? ⟨w.heap.size, 1, none⟩ = some (.int .i64 1) := (hQ.far (p := ⟨w.heap.size + 1, 0, none⟩) (by show w.heap.size ≠ w.heap.size + 1; omega) _).cell 1
  clear hA hQ
  go_wp2_with fail
  have HB2 : Hid (Below w.heap.size w (w1.setCell ⟨w.heap.size + 1, 0, none⟩ (.int .i64 0))) := HW1.out.setCell (by show w.heap.size ≤ w.heap.size + 1; omega) _
  refine (HasV_any g b c d n D 1 true _ (HG.out.below HB2.out hgl hbl) (by decide) HH.out).mono ?_
  rintro e w2 ⟨rfl, hb⟩
  have hA2 : Blk w2 (w.heap.size + 1) 83 (ansV false) := (HA.out.set_ 0 (.int .i64 0)).below hb (by simp; omega)
  have HA2 := Lib.hid hA2
  have HW2 : Hid (Below w.heap.size w w2) := HB2.out.trans (hb.mono (by simp; omega))
  clear hb a0 f0 q0 q1
  have a0 : w2.cell? ⟨w.heap.size + 1, 0, none⟩ = some (.int .i64 0) := hA2.cell 0
  have a1 : w2.cell? ⟨w.heap.size + 1, 1, none⟩ = some (.bool false) := hA2.cell 1
  have a2 : w2.cell? ⟨w.heap.size + 1, 2, none⟩ = some (.int .i64 0) := hA2.cell 2
  have a3 : w2.cell? ⟨w.heap.size + 1, 3, none⟩ = some (.complex .f64 0 0) := hA2.cell 3
  have a4 : w2.cell? ⟨w.heap.size + 1, 4, none⟩ = some (.int .i64 0) := hA2.cell 4
  have a5 : w2.cell? ⟨w.heap.size + 1, 5, none⟩ = some (.int .i64 0) := hA2.cell 5
  have a6 : w2.cell? ⟨w.heap.size + 1, 6, none⟩ = some (.int .i64 0) := hA2.cell 6
  have a7 : w2.cell? ⟨w.heap.size + 1, 7, none⟩ = some (.int .i64 0) := hA2.cell 7
  have a8 : w2.cell? ⟨w.heap.size + 1, 8, none⟩ = some (.slice none 0 0) := hA2.cell 8
  have a9 : w2.cell? ⟨w.heap.size + 1, 9, none⟩ = some (.int .i64 0) := hA2.cell 9
  have a10 : w2.cell? ⟨w.heap.size + 1, 10, none⟩ = some (.int .i64 0) := hA2.cell 10
  have a11 : w2.cell? ⟨w.heap.size + 1, 11, none⟩ = some (.complex .f64 0 0) := hA2.cell 11
  have a12 : w2.cell? ⟨w.heap.size + 1, 12, none⟩ = some (.slice none 0 0) := hA2.cell 12
  have a13 : w2.cell? ⟨w.heap.size + 1, 13, none⟩ = some (.slice none 0 0) := hA2.cell 13
  have a14 : w2.cell? ⟨w.heap.size + 1, 14, none⟩ = some (.slice none 0 0) := hA2.cell 14
  have f1 := hA2.frozen 1
  have hA3 : Blk (w2.setCell ⟨w.heap.size + 1, 1, none⟩ (.bool true)) (w.heap.size + 1) 83 (ansV true) := hA2.set_ 1 (.bool true)
  have HA3 := Lib.hid hA3
  have hx : (w2.setCell ⟨w.heap.size + 1, 1, none⟩ (.bool true)).setRow (w.heap.size + 1) (ansV true) = w2.setCell ⟨w.heap.size + 1, 1, none⟩ (.bool true) := setRow_same hA3
  have HX := Lib.hid hx
  clear hA2 hA3 hx
  go_wp2_with (refine wpList_store_row rfl 83 (.tmp 4) (.tmp 73) rfl (w.heap.size + 1) (ansV true) rfl rfl 83 (ansV true) HA3.out (by kernel_rfl) rfl (by kernel_rfl) ?_; rw [HX.out])
  refine ret_cell1 (p := 4) rfl rfl (load_ans HA3.out) rfl ⟨rfl, ?_⟩
  exact HW2.out.setCell (by show w.heap.size ≤ w.heap.size + 1; omega) _
end Go.Proofs.YtghacfhpafbdmaaGreat
