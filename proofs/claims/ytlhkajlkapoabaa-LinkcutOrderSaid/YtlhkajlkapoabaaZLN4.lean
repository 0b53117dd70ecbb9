/-
  The document's Edges and Joined.
-/
import Derived.Test.YtlhkajlkapoabaaZLN0
import Derived.Test.YtlhkajlkapoabaaZLL2
namespace Go.Proofs.Ytlhkajlkapoabaa
open Go.RowKit Go.Maps
set_option linter.unusedVariables false

/-- The edges of a vertex's tree, in the document's order. -/
noncomputable def DF.treeE (d : DF) (u : Int) : List Int := (d.es.filter fun e => decide (e.u ∈ d.tree u)).map fun e => e.id

theorem fmap_take {V : List Eg} {k : Nat} {y : Eg} {P : Eg → Bool} (h : V.take (k + 1) = V.take k ++ [y]) : ((V.take (k + 1)).filter P).map (fun e => e.id) = if P y = true then ((V.take k).filter P).map (fun e => e.id) ++ [y.id] else ((V.take k).filter P).map (fun e => e.id) := by
  rw [h, List.filter_append]
  by_cases hp : P y = true
  · rw [if_pos hp]; simp [hp]
  · rw [if_neg hp]; simp [hp]

set_option maxRecDepth 100000 in
set_option maxHeartbeats 4000000 in
theorem refJoined_any (w : World) (a b c e : Value) (d : DF) (u v : Int) (h : DocR w w.heap.size a b c e d) (hd : d.Fit) :
    Calls Try.prog 43 #[.agg #[a, b, c, e], .int .i64 u, .int .i64 v] w fun r w' => r = .returned (.bool (decide (v ∈ d.tree u))) ∧ Below w.heap.size w w' := by
  have H := Lib.hid h
  have HF := Lib.hid hd
  clear h hd
  obtain ⟨W, hW⟩ : ∃ W, W = w.alloc (.cells #[a, b, c, e] 31) := ⟨_, rfl⟩
  obtain ⟨q, hq⟩ : ∃ q, q = w.heap.size := ⟨_, rfl⟩
  have hbx := boxD w #[a, b, c, e]
  rw [← hW, ← hq] at hbx
  have HW := Lib.hid hW
  have HQ := Lib.hid hq
  have BX := Lib.hid (show BoxD w W q #[a, b, c, e] from hq ▸ hbx)
  clear hW hq hbx
  go_enter Try.func43, Try.ntmps43
  go_upto_region 1 with fail
  rw [← HW.out]
  try simp only [← HQ.out]
  have c0 := BX.out.b0.cell 0
  have c1 := BX.out.b0.cell 1
  have c2 := BX.out.b0.cell 2
  have c3 := BX.out.b0.cell 3
  have HR1 := Lib.hid ((H.out.below BX.out.below).more BX.out.below.size)
  go_wp2_with fail
  refine (refVerts_any W _ _ _ _ d u HR1.out HF.out).mono ?_
  rintro r w1 ⟨x, rfl, o1, b1⟩
  have O1 := Lib.hid (o1.rk encI_len (Nat.le_refl _))
  have BX1 := Lib.hid (BX.out.below.trans (b1.mono BX.out.below.size))
  clear o1 b1 c0 c1 c2 c3 BX HR1
  go_wp2_with fail
  refine (has_any _ _ w1 _ O1.out v).mono ?_
  rintro r wx ⟨rfl, hwx⟩
  rw [hwx]
  clear hwx wx
  go_wp2_with fail
  go_ret
  exact ⟨rfl, BX1.out⟩

end Go.Proofs.Ytlhkajlkapoabaa

/-
  The document's Edge.
-/
namespace Go.Proofs.Ytlhkajlkapoabaa
open Go.RowKit Go.Maps
set_option linter.unusedVariables false

/-- An edge's value. -/
def edV (e : Eg) : Value := .agg #[.int .i64 e.id, .int .i64 e.u, .int .i64 e.v, .int .i64 (e.w : Int)]

/-- A box at p, a result's cell behind it. -/
structure BoxE (w W : World) (p : Nat) (t : TypeId) (cs : Array Value) (t2 : TypeId) (cs2 : Array Value) : Prop where
  b0 : Blk W p t cs
  b1 : Blk W (p + 1) t2 cs2
  below : Below w.heap.size w W
  lo : w.heap.size ≤ p

theorem boxE (w : World) (t : TypeId) (cs : Array Value) (t2 : TypeId) (cs2 : Array Value) : BoxE w ((w.alloc (.cells cs t)).alloc (.cells cs2 t2)) w.heap.size t cs t2 cs2 := by
  refine ⟨(Blk.new _ _ _).alloc _, ?_, ((Below.refl _ _).alloc (Nat.le_refl _) _).alloc (by simp) _, Nat.le_refl _⟩
  have := Blk.new (w.alloc (.cells cs t)) t2 cs2
  simpa using this

theorem BoxE.after {w W W' : World} {p : Nat} {t t2 : TypeId} {cs cs2 : Array Value} (h : BoxE w W p t cs t2 cs2) (hb : Below W.heap.size W W') : BoxE w W' p t cs t2 cs2 := ⟨h.b0.below hb h.b0.lt, h.b1.below hb h.b1.lt, h.below.trans (hb.mono h.below.size), h.lo⟩

theorem BoxE.set4 {w W : World} {p : Nat} {t t2 : TypeId} {cs cs2 : Array Value} (h : BoxE w W p t cs t2 cs2) (a b c d : Value) : Below w.heap.size w ((((W.setCell ⟨p + 1, 0, none⟩ a).setCell ⟨p + 1, 1, none⟩ b).setCell ⟨p + 1, 2, none⟩ c).setCell ⟨p + 1, 3, none⟩ d) := by
  have hq : w.heap.size ≤ p + 1 := by have := h.lo; omega
  exact (((h.below.setCell (p := ⟨p + 1, 0, none⟩) hq _).setCell (p := ⟨p + 1, 1, none⟩) hq _).setCell (p := ⟨p + 1, 2, none⟩) hq _).setCell (p := ⟨p + 1, 3, none⟩) hq _

def zEd : Array Value := #[.int .i64 0, .int .i64 0, .int .i64 0, .int .i64 0]

set_option maxRecDepth 100000 in
set_option maxHeartbeats 2000000 in
theorem edge05_any (w : World) (g0 b g2 : Value) (es : List Eg) (x : Int) (hb : RK encD 4 w w.heap.size b es) (hl : es.length ≤ 100000) :
    Calls Try.prog 26 #[.agg #[g0, b, g2], .int .i64 x] w fun r w' => r = .returned (.tuple #[edV (look es x), .bool (decide (x ∈ ids es))]) ∧ Below w.heap.size w w' := by
  obtain ⟨A, ca, rfl, -, -, -, HC⟩ := hb.open_
  obtain ⟨n, hnn⟩ : ∃ n, n = es.length := ⟨_, rfl⟩
  rw [← hnn] at hl ⊢
  have HN := Lib.hid hnn
  clear hb hnn
  obtain ⟨W, hW⟩ : ∃ W, W = (w.alloc (.cells #[g0, .slice A n ca, g2] 75)).alloc (.cells zEd 33) := ⟨_, rfl⟩
  obtain ⟨q, hq⟩ : ∃ q, q = w.heap.size := ⟨_, rfl⟩
  have hbx := boxE w 75 #[g0, .slice A n ca, g2] 33 zEd
  rw [← hW, ← hq] at hbx
  unfold zEd at hW hbx
  have HW := Lib.hid hW
  have HQ := Lib.hid hq
  have BX := Lib.hid (show BoxE w W q 75 #[g0, .slice A n ca, g2] 33 #[.int .i64 0, .int .i64 0, .int .i64 0, .int .i64 0] from hq ▸ hbx)
  clear hW hq hbx
  go_enter Try.func26, Try.ntmps26
  go_upto_region 1 with fail
  rw [← HW.out]
  try simp only [← HQ.out]
  have c1 := BX.out.b0.cell 1
  have d0 := BX.out.b1.cell 0
  have d1 := BX.out.b1.cell 1
  have d2 := BX.out.b1.cell 2
  have d3 := BX.out.b1.cell 3
  have f0 := BX.out.b1.frozen 0
  have f1 := BX.out.b1.frozen 1
  have f2 := BX.out.b1.frozen 2
  have f3 := BX.out.b1.frozen 3
  go_wp2_with fail
  go_loopw [6] (fun i wr => ∃ k : Nat, k ≤ n ∧ i = .int .i64 k ∧ Hid (x ∉ ids (es.take k)) ∧ wr = W) (fun i _ => n - (intOf i).toNat)
  case atStart => exact ⟨0, Nat.zero_le _, rfl, Lib.hid (by simp [ids]), rfl⟩
  case round =>
    obtain ⟨k, hk, rfl, HT, hwr⟩ := hrel
    rw [hwr]
    clear hwr
    by_cases hkn : k < n
    · have hkv : k < es.length := by have := HN.out; omega
      obtain ⟨b1, o1, rfl, hb1, hx⟩ := HC.out k hkv
      obtain ⟨⟨id, p1, p2, p3⟩, hy⟩ : ∃ y, y = es[k] := ⟨_, rfl⟩
      have HTK := Lib.hid (List.take_succ_eq_append_getElem hkv)
      have HMEM := Lib.hid (List.getElem_mem hkv)
      rw [← hy] at hx HTK HMEM
      obtain ⟨x0, x1, x2, x3⟩ := cellD hx
      dsimp only at x0 x1 x2 x3
      have x0 := (BX.out.below.cell (p := ⟨b1, o1 + k * 4, none⟩) hb1).trans x0
      have x1 := (BX.out.below.cell (p := ⟨b1, o1 + k * 4 + 1, none⟩) hb1).trans x1
      have x2 := (BX.out.below.cell (p := ⟨b1, o1 + k * 4 + 2, none⟩) hb1).trans x2
      have x3 := (BX.out.below.cell (p := ⟨b1, o1 + k * 4 + 3, none⟩) hb1).trans x3
      have hkd : decide ((k : Int) < (n : Int)) = true := by simpa using hkn
      have hk2 : (k : Int) < (n : Int) := by omega
      clear hx hy
      by_cases hix : id = x
      · have HIN : Hid (x ∈ ids es) := Lib.hid (List.mem_map.2 ⟨_, HMEM.out, hix⟩)
        have HLK : Hid (look es x = ⟨id, p1, p2, p3⟩) := Lib.hid (look_at HT.out HTK.out hix)
        subst hix
        have hid : (id == id) = true := by simp
        go_wp2_with fail
        refine ret_cell_tmp2 (p := 4) (u := 5) (v := edV ⟨id, p1, p2, p3⟩) (x := .bool true) rfl rfl rfl (by unfold edV; go_simp) rfl ⟨by rw [decide_eq_true HIN.out, HLK.out], ?_⟩
        exact BX.out.set4 _ _ _ _
      · have hid : (id == x) = false := by simpa using hix
        go_wp2_with fail
        go_roundw
        case rel =>
          refine ⟨k + 1, by omega, by go_num, Lib.hid ?_, by first | rfl | trivial⟩
          unfold ids
          rw [HTK.out, List.map_append, List.mem_append]
          rintro (h | h)
          · exact HT.out h
          · exact hix (List.mem_singleton.1 h).symm
        case measure => simp [intOf]; omega
    · obtain rfl : k = n := by omega
      have hkd : decide ((k : Int) < (k : Int)) = false := by simp
      have HIN : Hid (x ∉ ids es) := Lib.hid (by
        have := HT.out
        rwa [List.take_of_length_le (by have := HN.out; omega)] at this)
      go_wp2_with fail
      refine ret_cell_tmp2 (p := 4) (u := 5) (v := edV Eg.zero) (x := .bool false) rfl rfl rfl (by unfold edV Eg.zero; go_simp) rfl ⟨by rw [decide_eq_false HIN.out, look_no HIN.out], ?_⟩
      first | exact BX.out.below | exact BX.out.set4 _ _ _ _

set_option maxRecDepth 100000 in
set_option maxHeartbeats 2000000 in
theorem refEdge_any (w : World) (a b c e : Value) (d : DF) (x : Int) (h : DocR w w.heap.size a b c e d) (hd : d.Fit) :
    Calls Try.prog 13 #[.agg #[a, b, c, e], .int .i64 x] w fun r w' => r = .returned (.tuple #[edV (look d.es x), .bool (decide (x ∈ ids d.es))]) ∧ Below w.heap.size w w' := by
  obtain ⟨Ab, cb, rfl, -, -, -, -⟩ := h.es.open_
  obtain ⟨nb, hnb⟩ : ∃ nb, nb = d.es.length := ⟨_, rfl⟩
  rw [← hnb] at h ⊢
  clear hnb
  have H := Lib.hid h
  have HF := Lib.hid hd
  clear h hd
  obtain ⟨W, hW⟩ : ∃ W, W = (w.alloc (.cells #[a, .slice Ab nb cb, c, e] 31)).alloc (.cells zEd 33) := ⟨_, rfl⟩
  obtain ⟨q, hq⟩ : ∃ q, q = w.heap.size := ⟨_, rfl⟩
  have hbx := boxE w 31 #[a, .slice Ab nb cb, c, e] 33 zEd
  rw [← hW, ← hq] at hbx
  unfold zEd at hW hbx
  have HW := Lib.hid hW
  have HQ := Lib.hid hq
  have BX := Lib.hid (show BoxE w W q 31 #[a, .slice Ab nb cb, c, e] 33 #[.int .i64 0, .int .i64 0, .int .i64 0, .int .i64 0] from hq ▸ hbx)
  clear hW hq hbx
  go_enter Try.func13, Try.ntmps13
  go_upto_region 1 with fail
  rw [← HW.out]
  try simp only [← HQ.out]
  have c1 := BX.out.b0.cell 1
  have HR1 := Lib.hid ((H.out.below BX.out.below).more BX.out.below.size)
  go_wp2_with fail
  refine (edge05_any W _ _ _ d.es x HR1.out.es (by have := HF.out.ne; omega)).mono ?_
  obtain ⟨⟨y0, y1, y2, y3⟩, hlk⟩ : ∃ z, z = look d.es x := ⟨_, rfl⟩
  rw [← hlk]
  have HLK := Lib.hid hlk
  rintro r w1 ⟨rfl, b1⟩
  clear hlk
  have BX1 := Lib.hid (BX.out.after b1)
  have d0 := BX1.out.b1.cell 0
  have d1 := BX1.out.b1.cell 1
  have d2 := BX1.out.b1.cell 2
  have d3 := BX1.out.b1.cell 3
  have f0 := BX1.out.b1.frozen 0
  have f1 := BX1.out.b1.frozen 1
  have f2 := BX1.out.b1.frozen 2
  have f3 := BX1.out.b1.frozen 3
  clear b1 c1 BX HR1
  unfold edV
  dsimp only
  go_wp2_with fail
  refine ret_cell_tmp2 (p := 4) (u := 5) (v := edV ⟨y0, y1, y2, y3⟩) (x := .bool (decide (x ∈ ids d.es))) rfl rfl rfl (by unfold edV; go_simp) rfl ⟨by rw [← HLK.out], ?_⟩
  first | exact BX1.out.below | exact BX1.out.set4 _ _ _ _

end Go.Proofs.Ytlhkajlkapoabaa

/-
  The document's AddV at any forest.
-/
namespace Go.Proofs.Ytlhkajlkapoabaa
open Go.RowKit Go.Maps
set_option linter.unusedVariables false

open Classical in
noncomputable def DF.addE (d : DF) (v : Int) : Int := if okId v then (if v ∈ d.vs then 50 else if d.vs.length ≥ 2048 then 55 else 0) else 1

noncomputable def DF.addA (d : DF) (v : Int) : DF := if d.addE v = 0 then ⟨insI v d.vs, d.es, d.mv, d.me⟩ else d

theorem DF.addA_no (d : DF) {v x : Int} (h : d.addE v = x) (hx : x ≠ 0) : d.addA v = d := by unfold DF.addA; rw [h, if_neg hx]

def zD : Array Value := #[.slice none 0 0, .slice none 0 0, .slice none 0 0, .slice none 0 0]

theorem DocR.stay {w w' : World} {a b c e : Value} {d : DF} (h : DocR w w.heap.size a b c e d) (hb : Below w.heap.size w w') : DocR w' w'.heap.size a b c e d := (h.below hb).more hb.size

theorem heap4 {W : World} {p b : Nat} (hb : b ≠ p) (x y z u : Value) : ((((W.setCell ⟨p, 0, none⟩ x).setCell ⟨p, 1, none⟩ y).setCell ⟨p, 2, none⟩ z).setCell ⟨p, 3, none⟩ u).heap[b]? = W.heap[b]? :=
  (Below.heap_setCell _ ⟨p, 3, none⟩ _ _ hb).trans ((Below.heap_setCell _ ⟨p, 2, none⟩ _ _ hb).trans ((Below.heap_setCell _ ⟨p, 1, none⟩ _ _ hb).trans (Below.heap_setCell _ ⟨p, 0, none⟩ _ _ hb)))

theorem heap2 {W : World} {p b : Nat} (hb : b ≠ p) (x y : Value) : ((W.setCell ⟨p, 0, none⟩ x).setCell ⟨p, 1, none⟩ y).heap[b]? = W.heap[b]? :=
  (Below.heap_setCell _ ⟨p, 1, none⟩ _ _ hb).trans (Below.heap_setCell _ ⟨p, 0, none⟩ _ _ hb)

/-- The block that a slice lies in. -/
def blkOf : Value → Option Nat
  | .slice (some A) _ _ => some A.block
  | _ => none

theorem OK.blkOf {α : Type} {enc : α → List Value} {k E : Nat} {w : World} {B : Nat} {v : Value} {xs : List α} (h : OK enc k E w B v xs) {b : Nat} (hb : Proofs.Ytlhkajlkapoabaa.blkOf v = some b) : B ≤ b := by
  rcases h.2.2 with ⟨e, -⟩ | ⟨g, cap, cur, e, hg, -⟩
  · rw [e] at hb; cases hb
  · rw [e] at hb
    injection hb with hb
    have hb : g = b := hb
    omega

/-- A row is the old one, or new. -/
def OldNew (w : World) (a a' : Value) : Prop := a' = a ∨ ∀ k, blkOf a' = some k → w.heap.size ≤ k

theorem OldNew.old (w : World) (a : Value) : OldNew w a a := .inl rfl

/-- The answer of a call that gives a forest and a number. -/
def DocOut (w : World) (a0 b0 c0 e0 : Value) (n : Int) (d : DF) (r : Ending) (w' : World) : Prop := ∃ a b c e, r = .returned (.tuple #[.agg #[a, b, c, e], .int .i64 n]) ∧ DocR w' w'.heap.size a b c e d ∧ Below w.heap.size w w' ∧ OldNew w a0 a ∧ OldNew w b0 b ∧ OldNew w c0 c ∧ OldNew w e0 e

set_option maxRecDepth 100000 in
set_option maxHeartbeats 4000000 in
theorem refAddV_any (w : World) (a b c e : Value) (d : DF) (v : Int) (h : DocR w w.heap.size a b c e d) (hd : d.Fit) :
    Calls Try.prog 19 #[.agg #[a, b, c, e], .int .i64 v] w fun r w' => DocOut w a b c e (d.addE v) (d.addA v) r w' := by
  obtain ⟨A1, c1, rfl, -, -, -, -⟩ := h.vs.open_
  obtain ⟨A2, c2, rfl, -, -, -, -⟩ := h.es.open_
  obtain ⟨A3, c3, rfl, -, -, -, -⟩ := h.mv.open_
  obtain ⟨A4, c4, rfl, -, -, -, -⟩ := h.me.open_
  obtain ⟨n1, hn1⟩ : ∃ n, n = d.vs.length := ⟨_, rfl⟩
  obtain ⟨n2, hn2⟩ : ∃ n, n = d.es.length := ⟨_, rfl⟩
  obtain ⟨n3, hn3⟩ : ∃ n, n = d.mv.length := ⟨_, rfl⟩
  obtain ⟨n4, hn4⟩ : ∃ n, n = d.me.length := ⟨_, rfl⟩
  rw [← hn1, ← hn2, ← hn3, ← hn4] at h ⊢
  have H := Lib.hid h
  have HF := Lib.hid hd
  have HN := Lib.hid hn1
  clear h hd hn1 hn2 hn3 hn4
  obtain ⟨W, hW⟩ : ∃ W, W = (w.alloc (.cells #[.slice A1 n1 c1, .slice A2 n2 c2, .slice A3 n3 c3, .slice A4 n4 c4] 31)).alloc (.cells zD 31) := ⟨_, rfl⟩
  obtain ⟨q, hq⟩ : ∃ q, q = w.heap.size := ⟨_, rfl⟩
  have hbx := boxE w 31 #[.slice A1 n1 c1, .slice A2 n2 c2, .slice A3 n3 c3, .slice A4 n4 c4] 31 zD
  have hqs : q + 1 < W.heap.size := by rw [hW, hq]; simp
  rw [← hW, ← hq] at hbx
  unfold zD at hW hbx
  have HW := Lib.hid hW
  have HQ := Lib.hid hq
  have HQS := Lib.hid hqs
  have BX := Lib.hid (show BoxE w W q 31 #[.slice A1 n1 c1, .slice A2 n2 c2, .slice A3 n3 c3, .slice A4 n4 c4] 31 #[.slice none 0 0, .slice none 0 0, .slice none 0 0, .slice none 0 0] from hq ▸ hbx)
  clear hW hq hbx hqs
  go_enter Try.func19, Try.ntmps19
  go_upto_region 1 with fail
  rw [← HW.out]
  try simp only [← HQ.out]
  have d0 := BX.out.b0.cell 0
  have d1 := BX.out.b0.cell 1
  have d2 := BX.out.b0.cell 2
  have d3 := BX.out.b0.cell 3
  have dr0 := BX.out.b1.cell 0
  have df0 := BX.out.b1.frozen 0
  have dr1 := BX.out.b1.cell 1
  have df1 := BX.out.b1.frozen 1
  have dr2 := BX.out.b1.cell 2
  have df2 := BX.out.b1.frozen 2
  have dr3 := BX.out.b1.cell 3
  have df3 := BX.out.b1.frozen 3
  have HR := Lib.hid ((H.out.below BX.out.below).more BX.out.below.size)
  go_wp2_with fail
  refine (badId_any v W).mono ?_
  rintro r wx ⟨rfl, hwx⟩
  rw [hwx]
  clear hwx wx
  by_cases h0 : okId v
  · rw [isIdI_yes h0]
    have H0 := Lib.hid h0
    clear h0
    go_wp2_with fail
    refine (has_any _ d.vs W W.heap.size HR.out.vs v).mono ?_
    by_cases hin : v ∈ d.vs
    · rw [decide_eq_true hin]
      have HE : Hid (d.addE v = 50) := Lib.hid (by unfold DF.addE; rw [if_pos H0.out, if_pos hin])
      rintro r wx ⟨rfl, hwx⟩
      rw [hwx]
      clear hwx wx hin
      go_wp2_with fail
      refine ret_cell_tmp2 (p := 4) (u := 5) (v := .agg #[.slice A1 n1 c1, .slice A2 n2 c2, .slice A3 n3 c3, .slice A4 n4 c4]) (x := .int .i64 50) rfl rfl rfl (by go_simp) rfl ?_
      rw [HE.out, d.addA_no HE.out (by decide)]
      exact ⟨_, _, _, _, rfl, H.out.stay (BX.out.set4 _ _ _ _), BX.out.set4 _ _ _ _, .old _ _, .old _ _, .old _ _, .old _ _⟩
    · rw [decide_eq_false hin]
      have HIN := Lib.hid hin
      rintro r wx ⟨rfl, hwx⟩
      rw [hwx]
      clear hwx wx hin
      by_cases hm : (n1 : Int) ≥ 2048
      · have hmd : decide ((n1 : Int) ≥ 2048) = true := by simpa using hm
        have HE : Hid (d.addE v = 55) := Lib.hid (by unfold DF.addE; rw [if_pos H0.out, if_neg HIN.out, if_pos (by have := HN.out; omega)])
        go_wp2_with fail
        refine ret_cell_tmp2 (p := 4) (u := 5) (v := .agg #[.slice A1 n1 c1, .slice A2 n2 c2, .slice A3 n3 c3, .slice A4 n4 c4]) (x := .int .i64 55) rfl rfl rfl (by go_simp) rfl ?_
        rw [HE.out, d.addA_no HE.out (by decide)]
        exact ⟨_, _, _, _, rfl, H.out.stay (BX.out.set4 _ _ _ _), BX.out.set4 _ _ _ _, .old _ _, .old _ _, .old _ _, .old _ _⟩
      · have hmd : decide ((n1 : Int) ≥ 2048) = false := by simpa using hm
        have HE : Hid (d.addE v = 0) := Lib.hid (by unfold DF.addE; rw [if_pos H0.out, if_neg HIN.out, if_neg (by have := HN.out; omega)])
        have HA : Hid (d.addA v = ⟨insI v d.vs, d.es, d.mv, d.me⟩) := Lib.hid (by unfold DF.addA; rw [if_pos HE.out])
        have HL : Hid (d.vs.length ≤ 100000) := Lib.hid (by have := HF.out.nv; omega)
        go_wp2_with fail
        go_region_law (first | (go_simp; go_at_call 33; refine (With_any _ d.vs v _ W.heap.size (RK.drew HR.out.vs) (by simp) HL.out).mono ?_; rintro r w3 ⟨v3, rfl, o3, b3⟩; obtain ⟨A5, c5, hv5, -, -, -, -⟩ := (o3.rk encI_len (Nat.le_refl _)).open_; obtain ⟨n5, hn5⟩ : ∃ n, n = (insI v d.vs).length := ⟨_, rfl⟩; rw [← hn5] at hv5; subst hv5; have O3 := Lib.hid o3; have BX3 := Lib.hid (BX.out.after ((Below.refl _ W).drew.trans b3)); have d0 := BX3.out.b0.cell 0; have d1 := BX3.out.b0.cell 1; have d2 := BX3.out.b0.cell 2; have d3 := BX3.out.b0.cell 3; have dr0 := BX3.out.b1.cell 0; have df0 := BX3.out.b1.frozen 0; have dr1 := BX3.out.b1.cell 1; have df1 := BX3.out.b1.frozen 1; have dr2 := BX3.out.b1.cell 2; have df2 := BX3.out.b1.frozen 2; have dr3 := BX3.out.b1.cell 3; have df3 := BX3.out.b1.frozen 3; have g0 := BX3.out.b0.frozen 0; have g1 := BX3.out.b0.frozen 1; clear b3 o3 hn5))
        all_goals (
          go_wp2_with fail
          refine ret_cell_tmp2 (p := 4) (u := 5) (v := .agg #[.slice A5 n5 c5, .slice A2 n2 c2, .slice A3 n3 c3, .slice A4 n4 c4]) (x := .int .i64 0) rfl rfl rfl (by go_simp) rfl ?_
          rw [HE.out, HA.out]
          have hlow := below4 (below2 BX3.out.below BX3.out.lo (.slice A5 n5 c5) (.slice A2 n2 c2)) (show w.heap.size ≤ q + 1 by have := BX3.out.lo; omega) (.slice A5 n5 c5) (.slice A2 n2 c2) (.slice A3 n3 c3) (.slice A4 n4 c4)
          have hold := H.out.stay hlow
          have hnew := (O3.out.same (fun b hb => (heap4 (show b ≠ q + 1 by have := (O3.out.lt b hb).1; have := HQS.out; simp at *; omega) (.slice A5 n5 c5) (.slice A2 n2 c2) (.slice A3 n3 c3) (.slice A4 n4 c4)).trans (heap2 (show b ≠ q by have := (O3.out.lt b hb).1; have := HQS.out; simp at *; omega) (.slice A5 n5 c5) (.slice A2 n2 c2)))).rk encI_len (Nat.le_refl _)
          exact ⟨_, _, _, _, rfl, ⟨hnew, hold.es, hold.mv, hold.me⟩, hlow, (.inr fun k e => Nat.le_trans BX.out.below.size (O3.out.blkOf e)), .old _ _, .old _ _, .old _ _⟩)
  · rw [isIdI_no h0]
    have HE : Hid (d.addE v = 1) := Lib.hid (by unfold DF.addE; rw [if_neg h0])
    clear h0
    go_wp2_with fail
    refine ret_cell_tmp2 (p := 4) (u := 5) (v := .agg #[.slice A1 n1 c1, .slice A2 n2 c2, .slice A3 n3 c3, .slice A4 n4 c4]) (x := .int .i64 1) rfl rfl rfl (by go_simp) rfl ?_
    rw [HE.out, d.addA_no HE.out (by decide)]
    exact ⟨_, _, _, _, rfl, H.out.stay (BX.out.set4 _ _ _ _), BX.out.set4 _ _ _ _, .old _ _, .old _ _, .old _ _, .old _ _⟩

end Go.Proofs.Ytlhkajlkapoabaa

/-
  The document's DelV at any forest.
-/
namespace Go.Proofs.Ytlhkajlkapoabaa
open Go.RowKit Go.Maps
set_option linter.unusedVariables false

open Classical in
noncomputable def DF.delE (d : DF) (v : Int) : Int := if okId v then (if v ∈ d.vs then (if ∃ e ∈ d.es, e.u = v ∨ e.v = v then 52 else 0) else 51) else 1

noncomputable def DF.delA (d : DF) (v : Int) : DF := if d.delE v = 0 then ⟨d.vs.filter (· ≠ v), d.es, d.mv.filter (· ≠ v), d.me⟩ else d

theorem DF.delA_no (d : DF) {v x : Int} (h : d.delE v = x) (hx : x ≠ 0) : d.delA v = d := by unfold DF.delA; rw [h, if_neg hx]

theorem BoxE.put2 {w W : World} {p : Nat} {t t2 : TypeId} {x0 x1 x2 x3 : Value} {cs2 : Array Value} (h : BoxE w W p t #[x0, x1, x2, x3] t2 cs2) (y0 y1 : Value) : BoxE w ((W.setCell ⟨p, 0, none⟩ y0).setCell ⟨p, 1, none⟩ y1) p t #[y0, y1, x2, x3] t2 cs2 := by
  refine ⟨by simpa using (h.b0.set_ 0 y0).set_ 1 y1, ?_, below2 h.below h.lo _ _, h.lo⟩
  have h1 := h.b1
  unfold Blk at h1 ⊢
  rw [heap2 (by omega)]
  exact h1

theorem heap5 {W : World} {q b : Nat} (hb : b ≠ q) (hb' : b ≠ q + 1) (x : Value) (i : Nat) (y0 y1 y2 y3 : Value) : (((((W.setCell ⟨q, i, none⟩ x).setCell ⟨q + 1, 0, none⟩ y0).setCell ⟨q + 1, 1, none⟩ y1).setCell ⟨q + 1, 2, none⟩ y2).setCell ⟨q + 1, 3, none⟩ y3).heap[b]? = W.heap[b]? :=
  (heap4 hb' _ _ _ _).trans (Below.heap_setCell _ ⟨q, i, none⟩ _ _ hb)

set_option maxRecDepth 100000 in
set_option maxHeartbeats 4000000 in
theorem refDelV_any (w : World) (a b c e : Value) (d : DF) (v : Int) (h : DocR w w.heap.size a b c e d) (hd : d.Fit) (hm : d.mv.length ≤ 4096) :
    Calls Try.prog 20 #[.agg #[a, b, c, e], .int .i64 v] w fun r w' => DocOut w a b c e (d.delE v) (d.delA v) r w' := by
  obtain ⟨A1, c1, rfl, -, -, -, -⟩ := h.vs.open_
  obtain ⟨A2, c2, rfl, -, -, -, HC⟩ := h.es.open_
  obtain ⟨A3, c3, rfl, -, -, -, -⟩ := h.mv.open_
  obtain ⟨A4, c4, rfl, -, -, -, -⟩ := h.me.open_
  obtain ⟨n1, hn1⟩ : ∃ n, n = d.vs.length := ⟨_, rfl⟩
  obtain ⟨n2, hn2⟩ : ∃ n, n = d.es.length := ⟨_, rfl⟩
  obtain ⟨n3, hn3⟩ : ∃ n, n = d.mv.length := ⟨_, rfl⟩
  obtain ⟨n4, hn4⟩ : ∃ n, n = d.me.length := ⟨_, rfl⟩
  rw [← hn1, ← hn2, ← hn3, ← hn4] at h ⊢
  have H := Lib.hid h
  have HF := Lib.hid hd
  have HN := Lib.hid hn1
  have HN2 := Lib.hid hn2
  have hl2 : n2 ≤ 8192 := by rw [hn2]; exact hd.ne
  have HMV : Hid (d.mv.length ≤ 100000) := Lib.hid (by omega)
  clear h hd hm hn1 hn2 hn3 hn4
  obtain ⟨W, hW⟩ : ∃ W, W = (w.alloc (.cells #[.slice A1 n1 c1, .slice A2 n2 c2, .slice A3 n3 c3, .slice A4 n4 c4] 31)).alloc (.cells zD 31) := ⟨_, rfl⟩
  obtain ⟨q, hq⟩ : ∃ q, q = w.heap.size := ⟨_, rfl⟩
  have hbx := boxE w 31 #[.slice A1 n1 c1, .slice A2 n2 c2, .slice A3 n3 c3, .slice A4 n4 c4] 31 zD
  have hqs : q + 1 < W.heap.size := by rw [hW, hq]; simp
  rw [← hW, ← hq] at hbx
  unfold zD at hW hbx
  have HW := Lib.hid hW
  have HQ := Lib.hid hq
  have HQS := Lib.hid hqs
  have BX := Lib.hid (show BoxE w W q 31 #[.slice A1 n1 c1, .slice A2 n2 c2, .slice A3 n3 c3, .slice A4 n4 c4] 31 #[.slice none 0 0, .slice none 0 0, .slice none 0 0, .slice none 0 0] from hq ▸ hbx)
  clear hW hq hbx hqs
  go_enter Try.func20, Try.ntmps20
  go_upto_region 1 with fail
  rw [← HW.out]
  try simp only [← HQ.out]
  have d0 := BX.out.b0.cell 0
  have d1 := BX.out.b0.cell 1
  have d2 := BX.out.b0.cell 2
  have d3 := BX.out.b0.cell 3
  have dr0 := BX.out.b1.cell 0
  have df0 := BX.out.b1.frozen 0
  have dr1 := BX.out.b1.cell 1
  have df1 := BX.out.b1.frozen 1
  have dr2 := BX.out.b1.cell 2
  have df2 := BX.out.b1.frozen 2
  have dr3 := BX.out.b1.cell 3
  have df3 := BX.out.b1.frozen 3
  have HR := Lib.hid ((H.out.below BX.out.below).more BX.out.below.size)
  go_wp2_with fail
  refine (badId_any v W).mono ?_
  rintro r wx ⟨rfl, hwx⟩
  rw [hwx]
  clear hwx wx
  by_cases h0 : okId v
  · rw [isIdI_yes h0]
    have H0 := Lib.hid h0
    clear h0
    go_wp2_with fail
    refine (has_any _ d.vs W W.heap.size HR.out.vs v).mono ?_
    by_cases hin : v ∈ d.vs
    · rw [decide_eq_true hin]
      have HIN := Lib.hid hin
      rintro r wx ⟨rfl, hwx⟩
      rw [hwx]
      clear hwx wx hin
      go_wp2_with fail
      go_loopw [6] (fun i wr => ∃ k : Nat, k ≤ n2 ∧ i = .int .i64 k ∧ Hid (∀ e ∈ d.es.take k, ¬ (e.u = v ∨ e.v = v)) ∧ wr = W) (fun i _ => n2 - (intOf i).toNat)
      case atStart => exact ⟨0, Nat.zero_le _, rfl, Lib.hid (by simp), rfl⟩
      case round =>
        obtain ⟨k, hk, rfl, HT, hwr⟩ := hrel
        rw [hwr]
        clear hwr
        by_cases hkn : k < n2
        · have hkv : k < d.es.length := by have := HN2.out; omega
          obtain ⟨b1, o1, rfl, hb1, hx⟩ := HC.out k hkv
          obtain ⟨⟨id, p1, p2, p3⟩, hy⟩ : ∃ y, y = d.es[k] := ⟨_, rfl⟩
          have HTK := Lib.hid (List.take_succ_eq_append_getElem hkv)
          have HMEM := Lib.hid (List.getElem_mem hkv)
          rw [← hy] at hx HTK HMEM
          obtain ⟨-, x1, x2, -⟩ := cellD hx
          dsimp only at x1 x2
          have x1 := (BX.out.below.cell (p := ⟨b1, o1 + k * 4 + 1, none⟩) hb1).trans x1
          have x2 := (BX.out.below.cell (p := ⟨b1, o1 + k * 4 + 2, none⟩) hb1).trans x2
          have hkd : decide ((k : Int) < (n2 : Int)) = true := by simpa using hkn
          have hk2 : (k : Int) < (n2 : Int) := by omega
          clear hx hy
          by_cases hp1 : p1 = v
          · have HE : Hid (d.delE v = 52) := Lib.hid (by unfold DF.delE; rw [if_pos H0.out, if_pos HIN.out, if_pos ⟨_, HMEM.out, .inl hp1⟩])
            subst hp1
            have hid : (p1 == p1) = true := by simp
            go_wp2_with fail
            refine ret_cell_tmp2 (p := 4) (u := 5) (v := .agg #[.slice A1 n1 c1, .slice (some ⟨b1, o1, none⟩) n2 c2, .slice A3 n3 c3, .slice A4 n4 c4]) (x := .int .i64 52) rfl rfl rfl (by go_simp) rfl ?_
            rw [HE.out, d.delA_no HE.out (by decide)]
            exact ⟨_, _, _, _, rfl, H.out.stay (BX.out.set4 _ _ _ _), BX.out.set4 _ _ _ _, .old _ _, .old _ _, .old _ _, .old _ _⟩
          · have hid : (p1 == v) = false := by simpa using hp1
            by_cases hp2 : p2 = v
            · have HE : Hid (d.delE v = 52) := Lib.hid (by unfold DF.delE; rw [if_pos H0.out, if_pos HIN.out, if_pos ⟨_, HMEM.out, .inr hp2⟩])
              subst hp2
              have hid2 : (p2 == p2) = true := by simp
              go_wp2_with fail
              refine ret_cell_tmp2 (p := 4) (u := 5) (v := .agg #[.slice A1 n1 c1, .slice (some ⟨b1, o1, none⟩) n2 c2, .slice A3 n3 c3, .slice A4 n4 c4]) (x := .int .i64 52) rfl rfl rfl (by go_simp) rfl ?_
              rw [HE.out, d.delA_no HE.out (by decide)]
              exact ⟨_, _, _, _, rfl, H.out.stay (BX.out.set4 _ _ _ _), BX.out.set4 _ _ _ _, .old _ _, .old _ _, .old _ _, .old _ _⟩
            · have hid2 : (p2 == v) = false := by simpa using hp2
              go_wp2_with fail
              go_roundw
              case rel =>
                refine ⟨k + 1, by omega, by go_num, Lib.hid ?_, by first | rfl | trivial⟩
                intro e he
                rw [HTK.out, List.mem_append] at he
                rcases he with he | he
                · exact HT.out e he
                · rw [List.mem_singleton.1 he]; exact fun h => h.elim hp1 hp2
              case measure => simp [intOf]; omega
        · obtain rfl : k = n2 := by omega
          have hkd : decide ((k : Int) < (k : Int)) = false := by simp
          have HE : Hid (d.delE v = 0) := Lib.hid (by
            have h1 := HT.out
            rw [List.take_of_length_le (by have := HN2.out; omega)] at h1
            unfold DF.delE
            rw [if_pos H0.out, if_pos HIN.out, if_neg (by rintro ⟨e, he, h2⟩; exact h1 e he h2)])
          have HA : Hid (d.delA v = ⟨d.vs.filter (· ≠ v), d.es, d.mv.filter (· ≠ v), d.me⟩) := Lib.hid (by unfold DF.delA; rw [if_pos HE.out])
          have HL : Hid (d.vs.length ≤ 100000) := Lib.hid (by have := HF.out.nv; omega)
          go_wp2_with fail
          go_region_law (first | (go_simp; go_at_call 34; refine (Without_any _ d.vs v _ W.heap.size (RK.drew HR.out.vs) (by simp) HL.out).mono ?_; rintro r w3 ⟨v3, rfl, o3, b3⟩; obtain ⟨A5, c5, hv5, -, -, -, -⟩ := (o3.rk encI_len (Nat.le_refl _)).open_; obtain ⟨n5, hn5⟩ : ∃ n, n = (d.vs.filter (· ≠ v)).length := ⟨_, rfl⟩; rw [← hn5] at hv5; subst hv5; have O3 := Lib.hid o3; have BX3 := Lib.hid (BX.out.after ((Below.refl _ W).drew.trans b3)); have Z3 : Hid (W.heap.size ≤ w3.heap.size) := Lib.hid b3.size; have d0 := BX3.out.b0.cell 0; have d1 := BX3.out.b0.cell 1; have d2 := BX3.out.b0.cell 2; have d3 := BX3.out.b0.cell 3; have dr0 := BX3.out.b1.cell 0; have df0 := BX3.out.b1.frozen 0; have dr1 := BX3.out.b1.cell 1; have df1 := BX3.out.b1.frozen 1; have dr2 := BX3.out.b1.cell 2; have df2 := BX3.out.b1.frozen 2; have dr3 := BX3.out.b1.cell 3; have df3 := BX3.out.b1.frozen 3; have g0 := BX3.out.b0.frozen 0; have g1 := BX3.out.b0.frozen 1; have g2 := BX3.out.b0.frozen 2; clear b3 o3 hn5))
          all_goals (
            go_wp2_with fail
            have BX5 := Lib.hid (BX3.out.put2 (.slice A5 n5 c5) (.slice A2 k c2))
            have O5 := Lib.hid (O3.out.same (w' := (w3.setCell ⟨q, 0, none⟩ (.slice A5 n5 c5)).setCell ⟨q, 1, none⟩ (.slice A2 k c2)) (fun b hb => heap2 (show b ≠ q by have := (O3.out.lt b hb).1; have := HQS.out; simp at *; omega) _ _))
            have Z5 : Hid (W.heap.size ≤ ((w3.setCell ⟨q, 0, none⟩ (.slice A5 n5 c5)).setCell ⟨q, 1, none⟩ (.slice A2 k c2)).heap.size) := Lib.hid (by have := Z3.out; simpa using this)
            obtain ⟨W5, hW5⟩ : ∃ W5, W5 = (w3.setCell ⟨q, 0, none⟩ (.slice A5 n5 c5)).setCell ⟨q, 1, none⟩ (.slice A2 k c2) := ⟨_, rfl⟩
            rw [← hW5] at BX5 O5 Z5 ⊢
            clear hW5 d0 d1 d2 d3 dr0 dr1 dr2 dr3 df0 df1 df2 df3 g0 g1 g2
            refine (Without_any _ d.mv v W5 w.heap.size (H.out.mv.below BX5.out.below) BX5.out.below.size HMV.out).mono ?_
            rintro r w6 ⟨v6, rfl, o6, b6⟩
            obtain ⟨A6, c6, hv6, -, -, -, -⟩ := (o6.rk encI_len (Nat.le_refl _)).open_
            obtain ⟨n6, hn6⟩ : ∃ n, n = (d.mv.filter (· ≠ v)).length := ⟨_, rfl⟩
            rw [← hn6] at hv6
            subst hv6
            have O6 := Lib.hid o6
            have O56 := Lib.hid (O5.out.below b6)
            have BX6 := Lib.hid (BX5.out.after b6)
            clear o6 b6 hn6
            have d0 := BX6.out.b0.cell 0
            have d1 := BX6.out.b0.cell 1
            have d2 := BX6.out.b0.cell 2
            have d3 := BX6.out.b0.cell 3
            have dr0 := BX6.out.b1.cell 0
            have df0 := BX6.out.b1.frozen 0
            have dr1 := BX6.out.b1.cell 1
            have df1 := BX6.out.b1.frozen 1
            have dr2 := BX6.out.b1.cell 2
            have df2 := BX6.out.b1.frozen 2
            have dr3 := BX6.out.b1.cell 3
            have df3 := BX6.out.b1.frozen 3
            have g2 := BX6.out.b0.frozen 2
            go_wp2_with fail
            refine ret_cell_tmp2 (p := 4) (u := 5) (v := .agg #[.slice A5 n5 c5, .slice A2 k c2, .slice A6 n6 c6, .slice A4 n4 c4]) (x := .int .i64 0) rfl rfl rfl (by go_simp) rfl ?_
            rw [HE.out, HA.out]
            have hlow := below4 (BX6.out.below.setCell (p := ⟨q, 2, none⟩) BX6.out.lo (.slice A6 n6 c6)) (show w.heap.size ≤ q + 1 by have := BX6.out.lo; omega) (.slice A5 n5 c5) (.slice A2 k c2) (.slice A6 n6 c6) (.slice A4 n4 c4)
            have hold := H.out.stay hlow
            have hn1 := (O56.out.same (fun b hb => heap5 (show b ≠ q by have := (O56.out.lt b hb).1; have := HQS.out; simp at *; omega) (show b ≠ q + 1 by have := (O56.out.lt b hb).1; have := HQS.out; simp at *; omega) (.slice A6 n6 c6) 2 (.slice A5 n5 c5) (.slice A2 k c2) (.slice A6 n6 c6) (.slice A4 n4 c4))).rk encI_len (Nat.le_refl _)
            have hn2 := (O6.out.same (fun b hb => heap5 (show b ≠ q by have := (O6.out.lt b hb).1; have := HQS.out; have := Z5.out; simp at *; omega) (show b ≠ q + 1 by have := (O6.out.lt b hb).1; have := HQS.out; have := Z5.out; simp at *; omega) (.slice A6 n6 c6) 2 (.slice A5 n5 c5) (.slice A2 k c2) (.slice A6 n6 c6) (.slice A4 n4 c4))).rk encI_len (Nat.le_refl _)
            exact ⟨_, _, _, _, rfl, ⟨hn1, hold.es, hn2, hold.me⟩, hlow, (.inr fun k e => Nat.le_trans BX.out.below.size (O3.out.blkOf e)), .old _ _, (.inr fun k e => Nat.le_trans BX5.out.below.size (O6.out.blkOf e)), .old _ _⟩)
    · rw [decide_eq_false hin]
      have HE : Hid (d.delE v = 51) := Lib.hid (by unfold DF.delE; rw [if_pos H0.out, if_neg hin])
      rintro r wx ⟨rfl, hwx⟩
      rw [hwx]
      clear hwx wx hin
      go_wp2_with fail
      refine ret_cell_tmp2 (p := 4) (u := 5) (v := .agg #[.slice A1 n1 c1, .slice A2 n2 c2, .slice A3 n3 c3, .slice A4 n4 c4]) (x := .int .i64 51) rfl rfl rfl (by go_simp) rfl ?_
      rw [HE.out, d.delA_no HE.out (by decide)]
      exact ⟨_, _, _, _, rfl, H.out.stay (BX.out.set4 _ _ _ _), BX.out.set4 _ _ _ _, .old _ _, .old _ _, .old _ _, .old _ _⟩
  · rw [isIdI_no h0]
    have HE : Hid (d.delE v = 1) := Lib.hid (by unfold DF.delE; rw [if_neg h0])
    clear h0
    go_wp2_with fail
    refine ret_cell_tmp2 (p := 4) (u := 5) (v := .agg #[.slice A1 n1 c1, .slice A2 n2 c2, .slice A3 n3 c3, .slice A4 n4 c4]) (x := .int .i64 1) rfl rfl rfl (by go_simp) rfl ?_
    rw [HE.out, d.delA_no HE.out (by decide)]
    exact ⟨_, _, _, _, rfl, H.out.stay (BX.out.set4 _ _ _ _), BX.out.set4 _ _ _ _, .old _ _, .old _ _, .old _ _, .old _ _⟩

end Go.Proofs.Ytlhkajlkapoabaa

/-
  A row of one's own lies in one block.
-/
namespace Go.Proofs.Ytlhkajlkapoabaa
open Go.RowKit Go.Maps
set_option linter.unusedVariables false

theorem OK.blk {α : Type} {enc : α → List Value} {k E : Nat} {w : World} {B : Nat} {v : Value} {xs : List α} (h : OK enc k E w B v xs) {b : Nat} (hb : v.ownBlock = some b) : ∃ cs, Blk w b E cs := by
  rcases h.2.2 with ⟨e, _⟩ | ⟨q, c, cur, e, hq, hh, r⟩
  · rw [e] at hb; cases hb
  · rw [e] at hb
    injection hb with hb
    subst hb
    exact ⟨cur, hh⟩

end Go.Proofs.Ytlhkajlkapoabaa
