/-
  Calls on a page that came in as an argument; the walk of skeinlaw08's filled.
-/
import Derived.Test.YtknhlbbgjfcjaaaJ14
import Derived.Test.YtknhlbbgjfcjaaaIn7
namespace Go.Proofs.Ytknhlbbgjfcjaaa
open Go.ChangeShapes Go.WideShapes Go.ChangeAt Go.RowKit Go.Deep Go.Maps
set_option linter.unusedVariables false

/-- A call on a page with its slice. -/
structure PgOpV where
  op : PgOp
  dv : Value
instance : Inhabited PgOpV := ⟨⟨⟨0, 0, []⟩, .slice none 0 0⟩⟩
def encPO (x : PgOpV) : List Value := [.int .i64 x.op.kind, .int .i64 x.op.i, x.dv]
theorem encPO_len (x : PgOpV) : (encPO x).length = 3 := rfl
def PgOpAt (W : World) (a : PgOpV) : Prop := RB W W.heap.size a.dv a.op.data ∧ I64 a.op.kind ∧ I64 a.op.i ∧ a.op.data.length ≤ 140737488351232
section
variable {H : Type} {enc : TypeId × Value → H} {W : World} {sp : Nat → Bool} {held : Bool}
set_option maxRecDepth 100000 in
theorem pgop_elem {n : Nat} {cs : List Value} {x : DataW H × List MemPlace} (hl : cs.length = 3) (h : DataW.trod enc Try.prog W 0 sp held n 58 cs = some x) (hs : ∀ m ∈ x.1.weights Try.prog 58, m ≤ reachBytes) :
    ∃ a : PgOpV, cs = encPO a ∧ PgOpAt W a := by
  obtain ⟨xs, n', _, rfl, _, hxl, hf⟩ := DataW.trod_struct Try.underlying58 h
  match cs, hl with
  | [c0, c1, c2], _ =>
    have hx3 : xs.length = 3 := hxl
    have g : ∀ (j : Nat), j < xs.length → (xs[j]?).isSome = true := fun j hj => by rw [List.getElem?_eq_getElem hj]; rfl
    have f0 : DataW.trod enc Try.prog W 0 sp held n' 3 (([c0, c1, c2].drop 0).take (Try.prog.cellsOf 3)) = xs[0]? := hf 0 _ rfl
    have f1 : DataW.trod enc Try.prog W 0 sp held n' 3 (([c0, c1, c2].drop 1).take (Try.prog.cellsOf 3)) = xs[1]? := hf 1 _ rfl
    have f2 : DataW.trod enc Try.prog W 0 sp held n' 22 (([c0, c1, c2].drop 2).take (Try.prog.cellsOf 22)) = xs[2]? := hf 2 _ rfl
    rw [show Try.prog.cellsOf 3 = 1 from by kernel_rfl] at f0 f1
    rw [show Try.prog.cellsOf 22 = 1 from by kernel_rfl] at f2
    obtain ⟨z0, rfl, hz0⟩ := int_cell Try.underlying3 (c := c0) (n := n') (by have := g 0 (by omega); rw [← f0] at this; exact this)
    obtain ⟨z1, rfl, hz1⟩ := int_cell Try.underlying3 (c := c1) (n := n') (by have := g 1 (by omega); rw [← f1] at this; exact this)
    match xs, hx3 with
    | [y0, y1, y2], _ =>
      have hw : ∀ (j : Nat) (t : TypeId) (y : DataW H × List MemPlace), [3, 3, 22][j]? = some t → [y0, y1, y2][j]? = some y → ∀ m ∈ y.1.weights Try.prog t, m ≤ reachBytes := by
        intro j t y ht hy m hm
        refine hs m ?_
        have h1 := DataW.weights_mem_each (ts := [3, 3, 22]) (ds := [y0, y1, y2].map (·.1)) (d := y.1) ht (by rw [List.getElem?_map, hy]; rfl) m hm
        simp only [DataW.weights, Try.underlying58]
        exact h1
      obtain ⟨l, hl, hl2⟩ := bytes_in (v := c2) f2 (hw 2 _ y2 rfl rfl)
      exact ⟨⟨⟨z0, z1, l⟩, c2⟩, rfl, hl, hz0, hz1, hl2⟩
/-- What is known of calls that came in. -/
structure PgScript (W : World) (v : Value) (os : List PgOpV) : Prop where
  rk : RK encPO 3 W W.heap.size v os
  len : os.length ≤ 1000000000000000
  at_ : ∀ x ∈ os, PgOpAt W x
theorem pgops_in {v : Value} {d : DataW H} {p : List MemPlace} (h : DataW.Trod enc Try.prog W 0 sp held 55 v d p) (hs : ∀ n ∈ d.weights Try.prog 55, n ≤ reachBytes) (hone : v.cells.toList = [v]) :
    ∃ os, PgScript W v os := by
  obtain ⟨fuel, hf⟩ := h
  rw [hone] at hf
  obtain ⟨os, h1, h2, h3⟩ := structs_in (e := 58) encPO 3 40 encPO_len (by omega) (by omega) (fun a => PgOpAt W a) Try.underlying55 (by kernel_rfl) (by kernel_rfl) (fun n cs x hl h hw => pgop_elem hl h hw) hf hs
  exact ⟨os, h1, by omega, h3⟩
end
theorem PgOpAt.below {w w' : World} {a : PgOpV} (h : PgOpAt w a) (hb : Below w.heap.size w w') : PgOpAt w' a := ⟨(h.1.below hb).more hb.size, h.2⟩
theorem PgScript.below {w w' : World} {v : Value} {os : List PgOpV} (h : PgScript w v os) (hb : Below w.heap.size w w') : PgScript w' v os := ⟨(h.rk.below hb).more hb.size, h.len, fun x hx => (h.at_ x hx).below hb⟩
/-- A call's cells, out of what is known of a row. -/
theorem cellPO {w : World} {b off i : Nat} {x : PgOpV} (h : ∀ (j : Nat) u, (encPO x)[j]? = some u → w.cell? ⟨b, off + i * 3 + j, none⟩ = some u) :
    w.cell? ⟨b, off + i * 3, none⟩ = some (.int .i64 x.op.kind) ∧ w.cell? ⟨b, off + i * 3 + 1, none⟩ = some (.int .i64 x.op.i) ∧ w.cell? ⟨b, off + i * 3 + 2, none⟩ = some x.dv :=
  ⟨h 0 _ rfl, h 1 _ rfl, h 2 _ rfl⟩

/-! ### Calls one behind the other, in plain words -/
def PG.runs (m : PG) (os : List PgOpV) : PG := os.foldl (fun m x => m.run x.op) m
theorem pgruns_snoc (m : PG) (os : List PgOpV) (x : PgOpV) : m.runs (os ++ [x]) = (m.runs os).run x.op := by simp [PG.runs]
theorem sum_insert {L : List (List Nat)} {i : Nat} {l : List Nat} : ((L.take i ++ [l] ++ L.drop i).map List.length).sum = (L.map List.length).sum + l.length := by
  have h := congrArg (fun l : List (List Nat) => (l.map List.length).sum) (List.take_append_drop i L)
  simp only [List.map_append, List.sum_append] at h
  simp only [List.map_append, List.sum_append, List.map_cons, List.map_nil, List.sum_cons, List.sum_nil]
  omega
theorem sum_erase : ∀ {L : List (List Nat)} {i : Nat}, i < L.length → ((L.eraseIdx i).map List.length).sum + (L.getD i []).length = (L.map List.length).sum
  | [], _, h => by simp at h
  | a :: r, 0, _ => by simp [List.getD]; omega
  | a :: r, i + 1, h => by
    have := sum_erase (L := r) (i := i) (by simpa using h)
    simp only [List.eraseIdx_cons_succ, List.map_cons, List.sum_cons]
    have e : (a :: r).getD (i + 1) [] = r.getD i [] := by simp [List.getD]
    rw [e]; omega
theorem sum_set : ∀ {L : List (List Nat)} {i : Nat} {l : List Nat}, i < L.length → ((L.set i l).map List.length).sum + (L.getD i []).length = (L.map List.length).sum + l.length
  | [], _, _, h => by simp at h
  | a :: r, 0, l, _ => by simp [List.getD]; omega
  | a :: r, i + 1, l, h => by
    have := sum_set (L := r) (i := i) (l := l) (by simpa using h)
    simp only [List.set_cons_succ, List.map_cons, List.sum_cons]
    have e : (a :: r).getD (i + 1) [] = r.getD i [] := by simp [List.getD]
    rw [e]; omega
theorem slot_iff {m : PG} {i : Int} : m.isSlot i = true ↔ 0 ≤ i ∧ i.toNat < m.items.length := by
  unfold PG.isSlot; simp; omega
theorem PG.Fit.insert {m : PG} (hf : m.Fit) {i : Int} {l : List Nat} (h : m.insE i l = 0) : (m.insert i.toNat l).Fit ∧ m.items.length < 100 ∧ l.length ≤ 200 ∧ i.toNat ≤ m.items.length := by
  unfold PG.insE at h
  split at h
  · omega
  · split at h
    · omega
    · split at h
      · omega
      · rename_i h1 h2 h3
        have hr : (l.length : Int) ≤ m.room := by omega
        unfold PG.room at hr
        split at hr
        · omega
        · rename_i h4
          refine ⟨?_, by omega, by omega, by omega⟩
          unfold PG.Fit PG.insert
          dsimp only
          rw [sum_insert]
          have : (m.items.take i.toNat ++ [l] ++ m.items.drop i.toNat).length = m.items.length + 1 := by simp; omega
          rw [this]
          unfold PG.free at hr
          omega
theorem PG.Fit.remove {m : PG} (hf : m.Fit) {i : Int} (h : m.isSlot i = true) : (m.remove i.toNat).Fit := by
  obtain ⟨h1, h2⟩ := slot_iff.1 h
  unfold PG.Fit PG.remove at *
  dsimp only
  have := sum_erase h2
  rw [List.length_eraseIdx, if_pos h2]
  omega
theorem PG.Fit.replace {m : PG} (hf : m.Fit) {i : Int} {l : List Nat} (h : m.repE i l = 0) : (m.replace i.toNat l).Fit ∧ l.length ≤ 200 ∧ m.isSlot i = true := by
  unfold PG.repE at h
  split at h
  · omega
  · split at h
    · omega
    · split at h
      · omega
      · rename_i h1 h2 h3
        have hs : m.isSlot i = true := by simpa using h1
        obtain ⟨h4, h5⟩ := slot_iff.1 hs
        refine ⟨?_, by omega, hs⟩
        have := sum_set (L := m.items) (i := i.toNat) (l := l) h5
        unfold PG.Fit PG.replace at *
        dsimp only
        rw [List.length_set]
        unfold PG.free at h3
        omega
theorem PG.Fit.run {m : PG} (hf : m.Fit) (o : PgOp) : (m.run o).Fit := by
  unfold PG.run
  split
  · split
    · rename_i h; exact (hf.insert h).1
    · exact hf
  · split
    · split
      · rename_i h; exact (hf.replace h).1
      · exact hf
    · split
      · split
        · rename_i h; exact hf.remove h
        · exact hf
      · split
        · exact hf
        · split <;> exact hf
theorem PG.Fit.runs {m : PG} (hf : m.Fit) (os : List PgOpV) : (m.runs os).Fit := by
  unfold PG.runs
  induction os generalizing m with
  | nil => exact hf
  | cons x r ih => exact ih (hf.run x.op)
theorem new_fit (k : Int) (e : Nat) : (PG.new k e).Fit := by unfold PG.Fit PG.new; simp

theorem PgOut.below0 {w W W' : World} {p B : Nat} {v : Value} {xs : List Sl} {m m' : PG} (h : PgOut W W' p B v xs m m') (hb : Below w.heap.size w W) (hp : w.heap.size ≤ p) (hv : ∀ k, v.ownBlock = some k → w.heap.size ≤ k) : Below w.heap.size w W' := by
  obtain ⟨v', xs', _, h2, _⟩ := h
  exact hb.trans (h2.mod.below hb.size fun k e => by rcases e with rfl | e; exact hp; exact hv k e)
set_option maxRecDepth 100000 in
set_option maxHeartbeats 1000000 in
theorem filled_any (w : World) (sv : Value) (os : List PgOpV) (hs : PgScript w sv os) :
    Calls Try.prog 27 #[sv] w fun e w' => ∃ p v xs, e = .returned (.pointer (some ⟨p, 0, none⟩)) ∧ PageAt w' p w.heap.size v xs ((PG.new 3 9).runs os) ∧ Below w.heap.size w w' := by
  obtain ⟨A, c, rfl, ha1, ha2, ha3, HA⟩ := hs.rk.open_
  have HSC := Lib.hid hs
  have hol := hs.len
  clear hs
  go_enter Try.func27, Try.ntmps27
  go_wp2_with fail
  refine (pageNew_any w 3 9 (by omega)).mono ?_
  rintro e w1 ⟨rfl, hp1, hb1⟩
  obtain ⟨p, hp⟩ : ∃ p, p = w.heap.size := ⟨_, rfl⟩
  rw [← hp] at hp1 ⊢
  have HP1 := Lib.hid hp1
  have HB1 := Lib.hid hb1
  have HPE := Lib.hid hp
  clear hp1 hb1 hp
  go_wp2_with fail
  go_loopw [4] (fun i wr => ∃ k : Nat, k ≤ os.length ∧ i = .int .i64 k ∧ Hid (∃ v xs, PageAt wr p p v xs ((PG.new 3 9).runs (os.take k))) ∧ Hid (Below w.heap.size w wr)) (fun i wr => os.length - (intOf i).toNat)
  case atStart => exact ⟨0, Nat.zero_le _, rfl, ⟨_, _, HP1.out⟩, HB1⟩
  case round =>
    obtain ⟨k, hk, rfl, HP, HB⟩ := hrel
    obtain ⟨v, xs, hpg⟩ := HP.out
    have HPG := Lib.hid hpg
    clear hpg
    by_cases hlt : k < os.length
    · obtain ⟨b, o, rfl, hb, hx⟩ := HA.out k hlt
      have hat := HSC.out.at_ os[k] (List.getElem_mem hlt)
      obtain ⟨x, hxx⟩ : ∃ x, x = os[k] := ⟨_, rfl⟩
      rw [← hxx] at hx hat
      obtain ⟨y0, y1, y2⟩ := cellPO hx
      have z0 : wr.cell? ⟨b, o + k * 3, none⟩ = _ := (HB.out.cell (p := ⟨b, o + k * 3, none⟩) hb).trans y0
      have z1 : wr.cell? ⟨b, o + k * 3 + 1, none⟩ = _ := (HB.out.cell (p := ⟨b, o + k * 3 + 1, none⟩) hb).trans y1
      have z2 : wr.cell? ⟨b, o + k * 3 + 2, none⟩ = _ := (HB.out.cell (p := ⟨b, o + k * 3 + 2, none⟩) hb).trans y2
      have hat' := hat.below HB.out
      have hoff : Off (fun q => q = p ∨ v.ownBlock = some q) x.dv x.op.data := hat.1.off fun q hq e => by
        rcases e with e | e
        · have := HPE.out; omega
        · have := (HPG.out.row.lt q e).1; have := HPE.out; omega
      have hask := asks_any wr p p v xs _ HPG.out x.op x.dv hat'.1 hoff hat'.2.2.2 hat'.2.2.1.2
      have HASK := Lib.hid hask
      have HXX := Lib.hid hxx
      obtain ⟨D1, d1, e1, -, -, -, -⟩ := hat.1.open_
      rw [e1] at z2
      have HE1 := Lib.hid e1
      clear hat hat' hoff hask hxx hx y0 y1 y2 e1
      go_wp2_with fail
      have hask := HASK.out
      unfold refP at hask
      rw [HE1.out] at hask
      refine hask.mono ?_
      rintro e w2 ⟨⟨r, rfl⟩, hout⟩
      have hb2 := hout.below0 HB.out (by rw [HPE.out]; exact Nat.le_refl _) (fun q e => by have := (HPG.out.row.lt q e).1; have := HPE.out; omega)
      obtain ⟨v2, xs2, h1, _, _⟩ := hout
      have HV2 : Hid (∃ v xs, PageAt w2 p p v xs ((PG.new 3 9).runs (os.take (k + 1)))) := ⟨v2, xs2, by
        rw [List.take_succ_eq_append_getElem hlt, pgruns_snoc, ← HXX.out]; exact h1⟩
      have HB2 := Lib.hid hb2
      clear hask h1 hb2
      go_wp2_with fail
      go_roundw
      case rel => exact ⟨k + 1, by omega, by go_num, HV2, HB2⟩
      case measure => simp [intOf]; omega
    · obtain rfl : k = os.length := by omega
      go_wp2_with fail
      go_ret
      exact ⟨p, v, xs, rfl, by have h1 := HPG.out; rw [List.take_length] at h1; rw [← HPE.out]; exact h1, HB.out⟩
end Go.Proofs.Ytknhlbbgjfcjaaa
