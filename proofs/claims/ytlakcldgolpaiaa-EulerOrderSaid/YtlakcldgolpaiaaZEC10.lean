/-
  A forest in memory and in plain words; the walks of Size, ids, Verts, Edges.
-/
import Derived.Test.YtlakcldgolpaiaaZEC9
import Derived.Test.YtlakcldgolpaiaaEP24
namespace Go.Proofs.Ytlakcldgolpaiaa
open Go.RowKit Go.Maps
set_option linter.unusedVariables false

/-- A forest in memory, and in plain words. -/
def FR (w : World) (f : Nat) (S : Nat → Prop) (F : FS) : Prop := FM w f S F.M F.pv F.pe F.who F.free ∧ F.Good

def FRT (w : World) (f : Nat) (S : Nat → Prop) (F : FS) (w' : World) : Prop := ∃ S', FR w' f S' F ∧ Step S w S' w'

theorem FTurn.frt {w w' : World} {f : Nat} {S : Nat → Prop} {F : FS} (h : FTurn w f S w' F.M F.pv F.pe F.who F.free) (hg : F.Good) : FRT w f S F w' := by
  obtain ⟨S', h1, h2, h3⟩ := h
  exact ⟨S', ⟨h1, hg⟩, h2, h3⟩

theorem FRT.same {w w' : World} {f : Nat} {S : Nat → Prop} {F : FS} (h : FR w f S F) (hb : Below w.heap.size w w') : FRT w f S F w' := ⟨S, ⟨h.1.below hb, h.2⟩, Step.below _ hb⟩

theorem FR.below {w w' : World} {f : Nat} {S : Nat → Prop} {F : FS} (h : FR w f S F) (hb : Below w.heap.size w w') : FR w' f S F := ⟨h.1.below hb, h.2⟩

open Classical in
/-- The rising rows of a tree's vertices and edges. -/
noncomputable def FS.treeV (F : FS) (u : Int) : List Int := if u ∈ F.vs then Lib.compact (sortL (F.vs.filter fun i => decide (Conn F.edges u i))) else []

open Classical in
noncomputable def FS.treeE (F : FS) (u : Int) : List Int := if u ∈ F.vs then Lib.compact (sortL ((F.edges.filter fun e => decide (Conn F.edges u e.2.1)).map fun e => e.1)) else []

open Classical in
noncomputable def FS.errV (F : FS) (u : Int) : Int := if u ∈ F.vs then 0 else 51

theorem FS.riseV (F : FS) {u : Int} (h : u ∈ F.vs) : Rise (F.treeV u) (F.inV u) := by
  classical
  unfold FS.treeV
  rw [if_pos h]
  refine (compact_sort _).congr fun i => ?_
  simp [FS.inV, List.mem_filter]

theorem FS.riseE (F : FS) {u : Int} (h : u ∈ F.vs) : Rise (F.treeE u) (F.inE u) := by
  classical
  unfold FS.treeE
  rw [if_pos h]
  refine (compact_sort _).congr fun i => ?_
  simp only [FS.inE, List.mem_map, List.mem_filter]
  constructor
  · rintro ⟨⟨j, p, q⟩, ⟨h1, h2⟩, rfl⟩; exact ⟨p, q, h1, by simpa using h2⟩
  · rintro ⟨p, q, h1, h2⟩; exact ⟨(i, p, q), ⟨h1, by simpa using h2⟩, rfl⟩

theorem FS.outV (F : FS) {u : Int} (h : u ∉ F.vs) : F.treeV u = [] := by unfold FS.treeV; rw [if_neg h]

theorem FS.outE (F : FS) {u : Int} (h : u ∉ F.vs) : F.treeE u = [] := by unfold FS.treeE; rw [if_neg h]

theorem FS.errV_in (F : FS) {u : Int} (h : u ∈ F.vs) : F.errV u = 0 := by unfold FS.errV; rw [if_pos h]

theorem FS.errV_out (F : FS) {u : Int} (h : u ∉ F.vs) : F.errV u = 51 := by unfold FS.errV; rw [if_neg h]

/-- A vertex's place, or none. -/
theorem FS.Good.look {F : FS} (h : F.Good) (u : Int) : (∃ a, F.pv u = some a ∧ u ∈ F.vs ∧ 1 ≤ a ∧ a ≤ F.M.own.length) ∨ (F.pv u = none ∧ u ∉ F.vs) := by
  cases e : F.pv u with
  | none => exact .inr ⟨rfl, fun hm => (h.vs u).1 hm e⟩
  | some a =>
    obtain ⟨W, hW⟩ := h.ok
    exact .inl ⟨a, rfl, (h.vs u).2 (by rw [e]; simp), (hW.placeV e).2.2⟩

theorem FS.Good.len {F : FS} (h : F.Good) : F.who.length = F.M.own.length + 1 := by obtain ⟨W, hW⟩ := h.ok; exact hW.len

theorem FS.Good.mok {F : FS} (h : F.Good) : F.M.Ok := by obtain ⟨W, hW⟩ := h.ok; exact hW.ok

set_option maxRecDepth 100000 in
set_option maxHeartbeats 2000000 in
theorem fSize (w : World) (f : Nat) (S : Nat → Prop) (F : FS) (h : FR w f S F) (u : Int) (hu : I64 u) :
    Calls Try.prog 24 #[.pointer (some ⟨f, 0, none⟩), .int .i64 u] w fun e w' => e = .returned (.tuple #[.int .i64 ((F.treeV u).length : Nat), .int .i64 (F.errV u)]) ∧ Below w.heap.size w w' := by
  obtain ⟨⟨g, bv, be, whoV, S0, hX, hS⟩, hG⟩ := h
  have a0 : w.cell? ⟨f, 0, none⟩ = _ := hX.at_.blk.cell 0
  have a1 : w.cell? ⟨f, 1, none⟩ = some (.map (some bv)) := hX.at_.blk.cell 1
  have HM := Lib.hid hX.at_.verts
  obtain ⟨gr, fv, Sr, hK, -⟩ := hX.at_.rope
  have b0 : w.cell? ⟨g, 0, none⟩ = _ := hK.blk.cell 0
  have hall := fun a => rAll w gr Sr F.M hK.rope a
  clear hK
  have HALL := Lib.hid hall
  rcases hG.look u with ⟨a, e1, e2, ha⟩ | ⟨e1, e2⟩
  · have HV : Hid (((F.pv u).map fun a => Value.int .i64 (a : Int)).getD (.int .i64 0) = .int .i64 (a : Int) ∧ ((F.pv u).map fun a => Value.int .i64 (a : Int)).isSome = true) := Lib.hid (by rw [e1]; exact ⟨rfl, rfl⟩)
    obtain ⟨x, hx⟩ : ∃ x, x = F.M.allA (a : Int) := ⟨_, rfl⟩
    have hn : x.n = ((F.treeV u).length : Nat) := by
      rw [hx]
      unfold RM.allA
      rw [if_pos (known_of ha), Int.toNat_natCast]
      exact hG.size e1 (F.riseV e2)
    have he : F.M.errA (a : Int) = 0 := by unfold RM.errA; rw [if_pos (known_of ha)]
    rw [F.errV_in e2, ← hn]
    have HX := Lib.hid hx
    have HE := Lib.hid he
    clear hX hS hG hall e1 e2 hn hx he ha
    obtain ⟨x1, x2, x3⟩ := x
    go_enter Try.func24, Try.ntmps24
    go_wp2_with (at_lookup; refine wpList_lookG (X := kI) rfl _ _ _ rfl _ Try.underlying69 (zeroI _) pN_zero bv 4096 rfl HM.out u rfl hu _ _ HV.out.1 HV.out.2 ?_)
    refine (HALL.out (a : Int)).mono ?_
    rw [← HX.out, HE.out, show (SV.v ⟨x1, x2, x3⟩ : Value) = .agg #[.int .i64 x1, .int .i64 x2, .int .i64 x3] by rfl]
    rintro e w1 ⟨rfl, b1⟩
    have B1 := Lib.hid b1
    clear b1
    go_wp2_with fail
    go_ret2
    exact ⟨rfl, B1.out.alloc B1.out.size _⟩
  · have HV : Hid (((F.pv u).map fun a => Value.int .i64 (a : Int)).getD (.int .i64 0) = .int .i64 0 ∧ ((F.pv u).map fun a => Value.int .i64 (a : Int)).isSome = false) := Lib.hid (by rw [e1]; exact ⟨rfl, rfl⟩)
    rw [F.errV_out e2, F.outV e2]
    clear hX hS hG hall e1 e2
    go_enter Try.func24, Try.ntmps24
    go_wp2_with (at_lookup; refine wpList_lookG (X := kI) rfl _ _ _ rfl _ Try.underlying69 (zeroI _) pN_zero bv 4096 rfl HM.out u rfl hu _ _ HV.out.1 HV.out.2 ?_)
    go_ret2
    exact ⟨rfl, Below.refl _ _⟩

theorem rowIds_succ {who : List Tok} {xs : List Nat} {b : Bool} {k : Nat} (hk : k < xs.length) : rowIds who (xs.take (k + 1)) b = rowIds who (xs.take k) b ++ (if ((tok who xs[k]).1 == b) = true then [(tok who xs[k]).2] else []) := by
  unfold rowIds
  rw [List.take_succ_eq_append_getElem hk, List.map_append, List.filter_append, List.map_append]
  congr 1
  simp only [List.map_cons, List.map_nil, List.filter_cons, List.filter_nil]
  split <;> rfl

theorem rowIds_le (who : List Tok) (xs : List Nat) (b : Bool) : (rowIds who xs b).length ≤ xs.length := by
  unfold rowIds
  rw [List.length_map]
  refine Nat.le_trans (List.length_filter_le _ _) ?_
  rw [List.length_map]
  exact Nat.le_refl _

theorem oneI2 (w : World) (y : Int) (t : TypeId) (o : Obj) (b : Nat) (hb : b = (w.alloc o).heap.size) : ∀ (j : Nat) u, (encI y)[j]? = some u → ((w.alloc o).alloc (.cells #[.int .i64 y] t)).cell? ⟨b, j, none⟩ = some u := by
  subst hb
  exact oneI (w.alloc o) y t

set_option maxRecDepth 100000 in
set_option maxHeartbeats 4000000 in
theorem fIds (w : World) (f : Nat) (S : Nat → Prop) (F : FS) (h : FR w f S F) (u : Int) (hu : I64 u) (b : Bool) :
    Calls Try.prog 43 #[.pointer (some ⟨f, 0, none⟩), .int .i64 u, .bool b] w fun e w' => ∃ v, e = .returned (.tuple #[v, .int .i64 (F.errV u)]) ∧ OK encI 1 3 w' w.heap.size v (if b = true then F.treeE u else F.treeV u) ∧ Below w.heap.size w w' := by
  obtain ⟨⟨g, bv, be, whoV, S0, hX, hS⟩, hG⟩ := h
  have a0 : w.cell? ⟨f, 0, none⟩ = _ := hX.at_.blk.cell 0
  have a1 : w.cell? ⟨f, 1, none⟩ = some (.map (some bv)) := hX.at_.blk.cell 1
  have HM := Lib.hid hX.at_.verts
  rcases hG.look u with ⟨a, e1, e2, ha⟩ | ⟨e1, e2⟩
  · have HV : Hid (((F.pv u).map fun a => Value.int .i64 (a : Int)).getD (.int .i64 0) = .int .i64 (a : Int) ∧ ((F.pv u).map fun a => Value.int .i64 (a : Int)).isSome = true) := Lib.hid (by rw [e1]; exact ⟨rfl, rfl⟩)
    obtain ⟨gr, fv, Sr, hK, -⟩ := hX.at_.rope
    have b0 : w.cell? ⟨g, 0, none⟩ = _ := hK.blk.cell 0
    have hlist := rList w gr Sr F.M hK.rope (a : Int)
    clear hK
    have he : F.M.errA (a : Int) = 0 := by unfold RM.errA; rw [if_pos (known_of ha)]
    have hr : F.M.rowA (a : Int) = F.M.rowOf a := by unfold RM.rowA; rw [if_pos (known_of ha), Int.toNat_natCast]
    rw [he, hr] at hlist
    rw [F.errV_in e2]
    obtain ⟨xs, hxs⟩ : ∃ xs, xs = F.M.rowOf a := ⟨_, rfl⟩
    rw [← hxs] at hlist
    have hmem := row_mem hG.mok ha
    have hres : Lib.compact (sortL (rowIds F.who xs b)) = if b = true then F.treeE u else F.treeV u := by
      rw [hxs]
      cases b with
      | true => exact rise_unique ((compact_sort _).congr fun i => hG.mem_rowE e1 i) (F.riseE e2)
      | false => exact rise_unique ((compact_sort _).congr fun i => hG.mem_rowV e1 i) (F.riseV e2)
    rw [← hres]
    have hkn : ∀ c ∈ xs, c < F.who.length := fun c hc => by
      have := row_known hG.mok hmem.1 (by rw [← hxs]; exact hc)
      have := hG.len
      omega
    have hxl : xs.length ≤ 6144 := by
      have := row_len hG.mok hmem.1
      have := hG.own
      rw [hxs]; omega
    obtain ⟨wb, wc, hwv, hw1, hw2⟩ := hX.at_.who.shape (by have := hG.len; omega)
    obtain ⟨wn, hwn⟩ : ∃ wn, wn = F.who.length := ⟨_, rfl⟩
    rw [← hwn] at hwv hw1 hkn
    subst hwv
    have HBLK := Lib.hid hX.at_.blk
    have HWHO := Lib.hid hX.at_.who
    have HLIST := Lib.hid hlist
    have HKN := Lib.hid hkn
    have HXL := Lib.hid hxl
    have HWN := Lib.hid hwn
    have hwlt : wb < w.heap.size := (hX.at_.who.lt wb rfl).2
    have hflt : f < w.heap.size := hX.at_.blk.lt
    clear hX hS hG e1 e2 he hr hxs hmem hres hkn hxl hlist hwn ha
    go_enter Try.func43, Try.ntmps43
    go_wp2_with (at_lookup; refine wpList_lookG (X := kI) rfl _ _ _ rfl _ Try.underlying69 (zeroI _) pN_zero bv 4096 rfl HM.out u rfl hu _ _ HV.out.1 HV.out.2 ?_)
    refine HLIST.out.mono ?_
    rintro e w1 ⟨v1, rfl, o1, b1⟩
    obtain ⟨A1, c1, hv1, -, -, -, HC1⟩ := (o1.rk encI_len (Nat.le_refl _)).open_
    obtain ⟨n, hn⟩ : ∃ n, n = (xs.map natI).length := ⟨_, rfl⟩
    rw [← hn] at hv1
    subst hv1
    have HN : Hid (n = xs.length) := Lib.hid (by rw [hn]; simp)
    have B1 := Lib.hid b1
    have f3 : w1.cell? ⟨f, 3, none⟩ = some (.slice (some ⟨wb, 0, none⟩) wn wc) := (b1.cell (p := ⟨f, 3, none⟩) hflt).trans (HBLK.out.cell 3)
    have hn2 : n ≤ 6144 := by have := HN.out; have := HXL.out; omega
    clear o1 b1 hn a0 a1 b0
    go_wp2_with fail
    go_loopw [41, 12] (fun i v wr => ∃ (k : Nat) (A : Option Addr) (m c : Nat), k ≤ n ∧ i = .int .i64 k ∧ v = .slice A m c ∧ Hid (OK encI 1 3 wr w1.heap.size v (rowIds F.who (xs.take k) b)) ∧ Hid (Below w1.heap.size w1 wr)) (fun i _ _ => n - (intOf i).toNat)
    case atStart => exact ⟨0, none, 0, 0, Nat.zero_le _, rfl, rfl, Lib.hid (OK.nil _ _), Lib.hid (Below.refl _ _)⟩
    case round =>
      obtain ⟨k, A, m, c, hk, rfl, rfl, HO, HB⟩ := hrel
      by_cases hkl : k < n
      · have hkx : k < xs.length := by have := HN.out; omega
        obtain ⟨b1, o1, rfl, hb, hx⟩ := HC1.out k (by simpa using hkx)
        have y1 := (HB.out.cell (p := ⟨b1, o1 + k, none⟩) hb).trans (cellI hx)
        obtain ⟨x, hxx⟩ : ∃ x, x = xs[k] := ⟨_, rfl⟩
        have e5 : (xs.map natI)[k]'(by simpa using hkx) = (x : Int) := by rw [hxx]; simp [natI]
        rw [e5] at y1
        have hxw : x < wn := HKN.out x (by rw [hxx]; exact List.getElem_mem _)
        have hxi : (x : Int) < (wn : Int) := by omega
        have hxl : x < F.who.length := by have := HWN.out; omega
        have g3 : wr.cell? ⟨f, 3, none⟩ = some (.slice (some ⟨wb, 0, none⟩) wn wc) := (HB.out.cell (p := ⟨f, 3, none⟩) (Nat.lt_of_lt_of_le hflt B1.out.size)).trans f3
        obtain ⟨tb, ti, htk⟩ : ∃ tb ti, tok F.who x = (tb, ti) := ⟨_, _, rfl⟩
        have q0 : wr.cell? ⟨wb, x * 2, none⟩ = some (.bool tb) := ((HB.out.cell (p := ⟨wb, x * 2, none⟩) (Nat.lt_of_lt_of_le hwlt B1.out.size)).trans ((B1.out.cell (p := ⟨wb, x * 2, none⟩) hwlt).trans (HWHO.out.cellK encTk_len (j := 0) (tok_get hxl) rfl))).trans (by rw [htk])
        have q1 : wr.cell? ⟨wb, x * 2 + 1, none⟩ = some (.int .i64 ti) := ((HB.out.cell (p := ⟨wb, x * 2 + 1, none⟩) (Nat.lt_of_lt_of_le hwlt B1.out.size)).trans ((B1.out.cell (p := ⟨wb, x * 2 + 1, none⟩) hwlt).trans (HWHO.out.cellK encTk_len (j := 1) (tok_get hxl) rfl))).trans (by rw [htk])
        have HSUC := Lib.hid (rowIds_succ (who := F.who) (b := b) hkx)
        rw [← hxx, htk] at HSUC
        have hzl := HB.out.size
        have HLE : Hid ((rowIds F.who (xs.take k) b).length + 1 ≤ 1000000) := Lib.hid (by
          have h1 := rowIds_le F.who (xs.take k) b
          have h2 := List.length_take_le k xs
          have h3 := HXL.out
          omega)
        clear hx hxx e5 hb htk hxl
        by_cases hbt : tb = b
        · subst hbt
          have HS2 : Hid (rowIds F.who (xs.take (k + 1)) tb = rowIds F.who (xs.take k) tb ++ [ti]) := Lib.hid (by rw [HSUC.out, if_pos (by simp)])
          clear HSUC
          have hbb : (tb == tb) = true := by simp
          go_wp2_with (at_builtin; refine wpList_appE etI encI_len encI_one (y := ti) rfl (.tmp 56) (.tmp 59) rfl rfl ((HO.out.alloc _).alloc _) (wr.heap.size + 1) rfl (oneI2 wr ti _ _ _ (by simp)) HLE.out (by simp; omega) ?_; intro v' w5 ho5 hg5 hb5; obtain ⟨A5, c5, hv5, _, _, _, _⟩ := (ho5.rk encI_len (Nat.le_refl _)).open_; obtain ⟨m5, hm5⟩ : ∃ m5, m5 = (rowIds F.who (xs.take k) tb ++ [ti]).length := ⟨_, rfl⟩; rw [← hm5] at hv5; clear hm5; subst hv5; have HO5 := Lib.hid ho5; have HG5 := Lib.hid hg5; clear ho5 hg5 hb5)
          go_roundw
          case rel =>
            refine ⟨k + 1, A5, m5, c5, by omega, by go_num, rfl, Lib.hid ?_, Lib.hid ?_⟩
            · rw [HS2.out]; exact HO5.out
            · exact ((HB.out.alloc HB.out.size _).alloc (by have := HB.out.size; simp; omega) _).grown HG5.out (by have := HB.out.size; simp; omega) (fun q hq => (HO.out.lt q hq).1)
          case measure => simp [intOf]; omega
        · have hbb : (tb == b) = false := by simpa using hbt
          have HS2 : Hid (rowIds F.who (xs.take (k + 1)) b = rowIds F.who (xs.take k) b) := Lib.hid (by rw [HSUC.out, if_neg (by simpa using hbt)]; simp)
          clear HSUC hbt
          go_wp2_with fail
          go_roundw
          case rel =>
            refine ⟨k + 1, A, m, c, by omega, by go_num, rfl, Lib.hid ?_, Lib.hid ?_⟩
            · rw [HS2.out]; exact HO.out.alloc _
            · exact HB.out.alloc HB.out.size _
          case measure => simp [intOf]; omega
      · obtain rfl : k = n := by omega
        have HO2 : Hid (OK encI 1 3 wr w1.heap.size (.slice A m c) (rowIds F.who xs b)) := Lib.hid (by
          have := HO.out
          rw [List.take_of_length_le (by have := HN.out; omega)] at this
          exact this)
        have HLE : Hid ((rowIds F.who xs b).length ≤ 1000000) := Lib.hid (by
          have h1 := rowIds_le F.who xs b
          have h3 := HXL.out
          omega)
        clear HO
        go_wp2_with fail
        refine (sortInts_any _ _ wr _ HO2.out HLE.out).mono ?_
        rintro e w2 ⟨rfl, o2, g2⟩
        have O2 := Lib.hid o2
        have G2 := Lib.hid g2
        clear o2 g2
        go_wp2_with fail
        refine (compactInts_any _ _ w2 _ O2.out (by rw [show (sortL (rowIds F.who xs b)).length = _ from List.length_mergeSort _]; exact HLE.out)).mono ?_
        rintro e w3 ⟨v3, rfl, o3, g3, e3⟩
        obtain ⟨A3, c3, hv3, -, -, -, -⟩ := (o3.rk encI_len (Nat.le_refl _)).open_
        obtain ⟨n3, hn3⟩ : ∃ n3, n3 = (Lib.compact (sortL (rowIds F.who xs b))).length := ⟨_, rfl⟩
        rw [← hn3] at hv3
        subst hv3
        have O3 := Lib.hid o3
        have HB3 : Hid (Below w1.heap.size w1 w3) := Lib.hid ((HB.out.grown G2.out HB.out.size (fun q hq => (HO2.out.lt q hq).1)).grown g3 (Nat.le_trans HB.out.size G2.out.size) (fun q hq => (O2.out.lt q hq).1))
        clear o3 g3 e3 hn3
        go_wp2_with fail
        go_ret2
        exact ⟨_, rfl, O3.out.base B1.out.size, B1.out.trans (HB3.out.mono B1.out.size)⟩
  · have HV : Hid (((F.pv u).map fun a => Value.int .i64 (a : Int)).getD (.int .i64 0) = .int .i64 0 ∧ ((F.pv u).map fun a => Value.int .i64 (a : Int)).isSome = false) := Lib.hid (by rw [e1]; exact ⟨rfl, rfl⟩)
    rw [F.errV_out e2, F.outV e2, F.outE e2]
    simp only [ite_self]
    clear hX hS hG e1 e2
    go_enter Try.func43, Try.ntmps43
    go_wp2_with (at_lookup; refine wpList_lookG (X := kI) rfl _ _ _ rfl _ Try.underlying69 (zeroI _) pN_zero bv 4096 rfl HM.out u rfl hu _ _ HV.out.1 HV.out.2 ?_)
    go_ret2
    refine ⟨.slice none 0 0, rfl, ?_, Below.refl _ _⟩
    exact OK.nil _ _

end Go.Proofs.Ytlakcldgolpaiaa

/-
  The walk of New.
-/
namespace Go.Proofs.Ytlakcldgolpaiaa
open Go.RowKit Go.Maps
set_option linter.unusedVariables false

theorem run_makeRef (w : World) : (Instr.makeSlice 71 (.int .i64 1) (.int .i64 1)).run Try.prog w = .ok (.slice (some ⟨w.heap.size, 0, none⟩) 1 1) (w.alloc (.cells #[.bool false, .int .i64 0] 85)) := by
  obtain ⟨i, hi, hz0, hz1, hz2⟩ := info_parts (show (Try.prog.info? 85).map (fun i => (i.zero, i.size, i.bytes)) = some (some (Value.agg #[.bool false, .int .i64 0]), 2, 16) by kernel_rfl)
  have := run_makeSlice (P := Try.prog) w 71 85 i _ Try.underlying71 hi hz0 .i64 .i64 1 1 (by omega) (by omega) (by rw [hz1]; simp) (by rw [hz2]; omega) (by omega)
  rw [this, hz1]
  refine congrArg (fun cs => Result.ok _ (w.alloc (.cells cs _))) ?_
  kernel_rfl

theorem hp_new {w : World} {k : Nat} {o : Obj} (h : k = w.heap.size) : (w.alloc o).heap[k]? = some o := by subst h; exact heap_alloc_new w o

theorem hp_old {w : World} {k : Nat} {x : Obj} (o : Obj) (h : w.heap[k]? = some x) : (w.alloc o).heap[k]? = some x := (Below.heap_alloc w o k (Array.getElem?_eq_some_iff.1 h).1).trans h

theorem hp_drew {w : World} {k : Nat} {x : Obj} (h : w.heap[k]? = some x) : w.drew.heap[k]? = some x := h

theorem hp_call {w w' : World} {k : Nat} {x : Obj} (hb : Below w.heap.size w w') (h : w.heap[k]? = some x) : w'.heap[k]? = some x := (hb.block k (Array.getElem?_eq_some_iff.1 h).1).trans h

theorem map_of {X : KeyX} {p : Value → Prop} {w : World} {b : Nat} (h : w.heap[b]? = some (.map #[] 0)) : MapG X p w b 0 (fun _ => none) := by
  obtain ⟨D, ⟨es, clock, h1, r⟩, h2⟩ := MapG.made (X := X) (p := p) w
  rw [heap_alloc_new] at h1
  injection h1 with h1
  injection h1 with e1 e2
  subst e1 e2
  exact ⟨D, ⟨#[], 0, h, r⟩, h2⟩

theorem new_fr {w W : World} {g bv be bw : Nat} {S4 : Nat → Prop} {F : Nat} (hF : F = W.heap.size) (hb : Below w.heap.size w W) (hr : Wk W g S4 RM.new []) (hS : ∀ k, S4 k → w.heap.size ≤ k) (h1 : W.heap[bv]? = some (.map #[] 0)) (h2 : W.heap[be]? = some (.map #[] 0)) (h3 : W.heap[bw]? = some (.cells #[.bool false, .int .i64 0] 85 (0, 0))) (hne : bv ≠ be) (l1 : w.heap.size ≤ bv) (l2 : w.heap.size ≤ be) (l3 : w.heap.size ≤ bw) :
    ∃ f S, Ending.returned (.pointer (some ⟨F, 0, none⟩)) = Ending.returned (.pointer (some ⟨f, 0, none⟩)) ∧ FR (W.alloc (.cells #[.pointer (some ⟨g, 0, none⟩), .map (some bv), .map (some be), .slice (some ⟨bw, 0, none⟩) 1 1] 73)) f S FS.new ∧ (∀ k, S k → w.heap.size ≤ k) ∧ Below w.heap.size w (W.alloc (.cells #[.pointer (some ⟨g, 0, none⟩), .map (some bv), .map (some be), .slice (some ⟨bw, 0, none⟩) 1 1] 73)) := by
  subst hF
  have hA : Below W.heap.size W (W.alloc (.cells #[.pointer (some ⟨g, 0, none⟩), .map (some bv), .map (some be), .slice (some ⟨bw, 0, none⟩) 1 1] 73)) := (Below.refl _ _).alloc (Nat.le_refl _) _
  have hX : FMX (W.alloc (.cells #[.pointer (some ⟨g, 0, none⟩), .map (some bv), .map (some be), .slice (some ⟨bw, 0, none⟩) 1 1] 73)) W.heap.size g bv be (.slice (some ⟨bw, 0, none⟩) 1 1) S4 RM.new (fun _ => none) (fun _ => none) [(false, 0)] [] := by
    refine ⟨⟨Blk.new _ _ _, hr.below hA, (map_of (hp_old _ h1)).mono (by omega), (map_of (hp_old _ h2)).mono (by omega), ?_⟩, hne⟩
    exact ⟨by simp, by simp [encTk], .inr ⟨bw, 1, _, rfl, Nat.zero_le _, hp_old _ h3, by simp, by simp [maxLen], by simp, by simp [encTk]⟩⟩
  refine ⟨_, _, rfl, ⟨hX.fm, good_new⟩, fun k hk => ?_, hb.alloc hb.size _⟩
  rcases hk with rfl | hk | rfl | rfl | hk
  · exact hb.size
  · exact hS k hk
  · exact l1
  · exact l2
  · injection hk with hk; subst hk; exact l3

theorem rp_alloc {w : World} {g : Nat} {S : Nat → Prop} {M : RM SV} {free : List Nat} (o : Obj) (h : Wk w g S M free) : Wk (w.alloc o) g S M free := h.below ((Below.refl _ _).alloc (Nat.le_refl _) _)

theorem rp_drew {w : World} {g : Nat} {S : Nat → Prop} {M : RM SV} {free : List Nat} (h : Wk w g S M free) : Wk w.drew g S M free := h.below ((Below.refl _ _).drew)

theorem bl_alloc {w w' : World} (o : Obj) (h : Below w.heap.size w w') : Below w.heap.size w (w'.alloc o) := h.alloc h.size o

theorem bl_drew {w w' : World} (h : Below w.heap.size w w') : Below w.heap.size w w'.drew := h.drew

theorem bl_call {w w1 w' : World} (hb : Below w1.heap.size w1 w') (h : Below w.heap.size w w1) : Below w.heap.size w w' := h.trans (hb.mono h.size)

set_option maxRecDepth 100000 in
set_option maxHeartbeats 4000000 in
theorem wNew (w : World) (v : Value) (ss : List Int) (hv : RI w w.heap.size v ss) :
    Calls Try.prog 36 #[v] w fun e w' => ∃ k S, e = .returned (.pointer (some ⟨k, 0, none⟩)) ∧ Wk w' k S RM.new [] ∧ (∀ j, S j → w.heap.size ≤ j) ∧ Below w.heap.size w w' := by
  have hn := rNew w v ss hv
  obtain ⟨A, c, rfl, -, -, -, -⟩ := hv.open_
  have HN := Lib.hid hn
  clear hn hv
  go_enter Try.func36, Try.ntmps36
  go_wp2_with fail
  refine HN.out.mono ?_
  rintro e w1 ⟨g, S, rfl, r1, n1, b1⟩
  have hk : WkX (w1.alloc (.cells #[.pointer (some ⟨g, 0, none⟩), .slice none 0 0] 95)) w1.heap.size g (.slice none 0 0) S RM.new [] := ⟨Blk.new _ _ _, r1.below ((Below.refl _ _).alloc (Nat.le_refl _) _), OK.nil _ _, fun j hj => by cases hj⟩
  have HK := Lib.hid hk
  have N1 := Lib.hid n1
  have B1 := Lib.hid b1
  clear r1 n1 b1 hk HN
  go_wp2_with fail
  go_ret
  refine ⟨_, _, rfl, ⟨g, _, S, HK.out, fun _ => Iff.rfl⟩, fun j hj => ?_, B1.out.alloc B1.out.size _⟩
  rcases hj with rfl | hj | hj
  · exact B1.out.size
  · exact N1.out j hj
  · cases hj

set_option maxRecDepth 100000 in
set_option maxHeartbeats 40000000 in
theorem fNew (w : World) (v : Value) (ss : List Int) (hv : RI w w.heap.size v ss) :
    Calls Try.prog 8 #[v] w fun e w' => ∃ f S, e = .returned (.pointer (some ⟨f, 0, none⟩)) ∧ FR w' f S FS.new ∧ (∀ k, S k → w.heap.size ≤ k) ∧ Below w.heap.size w w' := by
  obtain ⟨A, c, rfl, -, -, -, -⟩ := hv.open_
  obtain ⟨n, hn⟩ : ∃ n, n = ss.length := ⟨_, rfl⟩
  rw [← hn] at hv ⊢
  have HRI : Hid (∀ W' : World, Below w.heap.size w W' → RI W' W'.heap.size (.slice A n c) ss) := Lib.hid (fun W' hb => (hv.below hb).more hb.size)
  have hmk := run_makeRef
  have hmm := @run_makeMap Try.prog
  clear hv hn
  go_enter Try.func8, Try.ntmps8
  go_wp2_with fail
  go_region_law (first
    | (go_simp; go_at_call 36; refine (wNew _ _ ss (HRI.out _ (by first | exact (Below.refl _ _).drew | exact (Below.refl _ _).drew.alloc (Nat.le_refl _) _ | exact ((Below.refl _ _).drew.alloc (Nat.le_refl _) _).alloc (by simp) _ | exact (((Below.refl _ _).drew.alloc (Nat.le_refl _) _).alloc (by simp) _).alloc (by simp <;> omega) _))).mono ?_; rintro e w4 ⟨g, S4, rfl, h1, h2, h3⟩; have R4 := Lib.hid h1; have S4H := Lib.hid h2; have B4 := Lib.hid h3; clear h1 h2 h3))
  all_goals clear HRI hmk hmm
  all_goals (
    have HS4 : Hid (∀ k, S4 k → w.heap.size ≤ k) := Lib.hid (fun k hk => Nat.le_trans (by simp <;> omega) (S4H.out k hk))
    have BS := B4.out.size
    simp at BS
    clear S4H
    go_wp2_with fail
    go_ret
    refine new_fr (by simp) ?_ ?_ HS4.out ?_ ?_ ?_ ?_ ?_ ?_ ?_
    · repeat (first | with_reducible exact Below.refl _ _ | with_reducible refine bl_alloc _ ?_ | with_reducible refine bl_drew ?_ | with_reducible refine bl_call B4.out ?_)
    · repeat (first | with_reducible exact R4.out | with_reducible refine rp_alloc _ ?_ | with_reducible refine rp_drew ?_)
    · repeat (first | (with_reducible refine hp_new ?_; first | (simp; done) | omega) | with_reducible refine hp_old _ ?_ | with_reducible refine hp_drew ?_ | with_reducible refine hp_call B4.out ?_)
    · repeat (first | (with_reducible refine hp_new ?_; first | (simp; done) | omega) | with_reducible refine hp_old _ ?_ | with_reducible refine hp_drew ?_ | with_reducible refine hp_call B4.out ?_)
    · repeat (first | (with_reducible refine hp_new ?_; first | (simp; done) | omega) | with_reducible refine hp_old _ ?_ | with_reducible refine hp_drew ?_ | with_reducible refine hp_call B4.out ?_)
    · omega
    · omega
    · omega
    · omega)

end Go.Proofs.Ytlakcldgolpaiaa
