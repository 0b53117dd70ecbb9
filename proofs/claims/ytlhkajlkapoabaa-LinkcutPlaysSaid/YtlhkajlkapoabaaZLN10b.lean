/-
  Rows by their blocks: what stays where other blocks turn.
-/
import Derived.Test.YtlhkajlkapoabaaZLN9
namespace Go.Proofs.Ytlhkajlkapoabaa
open Go.RowKit Go.Maps
set_option linter.unusedVariables false

theorem RK.stay {α : Type} {enc : α → List Value} {k : Nat} {w w' : World} {B : Nat} {v : Value} {xs : List α} (h : RK enc k w B v xs) (hb : ∀ b, blkOf v = some b → w'.heap[b]? = w.heap[b]?) : RK enc k w' B v xs := by
  obtain ⟨h1, A, c, rfl, h2, h3, h4⟩ := h
  refine ⟨h1, A, c, rfl, h2, h3, ?_⟩
  rcases h4 with h4 | ⟨b, off, rfl, hbl, hc⟩
  · exact .inl h4
  · refine .inr ⟨b, off, rfl, hbl, fun i x hx j u hu => ?_⟩
    exact (World.cell?_of_block (w := w) (hb b rfl)).trans (hc i x hx j u hu)

theorem RK.blkLt {α : Type} {enc : α → List Value} {k : Nat} {w : World} {B : Nat} {v : Value} {xs : List α} (h : RK enc k w B v xs) (hx : xs ≠ []) {b : Nat} (hb : blkOf v = some b) : b < B := by
  obtain ⟨h1, A, c, rfl, h2, h3, h4⟩ := h
  rcases h4 with h4 | ⟨b', off, rfl, hbl, hc⟩
  · exact absurd h4 hx
  · injection hb with hb
    have hb : b' = b := hb
    omega

def InQ {α : Type} (Q : Nat → Prop) (v : Value) (xs : List α) : Prop := xs ≠ [] → ∀ k, blkOf v = some k → Q k

theorem OldNew.mono {w w2 : World} {a a' : Value} (h : OldNew w2 a a') (hs : w.heap.size ≤ w2.heap.size) : OldNew w a a' := h.imp id fun h k hk => Nat.le_trans hs (h k hk)

section

variable {w wr w' : World} {f : Nat} {d : DF} {a b c e : Value}

theorem row_stay {α : Type} {enc : α → List Value} {k : Nat} {v : Value} {xs : List α} {Q : Nat → Prop} (h : RK enc k wr wr.heap.size v xs) (ht : TameL w.heap.size Q wr w') (hq : InQ Q v xs) : RK enc k w' w'.heap.size v xs := by
  by_cases hx : xs = []
  · subst hx
    obtain ⟨h1, A, c, rfl, h2, h3, h4⟩ := h
    exact ⟨h1, A, c, rfl, h2, h3, .inl rfl⟩
  · exact (h.stay fun b hb => ht.kept b (hq hx b hb) (h.blkLt hx hb)).more ht.size

theorem inQ_step {α : Type} {enc : α → List Value} {k : Nat} {v v' : Value} {xs xs' : List α} {Q : Nat → Prop} (h : RK enc k wr wr.heap.size v xs) (h' : RK enc k w' w'.heap.size v' xs') (hq : InQ Q v xs) (ho : OldNew wr v v') : InQ (fun k => Q k ∨ wr.heap.size ≤ k ∧ k < w'.heap.size) v' xs' := by
  intro hx b hb
  rcases ho with rfl | ho
  · refine .inl (hq (fun e => hx ?_) b hb)
    obtain ⟨-, A, c, rfl, -⟩ := h
    obtain ⟨-, A', c', e', -⟩ := h'
    injection e' with e1 e2 e3
    rw [e] at e2
    exact List.eq_nil_of_length_eq_zero e2.symm
  · exact .inr ⟨ho b hb, h'.blkLt hx hb⟩

theorem off_keep {α : Type} {enc : α → List Value} {k q : Nat} {w0 w3 : World} {v v' : Value} {xs xs' : List α} (hq : InQ (fun k => k ≠ q) v xs) (h : RK enc k w0 w0.heap.size v xs) (h' : RK enc k w3 w3.heap.size v' xs') (ho : OldNew w0 v v') (h0 : q < w0.heap.size) : InQ (fun k => k ≠ q) v' xs' := by
  intro hx b hb
  rcases ho with rfl | ho
  · refine hq (fun e => hx ?_) b hb
    subst e
    obtain ⟨-, A, c, rfl, -⟩ := h
    obtain ⟨-, A', c', e', -⟩ := h'
    injection e' with e1 e2 e3
    exact List.eq_nil_of_length_eq_zero e2.symm
  · have := ho b hb
    show b ≠ q
    omega

def Sl4 (a b c e : Value) : Prop := ∃ X0 n0 m0 X1 n1 m1 X2 n2 m2 X3 n3 m3, a = .slice X0 n0 m0 ∧ b = .slice X1 n1 m1 ∧ c = .slice X2 n2 m2 ∧ e = .slice X3 n3 m3

theorem DocR.sl4 {B : Nat} (h : DocR w B a b c e d) : Sl4 a b c e := by
  obtain ⟨A0, c0, h0, -⟩ := h.vs.open_
  obtain ⟨A1, c1, h1, -⟩ := h.es.open_
  obtain ⟨A2, c2, h2, -⟩ := h.mv.open_
  obtain ⟨A3, c3, h3, -⟩ := h.me.open_
  exact ⟨A0, _, c0, A1, _, c1, A2, _, c2, A3, _, c3, h0, h1, h2, h3⟩

theorem off_new {α : Type} {enc : α → List Value} {k q : Nat} {w0 w2 w3 : World} {v v' : Value} {xs xs' : List α} (h : RK enc k w0 w0.heap.size v xs) (h' : RK enc k w3 w3.heap.size v' xs') (ho : OldNew w2 v v') (h0 : w0.heap.size ≤ q) (h2 : q < w2.heap.size) : InQ (fun k => k ≠ q) v' xs' := by
  intro hx b hb
  rcases ho with rfl | ho
  · have hne : xs ≠ [] := by
      intro e
      subst e
      refine hx ?_
      obtain ⟨-, A, c, rfl, -⟩ := h
      obtain ⟨-, A', c', e', -⟩ := h'
      injection e' with e1 e2 e3
      exact List.eq_nil_of_length_eq_zero e2.symm
    have := h.blkLt hne hb
    show b ≠ q
    omega
  · have := ho b hb
    show b ≠ q
    omega

theorem rk_far {α : Type} {enc : α → List Value} {k : Nat} {v : Value} {xs : List α} (h : RK enc k wr wr.heap.size v xs) (hb : ∀ b, (xs ≠ [] → blkOf v = some b → w'.heap[b]? = wr.heap[b]?)) (hs : wr.heap.size ≤ w'.heap.size) : RK enc k w' w'.heap.size v xs := by
  by_cases hx : xs = []
  · subst hx
    obtain ⟨h1, A, c, rfl, h2, h3, h4⟩ := h
    exact ⟨h1, A, c, rfl, h2, h3, .inl rfl⟩
  · exact (h.stay fun b hb' => hb b hx hb').more hs

end

end Go.Proofs.Ytlhkajlkapoabaa

/-
  Layer 17's Link of the document, at any forest.
-/
namespace Go.Proofs.Ytlhkajlkapoabaa
open Go.RowKit Go.Maps
set_option linter.unusedVariables false

/-- The boxes of Link: the forest, the edge, the result's cell. -/
structure Box8 (w W : World) (p : Nat) (a b c e : Value) (i u v x : Int) : Prop where
  b0 : Blk W p 31 #[a, b, c, e]
  be : Blk W (p + 1) 33 #[.int .i64 i, .int .i64 u, .int .i64 v, .int .i64 x]
  b1 : Blk W (p + 2) 31 #[.slice none 0 0, .slice none 0 0, .slice none 0 0, .slice none 0 0]
  below : Below w.heap.size w W
  lo : w.heap.size ≤ p

theorem box8 (w : World) (a b c e : Value) (i u v x : Int) : Box8 w (((w.alloc (.cells #[a, b, c, e] 31)).alloc (Obj.cells #[.int .i64 i, .int .i64 u, .int .i64 v, .int .i64 x] 33)).alloc z4) w.heap.size a b c e i u v x := by
  refine ⟨((Blk.new _ _ _).alloc _).alloc _, ?_, ?_, (((Below.refl _ _).alloc (Nat.le_refl _) _).alloc (by simp) _).alloc (by simp; omega) _, Nat.le_refl _⟩
  · have := (Blk.new (w.alloc (.cells #[a, b, c, e] 31)) 33 #[.int .i64 i, .int .i64 u, .int .i64 v, .int .i64 x]).alloc z4
    simpa [z4] using this
  · have := Blk.new ((w.alloc (.cells #[a, b, c, e] 31)).alloc (Obj.cells #[.int .i64 i, .int .i64 u, .int .i64 v, .int .i64 x] 33)) 31 #[.slice none 0 0, .slice none 0 0, .slice none 0 0, .slice none 0 0]
    simpa [z4] using this

theorem Box8.after {w W W' : World} {p : Nat} {a b c e : Value} {i u v x : Int} (h : Box8 w W p a b c e i u v x) (hb : Below W.heap.size W W') : Box8 w W' p a b c e i u v x := ⟨h.b0.below hb h.b0.lt, h.be.below hb h.be.lt, h.b1.below hb h.b1.lt, h.below.trans (hb.mono h.below.size), h.lo⟩

open Classical in
noncomputable def DF.linkWE (d : DF) (id u v x : Int) : Int := if okId id ∧ okId u ∧ okId v then (if x < 0 ∨ 1099511627776 < x then 53 else d.linkE id u v) else 1

noncomputable def DF.linkWA (d : DF) (id u v x : Int) : DF := if d.linkWE id u v x = 0 then d.linkA id u v x.toNat else d

theorem doc_same {w w' : World} {a b c e : Value} {d : DF} {n : Int} (h : DocR w w.heap.size a b c e d) (hb : Below w.heap.size w w') {r : Ending} (hr : r = .returned (.tuple #[.agg #[a, b, c, e], .int .i64 n])) : DocOut w a b c e n d r w' :=
  ⟨a, b, c, e, hr, h.stay hb, hb, .old _ _, .old _ _, .old _ _, .old _ _⟩

set_option maxRecDepth 100000 in
set_option maxHeartbeats 8000000 in
theorem refLinkW_any (w : World) (a b c e : Value) (d : DF) (id u v x : Int) (h : DocR w w.heap.size a b c e d) (hd : d.Fit) :
    Calls Try.prog 21 #[.agg #[a, b, c, e], .agg #[.int .i64 id, .int .i64 u, .int .i64 v, .int .i64 x]] w fun r w' => DocOut w a b c e (d.linkWE id u v x) (d.linkWA id u v x) r w' := by
  obtain ⟨A1, y1, h1, -, -, -, -⟩ := h.vs.open_
  obtain ⟨A2, y2, h2, -, -, -, -⟩ := h.es.open_
  obtain ⟨A3, y3, h3, -, -, -, -⟩ := h.mv.open_
  obtain ⟨A4, y4, h4, -, -, -, -⟩ := h.me.open_
  obtain ⟨n1, hn1⟩ : ∃ n, n = d.vs.length := ⟨_, rfl⟩
  obtain ⟨n2, hn2⟩ : ∃ n, n = d.es.length := ⟨_, rfl⟩
  obtain ⟨n3, hn3⟩ : ∃ n, n = d.mv.length := ⟨_, rfl⟩
  obtain ⟨n4, hn4⟩ : ∃ n, n = d.me.length := ⟨_, rfl⟩
  rw [← hn1] at h1
  rw [← hn2] at h2
  rw [← hn3] at h3
  rw [← hn4] at h4
  subst h1 h2 h3 h4
  clear hn1 hn2 hn3 hn4
  obtain ⟨ez, hez⟩ : ∃ z, z = d.linkWE id u v x := ⟨_, rfl⟩
  obtain ⟨D2, hD2⟩ : ∃ z, z = d.linkWA id u v x := ⟨_, rfl⟩
  rw [← hez, ← hD2]
  have HEZ := Lib.hid hez
  have HDD := Lib.hid hD2
  clear hez hD2
  obtain ⟨W, hW⟩ : ∃ W, W = ((w.alloc (.cells #[.slice A1 n1 y1, .slice A2 n2 y2, .slice A3 n3 y3, .slice A4 n4 y4] 31)).alloc (Obj.cells #[.int .i64 id, .int .i64 u, .int .i64 v, .int .i64 x] 33)).alloc z4 := ⟨_, rfl⟩
  obtain ⟨q, hq⟩ : ∃ q, q = w.heap.size := ⟨_, rfl⟩
  have hbx := box8 w (.slice A1 n1 y1) (.slice A2 n2 y2) (.slice A3 n3 y3) (.slice A4 n4 y4) id u v x
  rw [← hW] at hbx
  have BX : Hid (Box8 w W q (.slice A1 n1 y1) (.slice A2 n2 y2) (.slice A3 n3 y3) (.slice A4 n4 y4) id u v x) := Lib.hid (by rw [hq]; exact hbx)
  unfold z4 at hW
  have HW := Lib.hid hW
  have HQ := Lib.hid hq
  have H := Lib.hid h
  have HD := Lib.hid hd
  clear hW hq hbx h hd
  go_enter Try.func21, Try.ntmps21
  go_upto_region 1 with fail
  rw [← HW.out]
  try simp only [← HQ.out]
  have c0 := BX.out.b0.cell 0
  have ce0 := BX.out.be.cell 0
  have cr0 := BX.out.b1.cell 0
  have cf0 := BX.out.b1.frozen 0
  have c1 := BX.out.b0.cell 1
  have ce1 := BX.out.be.cell 1
  have cr1 := BX.out.b1.cell 1
  have cf1 := BX.out.b1.frozen 1
  have c2 := BX.out.b0.cell 2
  have ce2 := BX.out.be.cell 2
  have cr2 := BX.out.b1.cell 2
  have cf2 := BX.out.b1.frozen 2
  have c3 := BX.out.b0.cell 3
  have ce3 := BX.out.be.cell 3
  have cr3 := BX.out.b1.cell 3
  have cf3 := BX.out.b1.frozen 3
  go_wp2_with fail
  refine (badId_any id W).mono ?_
  rintro e wx ⟨rfl, hwx⟩
  rw [hwx]
  clear hwx wx
  by_cases hid : okId id
  case neg =>
    rw [isIdI_no hid]
    have e1 : d.linkWE id u v x = 1 := by unfold DF.linkWE; rw [if_neg (fun hh => hid hh.1)]
    have e2 : d.linkWA id u v x = d := by unfold DF.linkWA; rw [e1, if_neg (by decide)]
    have e3 := HEZ.out.trans e1
    have e4 := HDD.out.trans e2
    subst e3 e4
    clear e1 e2
    go_wp2_with fail
    refine ret_cell_tmp2 (p := 4) (u := 5) (v := .agg #[.slice A1 n1 y1, .slice A2 n2 y2, .slice A3 n3 y3, .slice A4 n4 y4]) (x := .int .i64 1) rfl rfl rfl (by go_simp) rfl (doc_same H.out ?_ rfl)
    first | exact BX.out.below | exact below4 BX.out.below (by have := BX.out.lo; omega) _ _ _ _
  rw [isIdI_yes hid]
  go_wp2_with fail
  refine (badId_any u W).mono ?_
  rintro e wx ⟨rfl, hwx⟩
  rw [hwx]
  clear hwx wx
  by_cases hu : okId u
  case neg =>
    rw [isIdI_no hu]
    have e1 : d.linkWE id u v x = 1 := by unfold DF.linkWE; rw [if_neg (fun hh => hu hh.2.1)]
    have e2 : d.linkWA id u v x = d := by unfold DF.linkWA; rw [e1, if_neg (by decide)]
    have e3 := HEZ.out.trans e1
    have e4 := HDD.out.trans e2
    subst e3 e4
    clear e1 e2
    go_wp2_with fail
    refine ret_cell_tmp2 (p := 4) (u := 5) (v := .agg #[.slice A1 n1 y1, .slice A2 n2 y2, .slice A3 n3 y3, .slice A4 n4 y4]) (x := .int .i64 1) rfl rfl rfl (by go_simp) rfl (doc_same H.out ?_ rfl)
    first | exact BX.out.below | exact below4 BX.out.below (by have := BX.out.lo; omega) _ _ _ _
  rw [isIdI_yes hu]
  go_wp2_with fail
  refine (badId_any v W).mono ?_
  rintro e wx ⟨rfl, hwx⟩
  rw [hwx]
  clear hwx wx
  by_cases hv : okId v
  case neg =>
    rw [isIdI_no hv]
    have e1 : d.linkWE id u v x = 1 := by unfold DF.linkWE; rw [if_neg (fun hh => hv hh.2.2)]
    have e2 : d.linkWA id u v x = d := by unfold DF.linkWA; rw [e1, if_neg (by decide)]
    have e3 := HEZ.out.trans e1
    have e4 := HDD.out.trans e2
    subst e3 e4
    clear e1 e2
    go_wp2_with fail
    refine ret_cell_tmp2 (p := 4) (u := 5) (v := .agg #[.slice A1 n1 y1, .slice A2 n2 y2, .slice A3 n3 y3, .slice A4 n4 y4]) (x := .int .i64 1) rfl rfl rfl (by go_simp) rfl (doc_same H.out ?_ rfl)
    first | exact BX.out.below | exact below4 BX.out.below (by have := BX.out.lo; omega) _ _ _ _
  rw [isIdI_yes hv]
  by_cases hx : x < 0
  case pos =>
    have hdx : decide (x < 0) = true := by simp; omega
    have e1 : d.linkWE id u v x = 53 := by unfold DF.linkWE; rw [if_pos ⟨hid, hu, hv⟩, if_pos (.inl hx)]
    have e2 : d.linkWA id u v x = d := by unfold DF.linkWA; rw [e1, if_neg (by decide)]
    have e3 := HEZ.out.trans e1
    have e4 := HDD.out.trans e2
    subst e3 e4
    clear e1 e2
    go_wp2_with fail
    refine ret_cell_tmp2 (p := 4) (u := 5) (v := .agg #[.slice A1 n1 y1, .slice A2 n2 y2, .slice A3 n3 y3, .slice A4 n4 y4]) (x := .int .i64 53) rfl rfl rfl (by go_simp) rfl (doc_same H.out ?_ rfl)
    first | exact BX.out.below | exact below4 BX.out.below (by have := BX.out.lo; omega) _ _ _ _
  have hdx : decide (x < 0) = false := by simp; omega
  by_cases hy : 1099511627776 < x
  case pos =>
    have hdy : decide (x > 1099511627776) = true := by simp; omega
    have e1 : d.linkWE id u v x = 53 := by unfold DF.linkWE; rw [if_pos ⟨hid, hu, hv⟩, if_pos (.inr hy)]
    have e2 : d.linkWA id u v x = d := by unfold DF.linkWA; rw [e1, if_neg (by decide)]
    have e3 := HEZ.out.trans e1
    have e4 := HDD.out.trans e2
    subst e3 e4
    clear e1 e2
    go_wp2_with fail
    refine ret_cell_tmp2 (p := 4) (u := 5) (v := .agg #[.slice A1 n1 y1, .slice A2 n2 y2, .slice A3 n3 y3, .slice A4 n4 y4]) (x := .int .i64 53) rfl rfl rfl (by go_simp) rfl (doc_same H.out ?_ rfl)
    first | exact BX.out.below | exact below4 BX.out.below (by have := BX.out.lo; omega) _ _ _ _
  have hdy : decide (x > 1099511627776) = false := by simp; omega
  have e1 : d.linkWE id u v x = d.linkE id u v := by unfold DF.linkWE; rw [if_pos ⟨hid, hu, hv⟩, if_neg (fun hh => hh.elim hx hy)]
  obtain ⟨n, hn⟩ : ∃ n : Nat, x = (n : Int) := ⟨x.toNat, by omega⟩
  subst hn
  have e2 : d.linkWA id u v (n : Int) = d.linkA id u v n := by
    unfold DF.linkWA
    rw [e1, Int.toNat_natCast]
    by_cases hz : d.linkE id u v = 0
    · rw [if_pos hz]
    · rw [if_neg hz, DF.linkA_no d rfl hz]
  have HR := Lib.hid (H.out.stay BX.out.below)
  have hc := refLink_any W _ _ _ _ d id u v n HR.out HD.out
  rw [← HEZ.out.trans e1, ← HDD.out.trans e2] at hc
  have HC := Lib.hid hc
  clear hc e1 e2 hid hu hv
  go_wp2_with fail
  refine HC.out.mono ?_
  rintro r w3 ⟨a', b', c', e', rfl, d3, b3, o1, o2, o3, o4⟩
  obtain ⟨B1, k1, rfl, -, -, -, -⟩ := d3.vs.open_
  obtain ⟨B2, k2, rfl, -, -, -, -⟩ := d3.es.open_
  obtain ⟨B3, k3, rfl, -, -, -, -⟩ := d3.mv.open_
  obtain ⟨B4, k4, rfl, -, -, -, -⟩ := d3.me.open_
  generalize D2.vs.length = m1 at *
  generalize D2.es.length = m2 at *
  generalize D2.mv.length = m3 at *
  generalize D2.me.length = m4 at *
  have BX3 := Lib.hid (BX.out.after b3)
  have D3 := Lib.hid d3
  have B3X := Lib.hid b3
  have hs := BX.out.below.size
  have O1 := Lib.hid o1
  have O2 := Lib.hid o2
  have O3 := Lib.hid o3
  have O4 := Lib.hid o4
  have hqw : q + 2 < W.heap.size := BX.out.b1.lt
  clear d3 b3 o1 o2 o3 o4 c0 ce0 cr0 cf0 c1 ce1 cr1 cf1 c2 ce2 cr2 cf2 c3 ce3 cr3 cf3
  have dr0 := BX3.out.b1.cell 0
  have df0 := BX3.out.b1.frozen 0
  have dr1 := BX3.out.b1.cell 1
  have df1 := BX3.out.b1.frozen 1
  have dr2 := BX3.out.b1.cell 2
  have df2 := BX3.out.b1.frozen 2
  have dr3 := BX3.out.b1.cell 3
  have df3 := BX3.out.b1.frozen 3
  go_wp2_with fail
  refine ret_cell_tmp2 (p := 4) (u := 5) (v := .agg #[.slice B1 m1 k1, .slice B2 m2 k2, .slice B3 m3 k3, .slice B4 m4 k4]) (x := .int .i64 ez) rfl rfl rfl (by go_simp) rfl ?_
  have hbe : Below w.heap.size w ((((w3.setCell ⟨q + 2, 0, none⟩ (.slice B1 m1 k1)).setCell ⟨q + 2, 1, none⟩ (.slice B2 m2 k2)).setCell ⟨q + 2, 2, none⟩ (.slice B3 m3 k3)).setCell ⟨q + 2, 3, none⟩ (.slice B4 m4 k4)) := below4 BX3.out.below (by have := BX.out.lo; omega) _ _ _ _
  have hh : ∀ k, k ≠ q + 2 → ((((w3.setCell ⟨q + 2, 0, none⟩ (.slice B1 m1 k1)).setCell ⟨q + 2, 1, none⟩ (.slice B2 m2 k2)).setCell ⟨q + 2, 2, none⟩ (.slice B3 m3 k3)).setCell ⟨q + 2, 3, none⟩ (.slice B4 m4 k4)).heap[k]? = w3.heap[k]? := fun k hk => heap4 hk _ _ _ _
  have hsz : w3.heap.size ≤ ((((w3.setCell ⟨q + 2, 0, none⟩ (.slice B1 m1 k1)).setCell ⟨q + 2, 1, none⟩ (.slice B2 m2 k2)).setCell ⟨q + 2, 2, none⟩ (.slice B3 m3 k3)).setCell ⟨q + 2, 3, none⟩ (.slice B4 m4 k4)).heap.size := by simp
  have hq0 : w.heap.size ≤ q + 2 := by have := BX.out.lo; omega
  have f1 := off_new H.out.vs D3.out.vs O1.out hq0 hqw
  have f2 := off_new H.out.es D3.out.es O2.out hq0 hqw
  have f3 := off_new H.out.mv D3.out.mv O3.out hq0 hqw
  have f4 := off_new H.out.me D3.out.me O4.out hq0 hqw
  exact ⟨_, _, _, _, rfl, ⟨rk_far D3.out.vs (fun k hx hk => hh k (f1 hx k hk)) hsz, rk_far D3.out.es (fun k hx hk => hh k (f2 hx k hk)) hsz, rk_far D3.out.mv (fun k hx hk => hh k (f3 hx k hk)) hsz, rk_far D3.out.me (fun k hx hk => hh k (f4 hx k hk)) hsz⟩, hbe, O1.out.mono hs, O2.out.mono hs, O3.out.mono hs, O4.out.mono hs⟩

end Go.Proofs.Ytlhkajlkapoabaa

/-
  Two forests of the program in memory, and the document's in a box. No walk.
-/
namespace Go.Proofs.Ytlhkajlkapoabaa
open Go.RowKit Go.Maps
set_option linter.unusedVariables false

/-- A forest and its blocks. -/
def LR (w : World) (f : Nat) (S : Nat → Prop) (F : LF) : Prop := ∃ bv be S0 P N K vs es, LFAt w f bv be S0 P N K vs es F ∧ ∀ k, ownL f bv be S0 k ↔ S k

section

variable {B : Nat} {Q S T : Nat → Prop} {w w' : World} {f : Nat} {F : LF}

theorem LB.split (h : LB B Q w f F) : ∃ S, LR w f S F ∧ (∀ k, S k → B ≤ k ∧ ¬ Q k) ∧ ∀ k, Q k → k < w.heap.size := by
  obtain ⟨bv, be, S, P, N, K, vs, es, h1, h2, h3⟩ := h
  exact ⟨ownL f bv be S, ⟨bv, be, S, P, N, K, vs, es, h1, fun k => Iff.rfl⟩, h2, h3⟩

theorem LR.lb (h : LR w f S F) (h2 : ∀ k, S k → B ≤ k ∧ ¬ Q k) (h3 : ∀ k, Q k → k < w.heap.size) : LB B Q w f F := by
  obtain ⟨bv, be, S0, P, N, K, vs, es, h1, hS⟩ := h
  exact ⟨bv, be, S0, P, N, K, vs, es, h1, fun k hk => h2 k ((hS k).1 hk), h3⟩

theorem LR.lt (h : LR w f S F) {k : Nat} (hk : S k) : k < w.heap.size := by
  obtain ⟨bv, be, S0, P, N, K, vs, es, h1, hS⟩ := h
  exact h1.lt ((hS k).2 hk)

theorem LR.below (h : LR w f S F) (hb : Below w.heap.size w w') : LR w' f S F := by
  obtain ⟨bv, be, S0, P, N, K, vs, es, h1, hS⟩ := h
  exact ⟨bv, be, S0, P, N, K, vs, es, h1.below hb, hS⟩

theorem LR.frame (h : LR w f S F) (hm : Mod T w w') (hd : ∀ k, S k → ¬ T k) : LR w' f S F := by
  obtain ⟨bv, be, S0, P, N, K, vs, es, h1, hS⟩ := h
  have hp : ∀ k, ownL f bv be S0 k → ¬ T k := fun k hk => hd k ((hS k).1 hk)
  exact ⟨bv, be, S0, P, N, K, vs, es, ⟨⟨h1.at_.blk.mod hm (hp _ (.inl rfl)), h1.at_.verts.mod hm (hp _ (.inr (.inl rfl))), h1.at_.edges.mod hm (hp _ (.inr (.inr (.inl rfl)))), h1.at_.at_.mod hm (fun a ha => hp a (.inr (.inr (.inr ha)))), h1.at_.fs, h1.at_.vS, h1.at_.eS, h1.at_.bvS, h1.at_.beS, h1.at_.ne⟩, h1.gd, h1.few, h1.ids, h1.eids⟩, hS⟩

theorem LR.types (h : LR w f S F) {k : Nat} (hk : S k) {cs : Array Value} {t : TypeId} {fr : Nat × Nat} (hb : w.heap[k]? = some (Obj.cells cs t fr)) : ¬ NotL t := by
  obtain ⟨bv, be, S0, P, N, K, vs, es, h1, hS⟩ := h
  exact h1.types ((hS k).2 hk) hb

theorem LR.far {p i t : Nat} {cs : Array Value} (h : LR w f S F) (hb : Blk w p t cs) (hn : NotL t) (u : Value) : LR (w.setCell ⟨p, i, none⟩ u) f S F :=
  h.frame (T := fun k => k = p) ((Mod.refl (fun k => k = p) _).setCell (p := ⟨p, i, none⟩) (fun _ => rfl) _) (fun k hk e => h.types hk (e ▸ hb) hn)

/-- A forest of whose blocks none turns stays. -/
theorem LR.kept (h : LR w f S F) (hs : ∀ k, S k → Q k) (ht : TameL B Q w w') : LR w' f S F :=
  h.frame (T := fun k => ¬ Q k) ⟨ht.below.os, ht.below.tape, ht.below.output, ht.size, fun k hk hn => ht.kept k (Classical.not_not.1 hn) hk⟩ (fun k hk e => e (hs k hk))

theorem LB.more {Q' : Nat → Prop} (h : LB B Q w f F) (hb : Below w.heap.size w w') (hq : ∀ k, Q' k → Q k ∨ w.heap.size ≤ k ∧ k < w'.heap.size) : LB B Q' w' f F := by
  obtain ⟨S, h1, h2, h3⟩ := h.split
  refine (h1.below hb).lb (fun k hk => ⟨(h2 k hk).1, fun e => ?_⟩) (fun k hk => ?_)
  · rcases hq k e with e | e
    · exact (h2 k hk).2 e
    · have := h1.lt hk; omega
  · rcases hq k hk with e | e
    · exact Nat.lt_of_lt_of_le (h3 k e) hb.size
    · exact e.2

end

structure OrdX (w wr : World) (f : Nat) (F : LF) (g : Nat) (G : LF) (p : Nat) (d : DF) (a b c e : Value) (Q Sf : Nat → Prop) : Prop where
  g_ : LB w.heap.size Q wr g G
  f_ : LR wr f Sf F
  sub : ∀ k, Sf k → Q k
  fb : ∀ k, Sf k → w.heap.size ≤ k
  low : Below w.heap.size w wr
  doc : DocR wr wr.heap.size a b c e d
  qa : InQ Q a d.vs
  qb : InQ Q b d.es
  qc : InQ Q c d.mv
  qe : InQ Q e d.me
  box : Blk wr p 31 #[a, b, c, e]
  lo : w.heap.size ≤ p
  oa : InQ (fun k => k ≠ p) a d.vs
  ob : InQ (fun k => k ≠ p) b d.es
  oc : InQ (fun k => k ≠ p) c d.mv
  oe : InQ (fun k => k ≠ p) e d.me

/-- Two forests of the program, none of whose calls turns the other's blocks or the document's rows; the document's forest in the box p. -/
def Ord (w wr : World) (f : Nat) (F : LF) (g : Nat) (G : LF) (p : Nat) (d : DF) (a b c e : Value) : Prop := ∃ Q Sf, OrdX w wr f F g G p d a b c e Q Sf

section

variable {w wr w' : World} {f g p : Nat} {F G G' : LF} {d d' : DF} {a b c e a' b' c' e' : Value}

theorem Ord.low (h : Ord w wr f F g G p d a b c e) : Below w.heap.size w wr := by obtain ⟨Q, Sf, h⟩ := h; exact h.low

theorem Ord.doc (h : Ord w wr f F g G p d a b c e) : DocR wr wr.heap.size a b c e d := by obtain ⟨Q, Sf, h⟩ := h; exact h.doc

theorem Ord.box (h : Ord w wr f F g G p d a b c e) : Blk wr p 31 #[a, b, c, e] := by obtain ⟨Q, Sf, h⟩ := h; exact h.box

theorem Ord.four (h : Ord w wr f F g G p d a b c e) : wr.cell? ⟨p, 0, none⟩ = some a ∧ wr.cell? ⟨p, 1, none⟩ = some b ∧ wr.cell? ⟨p, 2, none⟩ = some c ∧ wr.cell? ⟨p, 3, none⟩ = some e := ⟨h.box.cell 0, h.box.cell 1, h.box.cell 2, h.box.cell 3⟩

theorem Ord.below (h : Ord w wr f F g G p d a b c e) (hb : Below wr.heap.size wr w') : Ord w w' f F g G p d a b c e := by
  obtain ⟨Q, Sf, h⟩ := h
  exact ⟨Q, Sf, h.g_.below hb, h.f_.below hb, h.sub, h.fb, h.low.trans (hb.mono h.low.size), h.doc.stay hb, h.qa, h.qb, h.qc, h.qe, h.box.below hb h.box.lt, h.lo, h.oa, h.ob, h.oc, h.oe⟩

/-- The document's forest is another one from now on. -/
theorem Ord.docTurn (h : Ord w wr f F g G p d a b c e) (hb : Below wr.heap.size wr w') (hd : DocR w' w'.heap.size a' b' c' e' d') (n1 : OldNew wr a a') (n2 : OldNew wr b b') (n3 : OldNew wr c c') (n4 : OldNew wr e e') :
    Ord w ((((w'.setCell ⟨p, 0, none⟩ a').setCell ⟨p, 1, none⟩ b').setCell ⟨p, 2, none⟩ c').setCell ⟨p, 3, none⟩ e') f F g G p d' a' b' c' e' := by
  obtain ⟨Q, Sf, h⟩ := h
  have lt := h.box.lt
  have q1 := off_keep h.oa h.doc.vs hd.vs n1 lt
  have q2 := off_keep h.ob h.doc.es hd.es n2 lt
  have q3 := off_keep h.oc h.doc.mv hd.mv n3 lt
  have q4 := off_keep h.oe h.doc.me hd.me n4 lt
  have hx := h.box.below hb lt
  have hg : LB w.heap.size (fun k => Q k ∨ wr.heap.size ≤ k ∧ k < w'.heap.size) w' g G := h.g_.more hb fun k hk => hk
  have hf := h.f_.below hb
  have hh : ∀ k, k ≠ p → ((((w'.setCell ⟨p, 0, none⟩ a').setCell ⟨p, 1, none⟩ b').setCell ⟨p, 2, none⟩ c').setCell ⟨p, 3, none⟩ e').heap[k]? = w'.heap[k]? := fun k hk => heap4 hk _ _ _ _
  have hsz : w'.heap.size ≤ ((((w'.setCell ⟨p, 0, none⟩ a').setCell ⟨p, 1, none⟩ b').setCell ⟨p, 2, none⟩ c').setCell ⟨p, 3, none⟩ e').heap.size := by simp
  have hl := h.low.trans (hb.mono h.low.size)
  refine ⟨_, Sf, (((hg.far hx notL_D a').far (hx.set_ 0 a') notL_D b').far ((hx.set_ 0 a').set_ 1 b') notL_D c').far (((hx.set_ 0 a').set_ 1 b').set_ 2 c') notL_D e', (((hf.far hx notL_D a').far (hx.set_ 0 a') notL_D b').far ((hx.set_ 0 a').set_ 1 b') notL_D c').far (((hx.set_ 0 a').set_ 1 b').set_ 2 c') notL_D e', fun k hk => .inl (h.sub k hk), h.fb, ?_, ?_, inQ_step h.doc.vs hd.vs h.qa n1, inQ_step h.doc.es hd.es h.qb n2, inQ_step h.doc.mv hd.mv h.qc n3, inQ_step h.doc.me hd.me h.qe n4, (((hx.set_ 0 a').set_ 1 b').set_ 2 c').set_ 3 e', h.lo, q1, q2, q3, q4⟩
  · exact (((hl.setCell (p := ⟨p, 0, none⟩) h.lo a').setCell (p := ⟨p, 1, none⟩) h.lo b').setCell (p := ⟨p, 2, none⟩) h.lo c').setCell (p := ⟨p, 3, none⟩) h.lo e'
  · exact ⟨rk_far hd.vs (fun k hx hk => hh k (q1 hx k hk)) hsz, rk_far hd.es (fun k hx hk => hh k (q2 hx k hk)) hsz, rk_far hd.mv (fun k hx hk => hh k (q3 hx k hk)) hsz, rk_far hd.me (fun k hx hk => hh k (q4 hx k hk)) hsz⟩

/-- The second forest turns. -/
theorem OrdX.turn {Q Sf : Nat → Prop} (h : OrdX w wr f F g G p d a b c e Q Sf) (hF : LB w.heap.size Q w' g G') (ht : TameL w.heap.size Q wr w') : Ord w w' f F g G' p d a b c e :=
  ⟨Q, Sf, hF, h.f_.kept h.sub ht, h.sub, h.fb, h.low.trans ht.below, ⟨row_stay h.doc.vs ht h.qa, row_stay h.doc.es ht h.qb, row_stay h.doc.mv ht h.qc, row_stay h.doc.me ht h.qe⟩, h.qa, h.qb, h.qc, h.qe, ht.blk h.box notL_D, h.lo, h.oa, h.ob, h.oc, h.oe⟩

theorem oAdd (h : Ord w wr f F g G p d a b c e) (v : Int) (hv : I64 v) : Calls Try.prog 23 #[.pointer (some ⟨g, 0, none⟩), .int .i64 v] wr fun r w' => r = .returned (.int .i64 (G.addE v)) ∧ Ord w w' f F g (G.addA v) p d a b c e := by
  obtain ⟨Q, Sf, h⟩ := h
  refine (bAddV w.heap.size Q wr g G h.g_ h.low.size v hv).mono ?_
  rintro r w' ⟨rfl, hF, ht⟩
  exact ⟨rfl, h.turn hF ht⟩

theorem oLink (h : Ord w wr f F g G p d a b c e) (id u v wt : Int) (hi : I64 id) (hu : I64 u) (hv : I64 v) (hw : I64 wt) : Calls Try.prog 17 #[.pointer (some ⟨g, 0, none⟩), .agg #[.int .i64 id, .int .i64 u, .int .i64 v, .int .i64 wt]] wr fun r w' => r = .returned (.int .i64 (G.linkE id u v wt)) ∧ Ord w w' f F g (G.linkA id u v wt) p d a b c e ∧ TameL w.heap.size (fun _ => False) wr w' := by
  obtain ⟨Q, Sf, h⟩ := h
  refine (bLink w.heap.size Q wr g G h.g_ h.low.size id u v wt hi hu hv hw).mono ?_
  rintro r w' ⟨rfl, hF, ht⟩
  exact ⟨rfl, h.turn hF ht, ht.below, ht.size, ht.rows, fun k hk => hk.elim⟩

theorem oAlong (h : Ord w wr f F g G p d a b c e) (u v : Int) (hu : I64 u) (hv : I64 v) : Calls Try.prog 16 #[.pointer (some ⟨g, 0, none⟩), .int .i64 u, .int .i64 v] wr fun r w' => r = .returned (.tuple #[G.alongV u v, .int .i64 (G.alongX u v)]) ∧ Ord w w' f F g G p d a b c e := by
  obtain ⟨Q, Sf, h⟩ := h
  refine (bAlong w.heap.size Q wr g G h.g_ h.low.size u v hu hv).mono ?_
  rintro r w' ⟨rfl, hF, ht⟩
  exact ⟨rfl, h.turn hF ht⟩

/-- The document's forest is another one, put together in a box made on the way. -/
theorem Ord.docBox {w1 w4 : World} {q : Nat} {n : Int} {r : Ending} (h : Ord w wr f F g G p d a b c e) (hb : Below wr.heap.size wr w1) (h1 : wr.heap.size ≤ q) (h2 : q < w1.heap.size) (hd : DocR w4 w4.heap.size a' b' c' e' d') (b4 : Below w1.heap.size w1 w4) (n1 : OldNew w1 a a') (n2 : OldNew w1 b b') (n3 : OldNew w1 c c') (n4 : OldNew w1 e e') :
    DocR ((((w4.setCell ⟨q, 0, none⟩ a').setCell ⟨q, 1, none⟩ b').setCell ⟨q, 2, none⟩ c').setCell ⟨q, 3, none⟩ e') ((((w4.setCell ⟨q, 0, none⟩ a').setCell ⟨q, 1, none⟩ b').setCell ⟨q, 2, none⟩ c').setCell ⟨q, 3, none⟩ e').heap.size a' b' c' e' d' ∧ Below wr.heap.size wr ((((w4.setCell ⟨q, 0, none⟩ a').setCell ⟨q, 1, none⟩ b').setCell ⟨q, 2, none⟩ c').setCell ⟨q, 3, none⟩ e') ∧ OldNew wr a a' ∧ OldNew wr b b' ∧ OldNew wr c c' ∧ OldNew wr e e' := by
  have D := h.doc
  have f1 := off_new D.vs hd.vs n1 h1 h2
  have f2 := off_new D.es hd.es n2 h1 h2
  have f3 := off_new D.mv hd.mv n3 h1 h2
  have f4 := off_new D.me hd.me n4 h1 h2
  have hh : ∀ k, k ≠ q → ((((w4.setCell ⟨q, 0, none⟩ a').setCell ⟨q, 1, none⟩ b').setCell ⟨q, 2, none⟩ c').setCell ⟨q, 3, none⟩ e').heap[k]? = w4.heap[k]? := fun k hk => heap4 hk _ _ _ _
  have hsz : w4.heap.size ≤ ((((w4.setCell ⟨q, 0, none⟩ a').setCell ⟨q, 1, none⟩ b').setCell ⟨q, 2, none⟩ c').setCell ⟨q, 3, none⟩ e').heap.size := by simp
  have hl := hb.trans (b4.mono hb.size)
  exact ⟨⟨rk_far hd.vs (fun k hx hk => hh k (f1 hx k hk)) hsz, rk_far hd.es (fun k hx hk => hh k (f2 hx k hk)) hsz, rk_far hd.mv (fun k hx hk => hh k (f3 hx k hk)) hsz, rk_far hd.me (fun k hx hk => hh k (f4 hx k hk)) hsz⟩, below4 hl h1 _ _ _ _, n1.mono hb.size, n2.mono hb.size, n3.mono hb.size, n4.mono hb.size⟩

end

/-- Two forests alone. -/
def Duo (w wr : World) (f : Nat) (F : LF) (g : Nat) (G : LF) : Prop := ∃ Sf Sg, LR wr f Sf F ∧ LR wr g Sg G ∧ (∀ k, Sf k → ¬ Sg k) ∧ (∀ k, Sf k ∨ Sg k → w.heap.size ≤ k) ∧ Below w.heap.size w wr

section

variable {w wr w' : World} {f g p : Nat} {F G G' : LF} {d d' : DF} {a b c e a' b' c' e' : Value}

theorem Ord.duo (h : Ord w wr f F g G p d a b c e) : Duo w wr f F g G := by
  obtain ⟨Q, Sf, h⟩ := h
  obtain ⟨Sg, g1, g2, g3⟩ := h.g_.split
  exact ⟨Sf, Sg, h.f_, g1, fun k hk hg => (g2 k hg).2 (h.sub k hk), fun k hk => hk.elim (h.fb k) fun hg => (g2 k hg).1, h.low⟩

theorem Duo.symm (h : Duo w wr f F g G) : Duo w wr g G f F := by
  obtain ⟨Sf, Sg, h1, h2, h3, h4, h5⟩ := h
  exact ⟨Sg, Sf, h2, h1, fun k hk hf => h3 k hf hk, fun k hk => h4 k hk.symm, h5⟩

theorem Duo.low (h : Duo w wr f F g G) : Below w.heap.size w wr := by obtain ⟨Sf, Sg, -, -, -, -, h⟩ := h; exact h

theorem Duo.below (h : Duo w wr f F g G) (hb : Below wr.heap.size wr w') : Duo w w' f F g G := by
  obtain ⟨Sf, Sg, h1, h2, h3, h4, h5⟩ := h
  exact ⟨Sf, Sg, h1.below hb, h2.below hb, h3, h4, h5.trans (hb.mono h5.size)⟩

theorem Duo.ok (h : Duo w wr f F g G) : F.Ok ∧ G.Ok := by
  obtain ⟨Sf, Sg, h1, h2, h3, h4, h5⟩ := h
  exact ⟨(h1.lb (B := 0) (Q := fun _ => False) (fun k _ => ⟨Nat.zero_le _, id⟩) (fun k hk => hk.elim)).ok, (h2.lb (B := 0) (Q := fun _ => False) (fun k _ => ⟨Nat.zero_le _, id⟩) (fun k hk => hk.elim)).ok⟩

/-- Blocks that stand in memory besides a forest's own. -/
def Rest (wr : World) (S : Nat → Prop) (k : Nat) : Prop := k < wr.heap.size ∧ ¬ S k

theorem Duo.along (h : Duo w wr f F g G) (u v : Int) (hu : I64 u) (hv : I64 v) : Calls Try.prog 16 #[.pointer (some ⟨f, 0, none⟩), .int .i64 u, .int .i64 v] wr fun r w' => r = .returned (.tuple #[F.alongV u v, .int .i64 (F.alongX u v)]) ∧ Duo w w' f F g G ∧ TameL w.heap.size (fun _ => False) wr w' := by
  obtain ⟨Sf, Sg, h1, h2, h3, h4, h5⟩ := h
  refine (bAlong w.heap.size (Rest wr Sf) wr f F (h1.lb (fun k hk => ⟨h4 k (.inl hk), fun hr => hr.2 hk⟩) (fun k hk => hk.1)) h5.size u v hu hv).mono ?_
  rintro r w' ⟨rfl, hF, ht⟩
  obtain ⟨S', f1, f2, f3⟩ := hF.split
  have hg := h2.kept (Q := Rest wr Sf) (fun k hk => ⟨h2.lt hk, fun hf => h3 k hf hk⟩) ht
  refine ⟨rfl, ⟨S', Sg, f1, hg, fun k hk hgk => (f2 k hk).2 ⟨h2.lt hgk, fun hf => h3 k hf hgk⟩, fun k hk => hk.elim (fun hs => (f2 k hs).1) fun hs => h4 k (.inr hs), h5.trans ht.below⟩, ht.below, ht.size, ht.rows, fun k hk => hk.elim⟩

theorem Duo.len (h : Duo w wr f F g G) : Calls Try.prog 11 #[.pointer (some ⟨f, 0, none⟩)] wr fun e w' => e = .returned (.tuple #[.int .i64 (F.vs.length : Int), .int .i64 (F.es.length : Int)]) ∧ Below wr.heap.size wr w' := by
  obtain ⟨Sf, Sg, h1, -⟩ := h
  exact bLen 0 (fun _ => False) wr f F (h1.lb (fun k _ => ⟨Nat.zero_le _, id⟩) (fun k hk => hk.elim))

end

end Go.Proofs.Ytlhkajlkapoabaa

/-
  The document's forest beside the program's, in plain words.
-/
namespace Go.Proofs.Ytlhkajlkapoabaa
open Go.RowKit Go.Maps
set_option linter.unusedVariables false

theorem insI_perm (n : Int) : ∀ xs : List Int, (insI n xs).Perm (n :: xs)
  | [] => List.Perm.refl _
  | x :: r => by
    rw [insI_cons]
    split
    · exact List.Perm.refl _
    · exact ((insI_perm n r).cons x).trans (List.Perm.swap n x r)

theorem insE_perm (e : Eg) : ∀ l : List Eg, (insE e l).Perm (e :: l)
  | [] => List.Perm.refl _
  | x :: r => by
    rw [insE_cons]
    split
    · exact List.Perm.refl _
    · exact ((insE_perm e r).cons x).trans (List.Perm.swap e x r)

/-- The same vertices and edges; no marks. -/
structure BesL (F : LF) (d : DF) : Prop where
  vm : ∀ i, i ∈ d.vs ↔ i ∈ F.vs
  vnd : d.vs.Nodup
  em : ∀ e, e ∈ d.es ↔ e ∈ F.es
  idn : (ids d.es).Nodup
  mv : d.mv = []
  me : d.me = []

section

variable {F : LF} {d : DF}

theorem BesL.esnd (h : BesL F d) : d.es.Nodup := (List.pairwise_map.1 (show (d.es.map Eg.id).Nodup from h.idn)).imp fun hne e => hne (by rw [e])

theorem BesL.vperm (h : BesL F d) (hF : F.Ok) : d.vs.Perm F.vs := (List.perm_ext_iff_of_nodup h.vnd hF.vnd).2 h.vm

theorem BesL.eperm (h : BesL F d) (hF : F.Ok) : d.es.Perm F.es := (List.perm_ext_iff_of_nodup h.esnd hF.esnd).2 h.em

theorem BesL.fit (h : BesL F d) (hF : F.Ok) : d.Fit ∧ d.mv.length ≤ 4096 ∧ d.me.length ≤ 4096 := by
  have h1 := (h.vperm hF).length_eq
  have h2 := (h.eperm hF).length_eq
  have h3 := hF.few
  have h4 := hF.fewE
  refine ⟨⟨h.vnd, fun e he => ?_, by omega, by omega⟩, by rw [h.mv]; simp, by rw [h.me]; simp⟩
  obtain ⟨k1, k2, -⟩ := hF.ends e ((h.em e).1 he)
  exact ⟨(h.vm _).2 k1, (h.vm _).2 k2⟩

theorem besL_new : BesL LF.none0 ⟨[], [], [], []⟩ := ⟨fun _ => Iff.rfl, List.nodup_nil, fun _ => Iff.rfl, List.nodup_nil, rfl, rfl⟩

theorem BesL.conn (h : BesL F d) (u v : Int) : Conn d.es u v ↔ F.Join u v := by
  rw [conn_lf]
  exact same_join (F := ⟨[], d.es⟩) (G := ⟨[], F.es⟩) h.em

theorem BesL.idm (h : BesL F d) (i : Int) : i ∈ ids d.es ↔ i ∈ F.es.map Eg.id := by
  unfold ids
  rw [List.mem_map, List.mem_map]
  simp only [h.em]

theorem BesL.addE (h : BesL F d) (hF : F.Ok) (v : Int) : d.addE v = F.addE v := by
  unfold DF.addE LF.addE
  have h1 := (h.vperm hF).length_eq
  by_cases h0 : okId v
  · rw [if_pos h0, if_pos (show 1 ≤ v ∧ v ≤ 2147483647 from h0)]
    by_cases hv : v ∈ F.vs
    · rw [if_pos ((h.vm v).2 hv), if_pos hv]
    · rw [if_neg (fun hh => hv ((h.vm v).1 hh)), if_neg hv, h1]
  · rw [if_neg h0, if_neg (show ¬ (1 ≤ v ∧ v ≤ 2147483647) from h0)]

theorem BesL.addA (h : BesL F d) (hF : F.Ok) (v : Int) : BesL (F.addA v) (d.addA v) := by
  have he := h.addE hF v
  unfold DF.addA LF.addA
  rw [he]
  by_cases h0 : F.addE v = 0
  · rw [if_pos h0, if_pos h0]
    have hv : v ∉ F.vs := fun hm => by
      unfold LF.addE at h0
      by_cases hr : 1 ≤ v ∧ v ≤ 2147483647
      · rw [if_pos hr, if_pos hm] at h0; cases h0
      · rw [if_neg hr] at h0; cases h0
    have hp := insI_perm v d.vs
    refine ⟨fun i => ?_, hp.nodup_iff.2 (List.nodup_cons.2 ⟨fun hm => hv ((h.vm v).1 hm), h.vnd⟩), h.em, h.idn, h.mv, h.me⟩
    show i ∈ insI v d.vs ↔ i ∈ F.vs ++ [v]
    rw [hp.mem_iff, List.mem_cons, List.mem_append, List.mem_singleton, h.vm]
    exact or_comm
  · rw [if_neg h0, if_neg h0]
    exact h

theorem BesL.delE (h : BesL F d) (v : Int) : d.delE v = F.delE v := by
  unfold DF.delE LF.delE
  by_cases h0 : okId v
  · rw [if_pos h0, if_pos (show 1 ≤ v ∧ v ≤ 2147483647 from h0)]
    by_cases hv : v ∈ F.vs
    · rw [if_pos ((h.vm v).2 hv), if_pos hv]
      by_cases hd : ∃ e ∈ d.es, e.u = v ∨ e.v = v
      · rw [if_pos hd]
        obtain ⟨e, he, hx⟩ := hd
        have : e ∈ F.es.filter fun e => e.u == v || e.v == v := List.mem_filter.2 ⟨(h.em e).1 he, by simpa using hx⟩
        have := List.length_pos_of_mem this
        rw [if_pos (by unfold LF.deg; omega)]
      · rw [if_neg hd]
        have : F.es.filter (fun e => e.u == v || e.v == v) = [] := List.filter_eq_nil_iff.2 fun e he hx => hd ⟨e, (h.em e).2 he, by simpa using hx⟩
        rw [if_neg (by unfold LF.deg; rw [this]; simp)]
    · rw [if_neg (fun hh => hv ((h.vm v).1 hh)), if_neg hv]
  · rw [if_neg h0, if_neg (show ¬ (1 ≤ v ∧ v ≤ 2147483647) from h0)]

theorem BesL.delA (h : BesL F d) (v : Int) : BesL (F.delA v) (d.delA v) := by
  have he := h.delE v
  unfold DF.delA LF.delA
  rw [he]
  by_cases h0 : F.delE v = 0
  · rw [if_pos h0, if_pos h0]
    refine ⟨fun i => ?_, h.vnd.filter _, h.em, h.idn, by show d.mv.filter _ = []; rw [h.mv]; rfl, h.me⟩
    show i ∈ d.vs.filter _ ↔ i ∈ F.vs.filter _
    rw [List.mem_filter, List.mem_filter, h.vm]
    simp
  · rw [if_neg h0, if_neg h0]
    exact h

open Classical in
theorem BesL.linkE (h : BesL F d) (id u v x : Int) : d.linkWE id u v x = F.linkE id u v x := by
  unfold DF.linkWE LF.linkE DF.linkE
  by_cases h0 : okId id ∧ okId u ∧ okId v
  · rw [if_pos h0, if_pos h0, if_pos h0]
    by_cases h1 : x < 0 ∨ 1099511627776 < x
    · rw [if_pos h1, if_pos h1]
    · rw [if_neg h1, if_neg h1]
      by_cases h2 : id ∈ F.es.map Eg.id
      · rw [if_pos ((h.idm id).2 h2), if_pos h2]
      · rw [if_neg (fun hh => h2 ((h.idm id).1 hh)), if_neg h2]
        by_cases h3 : u ∈ F.vs ∧ v ∈ F.vs
        · rw [if_pos ⟨(h.vm u).2 h3.1, (h.vm v).2 h3.2⟩, if_pos h3]
          have ht : v ∈ d.tree u ↔ F.Join u v := by
            unfold DF.tree
            rw [if_pos ((h.vm u).2 h3.1), List.mem_filter, decide_eq_true_iff, h.conn]
            exact ⟨fun hh => hh.2, fun hh => ⟨(h.vm v).2 h3.2, hh⟩⟩
          by_cases h4 : F.Join u v
          · rw [if_pos (ht.2 h4), if_pos h4]
          · rw [if_neg (fun hh => h4 (ht.1 hh)), if_neg h4]
        · rw [if_neg (fun hh => h3 ⟨(h.vm u).1 hh.1, (h.vm v).1 hh.2⟩), if_neg h3]
  · rw [if_neg h0, if_neg h0]

theorem BesL.linkA (h : BesL F d) (id u v x : Int) : BesL (F.linkA id u v x) (d.linkWA id u v x) := by
  have he := h.linkE id u v x
  unfold DF.linkWA LF.linkA
  rw [he]
  by_cases h0 : F.linkE id u v x = 0
  · rw [if_pos h0, if_pos h0]
    obtain ⟨k1, k2, k3, k4, k5, k6, -⟩ := linkE_ok h0
    have h2 : d.linkE id u v = 0 := by
      rw [h0] at he
      unfold DF.linkWE at he
      rw [if_pos ⟨k1, k2, k3⟩, if_neg (fun hh => hh.elim k4 k5)] at he
      exact he
    have e2 : d.linkA id u v x.toNat = ⟨d.vs, insE ⟨id, u, v, x.toNat⟩ d.es, d.mv, d.me⟩ := by unfold DF.linkA; rw [if_pos h2]
    rw [e2]
    have hp := insE_perm ⟨id, u, v, x.toNat⟩ d.es
    refine ⟨h.vm, h.vnd, fun e => ?_, ?_, h.mv, h.me⟩
    · show e ∈ insE _ d.es ↔ e ∈ F.es ++ [_]
      rw [hp.mem_iff, List.mem_cons, List.mem_append, List.mem_singleton, h.em]
      exact or_comm
    · show ((insE ⟨id, u, v, x.toNat⟩ d.es).map Eg.id).Nodup
      refine (hp.map Eg.id).nodup_iff.2 ?_
      exact List.nodup_cons.2 ⟨fun hm => k6 ((h.idm id).1 hm), h.idn⟩
  · rw [if_neg h0, if_neg h0]
    exact h

theorem BesL.cutE (h : BesL F d) (id : Int) : d.cutE id = F.cutE id := by
  unfold DF.cutE LF.cutE
  by_cases h0 : okId id
  · rw [if_pos h0, if_pos h0]
    by_cases h2 : id ∈ F.es.map Eg.id
    · rw [if_pos ((h.idm id).2 h2), if_pos h2]
    · rw [if_neg (fun hh => h2 ((h.idm id).1 hh)), if_neg h2]
  · rw [if_neg h0, if_neg h0]

theorem BesL.cutA (h : BesL F d) (id : Int) : BesL (F.cutA id) (d.cutA id) := by
  have he := h.cutE id
  unfold DF.cutA LF.cutA
  rw [he]
  by_cases h0 : F.cutE id = 0
  · rw [if_pos h0, if_pos h0]
    refine ⟨h.vm, h.vnd, fun e => ?_, h.idn.sublist (List.filter_sublist.map _), h.mv, by show d.me.filter _ = []; rw [h.me]; rfl⟩
    show e ∈ d.es.filter _ ↔ _
    rw [List.mem_filter, LF.mem_less, h.em]
    simp
  · rw [if_neg h0, if_neg h0]
    exact h

/-- What a call of the script does to the document's forest. -/
noncomputable def DF.stepL (d : DF) (o : OpL) : DF :=
  if o.kd = 1 then d.addA o.u else if o.kd = 2 then d.delA o.u else if o.kd = 3 then d.linkWA o.id o.u o.v o.wt else if o.kd = 4 then d.cutA o.id else d

theorem BesL.step (h : BesL F d) (hF : F.Ok) (o : OpL) : BesL (F.stepL o) (d.stepL o) := by
  unfold LF.stepL DF.stepL
  split
  · exact h.addA hF _
  · split
    · exact h.delA _
    · split
      · exact h.linkA _ _ _ _
      · split
        · exact h.cutA _
        · exact h

end

/-- The same edge the other way round. -/
def flipE (e : Eg) : Eg := ⟨e.id, e.v, e.u, e.w⟩

theorem flip_flip (e : Eg) : flipE (flipE e) = e := rfl

theorem flip_inj {a b : Eg} (h : flipE a = flipE b) : a = b := by
  have := congrArg flipE h
  exact this

section

variable {F G : LF} {u v : Int} {e : Eg}

theorem flip_join (h : ∀ x ∈ F.es, flipE x ∈ G.es) (hj : F.Join u v) : G.Join u v := nx_join (fun x y hxy => by
  obtain ⟨a, ha, hxy⟩ := hxy
  exact ⟨flipE a, h a ha, hxy.symm.imp (fun h => ⟨h.2, h.1⟩) (fun h => ⟨h.2, h.1⟩)⟩) hj

/-- The forest that has all edges the other way round tells the same of ways, but for their direction. -/
theorem flip_along (hF : F.Ok) (hG : G.Ok) (hv : ∀ x, x ∈ F.vs ↔ x ∈ G.vs) (he : ∀ x, x ∈ F.es ↔ flipE x ∈ G.es) (u v : Int) :
    G.alongX u v = F.alongX u v ∧ sumE (G.path u v) = sumE (F.path u v) ∧ cntE (G.path u v) = cntE (F.path u v) ∧ best (G.path u v) = flipE (best (F.path u v)) := by
  have hl : ∀ i x, x ∈ (F.less i).es ↔ flipE x ∈ (G.less i).es := fun i x => by
    rw [LF.mem_less, LF.mem_less, he x]
    exact Iff.rfl
  have hb : ∀ A B : LF, (∀ x, x ∈ A.es ↔ flipE x ∈ B.es) → (A.Join u v ↔ B.Join u v) := fun A B h => ⟨flip_join fun x hx => (h x).1 hx, flip_join fun x hx => by
    have := (h (flipE x)).2 (by rw [flip_flip]; exact hx)
    exact this⟩
  have hj : F.Jn u v ↔ G.Jn u v := by
    unfold LF.Jn
    rw [hv, hv, hb F G he]
  have hmem : ∀ x, x ∈ G.path u v ↔ flipE x ∈ F.path u v := fun x => by
    rw [LF.mem_path, LF.mem_path, ← hj, he (flipE x), flip_flip]
    show _ ↔ _ ∧ _ ∧ ¬ (F.less x.id).Join u v
    rw [hb _ _ (hl x.id)]
  have hnd : ((F.path u v).map flipE).Nodup := List.pairwise_map.2 (List.Pairwise.imp (fun {a b} hne e => hne (flip_inj e)) hF.path_nd)
  have hp : (G.path u v).Perm ((F.path u v).map flipE) := (List.perm_ext_iff_of_nodup hG.path_nd hnd).2 fun x => by
    rw [hmem x, List.mem_map]
    exact ⟨fun h => ⟨flipE x, h, flip_flip x⟩, fun ⟨y, hy, e⟩ => by rw [← e, flip_flip]; exact hy⟩
  obtain ⟨a1, b1⟩ := cnt_len (hG.path_nz (u := u) (v := v))
  obtain ⟨a2, b2⟩ := cnt_len (hF.path_nz (u := u) (v := v))
  refine ⟨(alongX_congr hv (hb F G he)).symm, ?_, ?_, ?_⟩
  · rw [b1, b2, (hp.map Eg.w).sum_nat, List.map_map]
    rfl
  · rw [a1, a2, hp.length_eq, List.length_map]
  · have hm := best_max (F.path u v)
    refine max_one (L := Eg.zero :: G.path u v) (best_max _) ⟨?_, fun x hx => ?_⟩ (hG.uniq u v)
    · rcases List.mem_cons.1 hm.1 with h | h
      · rw [h]; exact List.mem_cons_self ..
      · exact List.mem_cons_of_mem _ ((hmem _).2 (by rw [flip_flip]; exact h))
    · have : flipE x ∈ Eg.zero :: F.path u v := by
        rcases List.mem_cons.1 hx with rfl | h
        · exact List.mem_cons_self ..
        · exact List.mem_cons_of_mem _ ((hmem x).1 h)
      exact hm.2 (flipE x) this

end

/-- Vertices that have come, from the last on. -/
def gV (V : List Int) (k : Nat) : LF := ⟨(V.drop k).reverse, []⟩

/-- Edges that have come, from the last on, each the other way round. -/
def gE (V : List Int) (E : List Eg) (k : Nat) : LF := ⟨V.reverse, ((E.drop k).map flipE).reverse⟩

theorem gV_step {V : List Int} {k : Nat} (hk : k < V.length) (hn : V.Nodup) (hl : V.length ≤ 2048) (hi : 1 ≤ V[k] ∧ V[k] ≤ 2147483647) : (gV V (k + 1)).addE V[k] = 0 ∧ (gV V (k + 1)).addA V[k] = gV V k := by
  have hd : V.drop k = V[k] :: V.drop (k + 1) := List.drop_eq_getElem_cons hk
  have hno : V[k] ∉ (V.drop (k + 1)).reverse := fun hm => by
    have := hn.sublist (List.drop_sublist k V)
    rw [hd] at this
    exact (List.nodup_cons.1 this).1 (List.mem_reverse.1 hm)
  have hz : (gV V (k + 1)).addE V[k] = 0 := by
    unfold LF.addE gV
    rw [if_pos hi, if_neg hno, if_neg]
    simp only [List.length_reverse, List.length_drop]
    omega
  refine ⟨hz, ?_⟩
  unfold LF.addA
  rw [if_pos hz]
  unfold gV
  rw [hd, List.reverse_cons]

theorem gE_step {F : LF} {V : List Int} {E : List Eg} {k : Nat} (hF : F.Ok) (hv : ∀ x, x ∈ V ↔ x ∈ F.vs) (he : ∀ x, x ∈ E ↔ x ∈ F.es) (hid : (E.map Eg.id).Nodup) (hk : k < E.length) : (gE V E (k + 1)).linkE E[k].id E[k].v E[k].u (E[k].w : Int) = 0 ∧ (gE V E (k + 1)).linkA E[k].id E[k].v E[k].u (E[k].w : Int) = gE V E k := by
  have hd : E.drop k = E[k] :: E.drop (k + 1) := List.drop_eq_getElem_cons hk
  have hm : E[k] ∈ F.es := (he _).1 (List.getElem_mem hk)
  obtain ⟨h1, h2, h3⟩ := hF.ends _ hm
  obtain ⟨i1, i2, i3⟩ := hF.eids _ hm
  have hnd : E[k].id ∉ (E.drop (k + 1)).map Eg.id := by
    have := hid.sublist ((List.drop_sublist k E).map Eg.id)
    rw [hd, List.map_cons] at this
    exact (List.nodup_cons.1 this).1
  have hz : (gE V E (k + 1)).linkE E[k].id E[k].v E[k].u (E[k].w : Int) = 0 := by
    refine linkE_zero ⟨i1, i2⟩ (hF.ids _ h2) (hF.ids _ h1) (by omega) ?_ ?_ ?_ ?_
    · show E[k].id ∉ (((E.drop (k + 1)).map flipE).reverse).map Eg.id
      intro hh
      obtain ⟨x, hx, hxi⟩ := List.mem_map.1 hh
      obtain ⟨y, hy, rfl⟩ := List.mem_map.1 (List.mem_reverse.1 hx)
      exact hnd (List.mem_map.2 ⟨y, hy, hxi⟩)
    · exact List.mem_reverse.2 ((hv _).2 h2)
    · exact List.mem_reverse.2 ((hv _).2 h1)
    · intro hj
      have : (F.less E[k].id).Join E[k].v E[k].u := flip_join (fun x hx => by
        obtain ⟨y, hy, rfl⟩ := List.mem_map.1 (List.mem_reverse.1 hx)
        rw [flip_flip]
        refine LF.mem_less.2 ⟨(he y).1 (List.mem_of_mem_drop hy), fun hh => hnd (List.mem_map.2 ⟨y, hy, hh⟩)⟩) hj
      exact hF.tree _ hm this.symm
  refine ⟨hz, ?_⟩
  unfold LF.linkA
  rw [if_pos hz]
  unfold gE
  rw [hd, List.map_cons, List.reverse_cons, Int.toNat_natCast]
  rfl

theorem g_start (V : List Int) (E : List Eg) : gV V V.length = LF.none0 ∧ gV V 0 = gE V E E.length := by
  unfold gV gE LF.none0
  simp

end Go.Proofs.Ytlhkajlkapoabaa
