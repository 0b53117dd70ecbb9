/-
  The document's Cut at any forest.
-/
import Derived.Test.YtlakcldgolpaiaaZEM1
namespace Go.Proofs.Ytlakcldgolpaiaa
open Go.RowKit Go.Maps
set_option linter.unusedVariables false

open Classical in
noncomputable def DF.cutE (d : DF) (v : Int) : Int := if okId v then (if v ∈ ids d.es then 0 else 152) else 1

noncomputable def DF.cutA (d : DF) (v : Int) : DF := if d.cutE v = 0 then ⟨d.vs, d.es.filter (fun e => e.1 ≠ v), d.mv, d.me.filter (· ≠ v)⟩ else d

theorem DF.cutA_no (d : DF) {v x : Int} (h : d.cutE v = x) (hx : x ≠ 0) : d.cutA v = d := by unfold DF.cutA; rw [h, if_neg hx]

theorem etD : ElemT 27 37 4 32 := elemT_of (z := .agg #[.int .i64 0, .int .i64 0, .int .i64 0, .int .i64 0]) Try.underlying27 (by kernel_rfl) (by kernel_rfl) (by decide) (by decide) (by decide)

theorem encD_one : ∀ x, ∀ u ∈ encD x, u.oneCell' = true := by
  intro x u hu
  simp only [encD, List.mem_cons, List.not_mem_nil, or_false] at hu
  rcases hu with rfl | rfl | rfl | rfl <;> rfl

theorem oneD (w : World) (e : Edg) : ∀ (j : Nat) u, (encD e)[j]? = some u → (w.alloc (.cells #[.int .i64 e.1, .int .i64 e.2.1, .int .i64 e.2.2, .int .i64 0] 37)).cell? ⟨w.heap.size, j, none⟩ = some u := by
  intro j u hu
  rw [(Blk.new w _ _).cell j]
  simpa [encD] using hu

/-- A net is made at p: its edges so far are L. -/
structure NetS (w wr : World) (q p : Nat) (cs : Array Value) (v0 x : Value) (L : List Edg) : Prop where
  bx : BoxE w wr q 31 cs 31 #[.slice none 0 0, .slice none 0 0, .slice none 0 0, .slice none 0 0]
  nb : Blk wr p 29 #[v0, x]
  lo : q + 1 < p
  row : OK encD 4 37 wr p x L

theorem NetS.push {w wr w4 : World} {q p : Nat} {cs : Array Value} {v0 x v' : Value} {L L' : List Edg} (h : NetS w wr q p cs v0 x L) (hG : wr.grownBy w4 x.ownBlock) (ho : OK encD 4 37 w4 p v' L') : NetS w (w4.setCell ⟨p, 1, none⟩ v') q p cs v0 v' L' := by
  have hlo := h.lo
  have hne : ∀ k, k ≤ p → some k ≠ x.ownBlock := by
    intro k hk e
    have h1 := (h.row.lt k e.symm).1
    obtain rfl : k = p := by omega
    obtain ⟨cs2, h2⟩ := h.row.blk e.symm
    exact absurd rfl (h2.ne_ h.nb (by decide))
  have b0 := h.bx.b0.grown hG (hne q (by omega))
  have b1 := h.bx.b1.grown hG (hne (q + 1) (by omega))
  have nb := h.nb.grown hG (hne p (Nat.le_refl _))
  have bl : Below w.heap.size w w4 := h.bx.below.grown hG h.bx.below.size (fun k hk => by have h1 := (h.row.lt k hk).1; have := h.bx.lo; omega)
  refine ⟨⟨b0.far (p := ⟨p, 1, none⟩) (show q ≠ p by omega) _, b1.far (p := ⟨p, 1, none⟩) (show q + 1 ≠ p by omega) _, bl.setCell (p := ⟨p, 1, none⟩) (show w.heap.size ≤ p by have := h.bx.lo; omega) _, h.bx.lo⟩, by simpa using nb.set_ 1 v', hlo, ho.same fun b hb => Below.heap_setCell _ ⟨p, 1, none⟩ _ _ ?_⟩
  intro e
  have e : b = p := e
  subst e
  obtain ⟨cs2, h2⟩ := ho.blk hb
  exact absurd rfl (h2.ne_ nb (by decide))

theorem edge_take {V : List Edg} {k : Nat} {y : Edg} {P : Edg → Bool} (h : V.take (k + 1) = V.take k ++ [y]) : (V.take (k + 1)).filter P = if P y = true then (V.take k).filter P ++ [y] else (V.take k).filter P := by
  rw [h, List.filter_append]
  by_cases hp : P y = true
  · rw [if_pos hp]; simp [hp]
  · rw [if_neg hp]; simp [hp]

set_option maxRecDepth 100000 in
set_option maxHeartbeats 4000000 in
theorem refCut_any (w : World) (a b c e : Value) (d : DF) (v : Int) (h : DocR w w.heap.size a b c e d) (hd : d.Fit) (hm : d.me.length ≤ 4096) :
    Calls Try.prog 31 #[.agg #[a, b, c, e], .int .i64 v] w fun r w' => DocOut w a b c e (d.cutE v) (d.cutA v) r w' := by
  obtain ⟨A1, c1, rfl, -, -, -, -⟩ := h.vs.open_
  obtain ⟨A2, c2, rfl, -, -, -, HC⟩ := h.es.open_
  obtain ⟨A3, c3, rfl, -, -, -, -⟩ := h.mv.open_
  obtain ⟨A4, c4, rfl, -, -, -, -⟩ := h.me.open_
  obtain ⟨n1, hn1⟩ : ∃ n, n = d.vs.length := ⟨_, rfl⟩
  obtain ⟨n2, hn2⟩ : ∃ n, n = d.es.length := ⟨_, rfl⟩
  obtain ⟨n3, hn3⟩ : ∃ n, n = d.mv.length := ⟨_, rfl⟩
  obtain ⟨n4, hn4⟩ : ∃ n, n = d.me.length := ⟨_, rfl⟩
  rw [← hn1, ← hn2, ← hn3, ← hn4] at h ⊢
  have H := Lib.hid h
  have HF := Lib.hid hd
  have HN := Lib.hid hn1
  have HN2 := Lib.hid hn2
  have hl2 : n2 ≤ 8192 := by rw [hn2]; exact hd.ne
  have HME : Hid (d.me.length ≤ 100000) := Lib.hid (by omega)
  clear h hd hm hn1 hn2 hn3 hn4
  obtain ⟨W, hW⟩ : ∃ W, W = (w.alloc (.cells #[.slice A1 n1 c1, .slice A2 n2 c2, .slice A3 n3 c3, .slice A4 n4 c4] 31)).alloc (.cells zD 31) := ⟨_, rfl⟩
  obtain ⟨q, hq⟩ : ∃ q, q = w.heap.size := ⟨_, rfl⟩
  have hbx := boxE w 31 #[.slice A1 n1 c1, .slice A2 n2 c2, .slice A3 n3 c3, .slice A4 n4 c4] 31 zD
  have hqs : q + 1 < W.heap.size := by rw [hW, hq]; simp
  rw [← hW, ← hq] at hbx
  unfold zD at hW hbx
  have HW := Lib.hid hW
  have HQ := Lib.hid hq
  have HQS := Lib.hid hqs
  have BX := Lib.hid (show BoxE w W q 31 #[.slice A1 n1 c1, .slice A2 n2 c2, .slice A3 n3 c3, .slice A4 n4 c4] 31 #[.slice none 0 0, .slice none 0 0, .slice none 0 0, .slice none 0 0] from hq ▸ hbx)
  clear hW hq hbx hqs
  go_enter Try.func31, Try.ntmps31
  go_upto_region 1 with fail
  rw [← HW.out]
  try simp only [← HQ.out]
  have d0 := BX.out.b0.cell 0
  have d1 := BX.out.b0.cell 1
  have d2 := BX.out.b0.cell 2
  have d3 := BX.out.b0.cell 3
  have dr0 := BX.out.b1.cell 0
  have df0 := BX.out.b1.frozen 0
  have dr1 := BX.out.b1.cell 1
  have df1 := BX.out.b1.frozen 1
  have dr2 := BX.out.b1.cell 2
  have df2 := BX.out.b1.frozen 2
  have dr3 := BX.out.b1.cell 3
  have df3 := BX.out.b1.frozen 3
  have HR := Lib.hid ((H.out.below BX.out.below).more BX.out.below.size)
  go_wp2_with fail
  refine (badId_any v W).mono ?_
  rintro r wx ⟨rfl, hwx⟩
  rw [hwx]
  clear hwx wx
  by_cases h0 : okId v
  · rw [isIdI_yes h0]
    have H0 := Lib.hid h0
    clear h0
    go_wp2_with fail
    refine (refEdge_any W _ _ _ _ d v HR.out HF.out).mono ?_
    rintro r w3 ⟨⟨⟨y0, y1, y2⟩, rfl⟩, b3⟩
    have BX3 := Lib.hid ((BX.out.after b3).after ((Below.refl w3.heap.size w3).alloc (Nat.le_refl _) (Obj.cells #[.int .i64 y0, .int .i64 y1, .int .i64 y2, .int .i64 0] 37)))
    have Z3 : Hid (q + 1 < w3.heap.size) := Lib.hid (by have := HQS.out; have := b3.size; omega)
    clear d0 d1 d2 d3 dr0 dr1 dr2 dr3 df0 df1 df2 df3
    clear b3
    have d0 := BX3.out.b0.cell 0
    have d1 := BX3.out.b0.cell 1
    have d2 := BX3.out.b0.cell 2
    have d3 := BX3.out.b0.cell 3
    have dr0 := BX3.out.b1.cell 0
    have df0 := BX3.out.b1.frozen 0
    have dr1 := BX3.out.b1.cell 1
    have df1 := BX3.out.b1.frozen 1
    have dr2 := BX3.out.b1.cell 2
    have df2 := BX3.out.b1.frozen 2
    have dr3 := BX3.out.b1.cell 3
    have df3 := BX3.out.b1.frozen 3
    unfold edV
    dsimp only
    go_upto_region 4 with fail
    obtain ⟨W4, hW4⟩ : ∃ W4, W4 = w3.alloc (.cells #[.int .i64 y0, .int .i64 y1, .int .i64 y2, .int .i64 0] 37) := ⟨_, rfl⟩
    have Z4 : Hid (q + 1 < W4.heap.size) := Lib.hid (by have := Z3.out; rw [hW4]; simp; omega)
    rw [← hW4] at BX3 d0 dr0 df0 d1 dr1 df1 d2 dr2 df2 d3 dr3 df3 ⊢
    clear hW4
    by_cases hin : v ∈ ids d.es
    case neg =>
      have HE : Hid (d.cutE v = 152) := Lib.hid (by unfold DF.cutE; rw [if_pos H0.out, if_neg hin])
      rw [decide_eq_false hin]
      clear hin
      go_wp2_with fail
      refine ret_cell_tmp2 (p := 4) (u := 5) (v := .agg #[.slice A1 n1 c1, .slice A2 n2 c2, .slice A3 n3 c3, .slice A4 n4 c4]) (x := .int .i64 152) rfl rfl rfl (by go_simp) rfl ?_
      rw [HE.out, d.cutA_no HE.out (by decide)]
      exact ⟨_, _, _, _, rfl, H.out.stay (BX3.out.set4 _ _ _ _), BX3.out.set4 _ _ _ _, .old _ _, .old _ _, .old _ _, .old _ _⟩
    case pos =>
    have HE : Hid (d.cutE v = 0) := Lib.hid (by unfold DF.cutE; rw [if_pos H0.out, if_pos hin])
    have HA : Hid (d.cutA v = ⟨d.vs, d.es.filter (fun e => e.1 ≠ v), d.mv, d.me.filter (· ≠ v)⟩) := Lib.hid (by unfold DF.cutA; rw [if_pos HE.out])
    rw [decide_eq_true hin]
    clear hin
    go_wp2_with fail
    have HS0 : Hid (NetS w (W4.alloc (.cells #[.slice A1 n1 c1, .slice none 0 0] 29)) q W4.heap.size #[.slice A1 n1 c1, .slice A2 n2 c2, .slice A3 n3 c3, .slice A4 n4 c4] (.slice A1 n1 c1) (.slice none 0 0) []) := Lib.hid ⟨BX3.out.after ((Below.refl _ _).alloc (Nat.le_refl _) _), Blk.new _ _ _, Z4.out, OK.nil _ _⟩
    obtain ⟨p, hp⟩ : ∃ p, p = W4.heap.size := ⟨_, rfl⟩
    rw [← hp] at HS0 ⊢
    clear d0 d1 d2 d3 dr0 dr1 dr2 dr3 df0 df1 df2 df3
    clear hp
    go_loopw [9] (fun i wr => ∃ (k : Nat) (A : Option Addr) (m c : Nat), k ≤ n2 ∧ i = .int .i64 k ∧ Hid (NetS w wr q p #[.slice A1 n1 c1, .slice A2 n2 c2, .slice A3 n3 c3, .slice A4 n4 c4] (.slice A1 n1 c1) (.slice A m c) ((d.es.take k).filter fun e => e.1 ≠ v))) (fun i _ => n2 - (intOf i).toNat)
    case atStart => exact ⟨0, none, 0, 0, Nat.zero_le _, rfl, HS0⟩
    case round =>
      clear HS0
      obtain ⟨k, A, m, cc, hk, rfl, HS⟩ := hrel
      have d1 := HS.out.bx.b0.cell 1
      by_cases hkn : k < n2
      · have hkv : k < d.es.length := by have := HN2.out; omega
        obtain ⟨b1, o1, rfl, hb1, hx⟩ := HC.out k hkv
        obtain ⟨⟨id, p1, p2⟩, hy⟩ : ∃ y, y = d.es[k] := ⟨_, rfl⟩
        have HTK := Lib.hid (List.take_succ_eq_append_getElem hkv)
        rw [← hy] at hx HTK
        obtain ⟨x0, x1, x2, x3⟩ := cellD hx
        dsimp only at x0 x1 x2
        have x0 := (HS.out.bx.below.cell (p := ⟨b1, o1 + k * 4, none⟩) hb1).trans x0
        have x1 := (HS.out.bx.below.cell (p := ⟨b1, o1 + k * 4 + 1, none⟩) hb1).trans x1
        have x2 := (HS.out.bx.below.cell (p := ⟨b1, o1 + k * 4 + 2, none⟩) hb1).trans x2
        have x3 := (HS.out.bx.below.cell (p := ⟨b1, o1 + k * 4 + 3, none⟩) hb1).trans x3
        have hkd : decide ((k : Int) < (n2 : Int)) = true := by simpa using hkn
        have hk2 : (k : Int) < (n2 : Int) := by omega
        clear hx hy
        by_cases hiv : id = v
        · subst hiv
          have hid : (id != id) = false := by simp
          go_wp2_with fail
          go_roundw
          case rel =>
            refine ⟨k + 1, A, m, cc, by omega, by go_num, Lib.hid ?_⟩
            rw [edge_take HTK.out, if_neg (by simp)]
            exact HS.out
          case measure => simp [intOf]; omega
        · have hid : (id != v) = true := by simpa using hiv
          have HIV := Lib.hid hiv
          clear hiv
          have n1' := HS.out.nb.cell 1
          have n1a : (wr.alloc (.cells #[.int .i64 id, .int .i64 p1, .int .i64 p2, .int .i64 0] 37)).cell? ⟨p, 1, none⟩ = some (.slice A m cc) := (((Below.refl _ wr).alloc (Nat.le_refl _) _).cell (p := ⟨p, 1, none⟩) HS.out.nb.lt).trans n1'
          have HL : Hid ((((d.es.take k).filter fun e => e.1 ≠ v).length + 1) ≤ 1000000) := Lib.hid (by have h1 := List.length_filter_le (fun e : Edg => decide (e.1 ≠ v)) (d.es.take k); have h2 := List.length_take_le k d.es; omega)
          have ROW := Lib.hid HS.out.row
          have PZ : Hid (p < wr.heap.size) := Lib.hid HS.out.nb.lt
          have HG : Hid (∀ w4, (wr.drew.alloc (.cells #[.int .i64 id, .int .i64 p1, .int .i64 p2, .int .i64 0] 37)).grownBy w4 (Value.slice A m cc).ownBlock → wr.grownBy w4 (Value.slice A m cc).ownBlock) := Lib.hid fun w4 h2 => grownBy_trans (grownBy_below ((Below.refl _ wr).drew.alloc (Nat.le_refl _) _)) h2
          have HNB : Hid (∀ w4, wr.grownBy w4 (Value.slice A m cc).ownBlock → Blk w4 p 29 #[.slice A1 n1 c1, .slice A m cc]) := Lib.hid fun w4 h2 => HS.out.nb.grown h2 (by
            intro e
            obtain ⟨cs2, h3⟩ := HS.out.row.blk e.symm
            exact absurd rfl (h3.ne_ HS.out.nb (by decide)))
          go_wp2_with fail
          go_region_law (first
            | (refine step_app1 etD encD_len encD_one rfl (.tmp 44) (.tmp 51) rfl rfl (ROW.out.drew.alloc _) wr.heap.size rfl (y := ((id, p1, p2) : Edg)) (oneD wr (id, p1, p2)) HL.out (by have := PZ.out; simp; omega) ?_; intro v' w4 h1 h2 h3; have G4 := Lib.hid (HG.out w4 h2); have e3 := (HNB.out w4 G4.out).cell 1; have e5 := (HNB.out w4 G4.out).frozen 1; obtain ⟨A5, c6, hv2, _, _, _, _⟩ := (h1.rk encD_len (Nat.le_refl _)).open_; have O4 := Lib.hid h1; obtain ⟨n5, hn5⟩ : ∃ n5, n5 = (((d.es.take k).filter fun e => e.1 ≠ v) ++ [((id, p1, p2) : Edg)]).length := ⟨_, rfl⟩; rw [← hn5] at hv2; subst hv2; clear hn5 h1 h2 h3))
          all_goals (
            go_wp2_with fail
            go_roundw
            case rel =>
              refine ⟨k + 1, A5, n5, c6, by omega, by go_num, Lib.hid ?_⟩
              rw [edge_take HTK.out, if_pos (by simpa using HIV.out)]
              exact HS.out.push G4.out O4.out
            case measure => simp [intOf]; omega)
      · obtain rfl : k = n2 := by omega
        have hkd : decide ((k : Int) < (k : Int)) = false := by simp
        have HS2 : Hid (NetS w wr q p #[.slice A1 n1 c1, .slice A2 k c2, .slice A3 n3 c3, .slice A4 n4 c4] (.slice A1 n1 c1) (.slice A m cc) (d.es.filter fun e => e.1 ≠ v)) := Lib.hid (by
          have := HS.out
          rwa [List.take_of_length_le (by have := HN2.out; omega)] at this)
        have d0 := HS2.out.bx.b0.cell 0
        have d2 := HS2.out.bx.b0.cell 2
        have d3 := HS2.out.bx.b0.cell 3
        have g0 := HS2.out.bx.b0.frozen 0
        have g1 := HS2.out.bx.b0.frozen 1
        have m0 := HS2.out.nb.cell 0
        have m1 := HS2.out.nb.cell 1
        clear HS
        go_wp2_with fail
        have BX5 := Lib.hid (HS2.out.bx.put2 (.slice A1 n1 c1) (.slice A m cc))
        have O5 := Lib.hid (HS2.out.row.same (w' := (wr.setCell ⟨q, 0, none⟩ (.slice A1 n1 c1)).setCell ⟨q, 1, none⟩ (.slice A m cc)) (fun b hb => heap2 (show b ≠ q by have := (HS2.out.row.lt b hb).1; have := HS2.out.lo; omega) _ _))
        have Z5 : Hid (q + 1 < ((wr.setCell ⟨q, 0, none⟩ (.slice A1 n1 c1)).setCell ⟨q, 1, none⟩ (.slice A m cc)).heap.size) := Lib.hid (by have := HS2.out.nb.lt; have := HS2.out.lo; simp; omega)
        have PLO : Hid (q + 1 < p) := Lib.hid HS2.out.lo
        obtain ⟨W5, hW5⟩ : ∃ W5, W5 = (wr.setCell ⟨q, 0, none⟩ (.slice A1 n1 c1)).setCell ⟨q, 1, none⟩ (.slice A m cc) := ⟨_, rfl⟩
        rw [← hW5] at BX5 O5 Z5 ⊢
        clear hW5 d0 d1 d2 d3 g0 g1 m0 m1
        refine (Without_any _ d.me v W5 w.heap.size (H.out.me.below BX5.out.below) BX5.out.below.size HME.out).mono ?_
        rintro r w6 ⟨v6, rfl, o6, b6⟩
        obtain ⟨A6, c6, hv6, -, -, -, -⟩ := (o6.rk encI_len (Nat.le_refl _)).open_
        obtain ⟨n6, hn6⟩ : ∃ n, n = (d.me.filter (· ≠ v)).length := ⟨_, rfl⟩
        rw [← hn6] at hv6
        subst hv6
        have O6 := Lib.hid o6
        have O56 := Lib.hid (O5.out.below b6)
        have BX6 := Lib.hid (BX5.out.after b6)
        clear o6 b6 hn6
        have d0 := BX6.out.b0.cell 0
        have d1 := BX6.out.b0.cell 1
        have d2 := BX6.out.b0.cell 2
        have d3 := BX6.out.b0.cell 3
        have dr0 := BX6.out.b1.cell 0
        have df0 := BX6.out.b1.frozen 0
        have dr1 := BX6.out.b1.cell 1
        have df1 := BX6.out.b1.frozen 1
        have dr2 := BX6.out.b1.cell 2
        have df2 := BX6.out.b1.frozen 2
        have dr3 := BX6.out.b1.cell 3
        have df3 := BX6.out.b1.frozen 3
        have g3 := BX6.out.b0.frozen 3
        go_wp2_with fail
        refine ret_cell_tmp2 (p := 4) (u := 5) (v := .agg #[.slice A1 n1 c1, .slice A m cc, .slice A3 n3 c3, .slice A6 n6 c6]) (x := .int .i64 0) rfl rfl rfl (by go_simp) rfl ?_
        rw [HE.out, HA.out]
        have hlow := below4 (BX6.out.below.setCell (p := ⟨q, 3, none⟩) BX6.out.lo (.slice A6 n6 c6)) (show w.heap.size ≤ q + 1 by have := BX6.out.lo; omega) (.slice A1 n1 c1) (.slice A m cc) (.slice A3 n3 c3) (.slice A6 n6 c6)
        have hold := H.out.stay hlow
        have hn1 := (O56.out.same (fun b hb => heap5 (show b ≠ q by have := (O56.out.lt b hb).1; have := PLO.out; omega) (show b ≠ q + 1 by have := (O56.out.lt b hb).1; have := PLO.out; omega) (.slice A6 n6 c6) 3 (.slice A1 n1 c1) (.slice A m cc) (.slice A3 n3 c3) (.slice A6 n6 c6))).rk encD_len (Nat.le_refl _)
        have hn2 := (O6.out.same (fun b hb => heap5 (show b ≠ q by have := (O6.out.lt b hb).1; have := Z5.out; omega) (show b ≠ q + 1 by have := (O6.out.lt b hb).1; have := Z5.out; omega) (.slice A6 n6 c6) 3 (.slice A1 n1 c1) (.slice A m cc) (.slice A3 n3 c3) (.slice A6 n6 c6))).rk encI_len (Nat.le_refl _)
        exact ⟨_, _, _, _, rfl, ⟨hold.vs, hn1, hold.mv, hn2⟩, hlow, .old _ _, (.inr fun k e => by have h1 := HS2.out.row.blkOf e; have h2 := HS2.out.lo; have h3 := HS2.out.bx.lo; omega), .old _ _, (.inr fun k e => Nat.le_trans BX5.out.below.size (O6.out.blkOf e))⟩
  · rw [isIdI_no h0]
    have HE : Hid (d.cutE v = 1) := Lib.hid (by unfold DF.cutE; rw [if_neg h0])
    clear h0
    go_wp2_with fail
    refine ret_cell_tmp2 (p := 4) (u := 5) (v := .agg #[.slice A1 n1 c1, .slice A2 n2 c2, .slice A3 n3 c3, .slice A4 n4 c4]) (x := .int .i64 1) rfl rfl rfl (by go_simp) rfl ?_
    rw [HE.out, d.cutA_no HE.out (by decide)]
    exact ⟨_, _, _, _, rfl, H.out.stay (BX.out.set4 _ _ _ _), BX.out.set4 _ _ _ _, .old _ _, .old _ _, .old _ _, .old _ _⟩

end Go.Proofs.Ytlakcldgolpaiaa
