/-
  The document's Cut at any forest.
-/
import Derived.Test.YtlhkajlkapoabaaZLN0
namespace Go.Proofs.Ytlhkajlkapoabaa
open Go.RowKit Go.Maps
set_option linter.unusedVariables false

open Classical in
noncomputable def DF.cutE (d : DF) (v : Int) : Int := if okId v then (if v ∈ ids d.es then 0 else 152) else 1

noncomputable def DF.cutA (d : DF) (v : Int) : DF := if d.cutE v = 0 then ⟨d.vs, d.es.filter (fun e => e.id ≠ v), d.mv, d.me.filter (· ≠ v)⟩ else d

theorem DF.cutA_no (d : DF) {v x : Int} (h : d.cutE v = x) (hx : x ≠ 0) : d.cutA v = d := by unfold DF.cutA; rw [h, if_neg hx]

theorem etD : ElemT 27 33 4 32 := elemT_of (z := .agg #[.int .i64 0, .int .i64 0, .int .i64 0, .int .i64 0]) Try.underlying27 (by kernel_rfl) (by kernel_rfl) (by decide) (by decide) (by decide)

theorem encD_one : ∀ x, ∀ u ∈ encD x, u.oneCell' = true := by
  intro x u hu
  simp only [encD, List.mem_cons, List.not_mem_nil, or_false] at hu
  rcases hu with rfl | rfl | rfl | rfl <;> rfl

theorem oneD (w : World) (e : Eg) : ∀ (j : Nat) u, (encD e)[j]? = some u → (w.alloc (.cells #[.int .i64 e.id, .int .i64 e.u, .int .i64 e.v, .int .i64 (e.w : Int)] 33)).cell? ⟨w.heap.size, j, none⟩ = some u := by
  intro j u hu
  rw [(Blk.new w _ _).cell j]
  simpa [encD] using hu

/-- A net is made at p: its edges so far are L. -/
structure NetS (w wr : World) (q p : Nat) (cs : Array Value) (v0 x : Value) (L : List Eg) : Prop where
  bx : BoxE w wr q 31 cs 31 #[.slice none 0 0, .slice none 0 0, .slice none 0 0, .slice none 0 0]
  nb : Blk wr p 29 #[v0, x]
  lo : q + 1 < p
  row : OK encD 4 33 wr p x L

theorem NetS.push {w wr w4 : World} {q p : Nat} {cs : Array Value} {v0 x v' : Value} {L L' : List Eg} (h : NetS w wr q p cs v0 x L) (hG : wr.grownBy w4 x.ownBlock) (ho : OK encD 4 33 w4 p v' L') : NetS w (w4.setCell ⟨p, 1, none⟩ v') q p cs v0 v' L' := by
  have hlo := h.lo
  have hne : ∀ k, k ≤ p → some k ≠ x.ownBlock := by
    intro k hk e
    have h1 := (h.row.lt k e.symm).1
    obtain rfl : k = p := by omega
    obtain ⟨cs2, h2⟩ := h.row.blk e.symm
    exact absurd rfl (h2.ne_ h.nb (by decide))
  have b0 := h.bx.b0.grown hG (hne q (by omega))
  have b1 := h.bx.b1.grown hG (hne (q + 1) (by omega))
  have nb := h.nb.grown hG (hne p (Nat.le_refl _))
  have bl : Below w.heap.size w w4 := h.bx.below.grown hG h.bx.below.size (fun k hk => by have h1 := (h.row.lt k hk).1; have := h.bx.lo; omega)
  refine ⟨⟨b0.far (p := ⟨p, 1, none⟩) (show q ≠ p by omega) _, b1.far (p := ⟨p, 1, none⟩) (show q + 1 ≠ p by omega) _, bl.setCell (p := ⟨p, 1, none⟩) (show w.heap.size ≤ p by have := h.bx.lo; omega) _, h.bx.lo⟩, by simpa using nb.set_ 1 v', hlo, ho.same fun b hb => Below.heap_setCell _ ⟨p, 1, none⟩ _ _ ?_⟩
  intro e
  have e : b = p := e
  subst e
  obtain ⟨cs2, h2⟩ := ho.blk hb
  exact absurd rfl (h2.ne_ nb (by decide))

theorem edge_take {V : List Eg} {k : Nat} {y : Eg} {P : Eg → Bool} (h : V.take (k + 1) = V.take k ++ [y]) : (V.take (k + 1)).filter P = if P y = true then (V.take k).filter P ++ [y] else (V.take k).filter P := by
  rw [h, List.filter_append]
  by_cases hp : P y = true
  · rw [if_pos hp]; simp [hp]
  · rw [if_neg hp]; simp [hp]

set_option maxRecDepth 100000 in
set_option maxHeartbeats 4000000 in
theorem refCut_any (w : World) (a b c e : Value) (d : DF) (v : Int) (h : DocR w w.heap.size a b c e d) (hd : d.Fit) (hm : d.me.length ≤ 4096) :
    Calls Try.prog 22 #[.agg #[a, b, c, e], .int .i64 v] w fun r w' => DocOut w a b c e (d.cutE v) (d.cutA v) r w' := by
  obtain ⟨A1, c1, rfl, -, -, -, -⟩ := h.vs.open_
  obtain ⟨A2, c2, rfl, -, -, -, HC⟩ := h.es.open_
  obtain ⟨A3, c3, rfl, -, -, -, -⟩ := h.mv.open_
  obtain ⟨A4, c4, rfl, -, -, -, -⟩ := h.me.open_
  obtain ⟨n1, hn1⟩ : ∃ n, n = d.vs.length := ⟨_, rfl⟩
  obtain ⟨n2, hn2⟩ : ∃ n, n = d.es.length := ⟨_, rfl⟩
  obtain ⟨n3, hn3⟩ : ∃ n, n = d.mv.length := ⟨_, rfl⟩
  obtain ⟨n4, hn4⟩ : ∃ n, n = d.me.length := ⟨_, rfl⟩
  rw [← hn1, ← hn2, ← hn3, ← hn4] at h ⊢
  have H := Lib.hid h
  have HF := Lib.hid hd
  have HN := Lib.hid hn1
  have HN2 := Lib.hid hn2
  have hl2 : n2 ≤ 8192 := by rw [hn2]; exact hd.ne
  have HME : Hid (d.me.length ≤ 100000) := Lib.hid (by omega)
  clear h hd hm hn1 hn2 hn3 hn4
  obtain ⟨W, hW⟩ : ∃ W, W = (w.alloc (.cells #[.slice A1 n1 c1, .slice A2 n2 c2, .slice A3 n3 c3, .slice A4 n4 c4] 31)).alloc (.cells zD 31) := ⟨_, rfl⟩
  obtain ⟨q, hq⟩ : ∃ q, q = w.heap.size := ⟨_, rfl⟩
  have hbx := boxE w 31 #[.slice A1 n1 c1, .slice A2 n2 c2, .slice A3 n3 c3, .slice A4 n4 c4] 31 zD
  have hqs : q + 1 < W.heap.size := by rw [hW, hq]; simp
  rw [← hW, ← hq] at hbx
  unfold zD at hW hbx
  have HW := Lib.hid hW
  have HQ := Lib.hid hq
  have HQS := Lib.hid hqs
  have BX := Lib.hid (show BoxE w W q 31 #[.slice A1 n1 c1, .slice A2 n2 c2, .slice A3 n3 c3, .slice A4 n4 c4] 31 #[.slice none 0 0, .slice none 0 0, .slice none 0 0, .slice none 0 0] from hq ▸ hbx)
  clear hW hq hbx hqs
  go_enter Try.func22, Try.ntmps22
  go_upto_region 1 with fail
  rw [← HW.out]
  try simp only [← HQ.out]
  have d0 := BX.out.b0.cell 0
  have d1 := BX.out.b0.cell 1
  have d2 := BX.out.b0.cell 2
  have d3 := BX.out.b0.cell 3
  have dr0 := BX.out.b1.cell 0
  have df0 := BX.out.b1.frozen 0
  have dr1 := BX.out.b1.cell 1
  have df1 := BX.out.b1.frozen 1
  have dr2 := BX.out.b1.cell 2
  have df2 := BX.out.b1.frozen 2
  have dr3 := BX.out.b1.cell 3
  have df3 := BX.out.b1.frozen 3
  have HR := Lib.hid ((H.out.below BX.out.below).more BX.out.below.size)
  go_wp2_with fail
  refine (badId_any v W).mono ?_
  rintro r wx ⟨rfl, hwx⟩
  rw [hwx]
  clear hwx wx
  by_cases h0 : okId v
  · rw [isIdI_yes h0]
    have H0 := Lib.hid h0
    clear h0
    go_wp2_with fail
    refine (refEdge_any W _ _ _ _ d v HR.out HF.out).mono ?_
    obtain ⟨⟨y0, y1, y2, y3⟩, hlk⟩ : ∃ z, z = look d.es v := ⟨_, rfl⟩
    rw [← hlk]
    clear hlk
    rintro r w3 ⟨rfl, b3⟩
    have BX3 := Lib.hid ((BX.out.after b3).after ((Below.refl w3.heap.size w3).alloc (Nat.le_refl _) (Obj.cells #[.int .i64 y0, .int .i64 y1, .int .i64 y2, .int .i64 (y3 : Int)] 33)))
    have Z3 : Hid (q + 1 < w3.heap.size) := Lib.hid (by have := HQS.out; have := b3.size; omega)
    clear d0 d1 d2 d3 dr0 dr1 dr2 dr3 df0 df1 df2 df3
    clear b3
    have d0 := BX3.out.b0.cell 0
    have d1 := BX3.out.b0.cell 1
    have d2 := BX3.out.b0.cell 2
    have d3 := BX3.out.b0.cell 3
    have dr0 := BX3.out.b1.cell 0
    have df0 := BX3.out.b1.frozen 0
    have dr1 := BX3.out.b1.cell 1
    have df1 := BX3.out.b1.frozen 1
    have dr2 := BX3.out.b1.cell 2
    have df2 := BX3.out.b1.frozen 2
    have dr3 := BX3.out.b1.cell 3
    have df3 := BX3.out.b1.frozen 3
    unfold edV
    dsimp only
    go_upto_region 4 with fail
    obtain ⟨W4, hW4⟩ : ∃ W4, W4 = w3.alloc (.cells #[.int .i64 y0, .int .i64 y1, .int .i64 y2, .int .i64 (y3 : Int)] 33) := ⟨_, rfl⟩
    have Z4 : Hid (q + 1 < W4.heap.size) := Lib.hid (by have := Z3.out; rw [hW4]; simp; omega)
    rw [← hW4] at BX3 d0 dr0 df0 d1 dr1 df1 d2 dr2 df2 d3 dr3 df3 ⊢
    clear hW4
    by_cases hin : v ∈ ids d.es
    case neg =>
      have HE : Hid (d.cutE v = 152) := Lib.hid (by unfold DF.cutE; rw [if_pos H0.out, if_neg hin])
      rw [decide_eq_false hin]
      clear hin
      go_wp2_with fail
      refine ret_cell_tmp2 (p := 4) (u := 5) (v := .agg #[.slice A1 n1 c1, .slice A2 n2 c2, .slice A3 n3 c3, .slice A4 n4 c4]) (x := .int .i64 152) rfl rfl rfl (by go_simp) rfl ?_
      rw [HE.out, d.cutA_no HE.out (by decide)]
      exact ⟨_, _, _, _, rfl, H.out.stay (BX3.out.set4 _ _ _ _), BX3.out.set4 _ _ _ _, .old _ _, .old _ _, .old _ _, .old _ _⟩
    case pos =>
    have HE : Hid (d.cutE v = 0) := Lib.hid (by unfold DF.cutE; rw [if_pos H0.out, if_pos hin])
    have HA : Hid (d.cutA v = ⟨d.vs, d.es.filter (fun e => e.id ≠ v), d.mv, d.me.filter (· ≠ v)⟩) := Lib.hid (by unfold DF.cutA; rw [if_pos HE.out])
    rw [decide_eq_true hin]
    clear hin
    go_wp2_with fail
    have HS0 : Hid (NetS w (W4.alloc (.cells #[.slice A1 n1 c1, .slice none 0 0] 29)) q W4.heap.size #[.slice A1 n1 c1, .slice A2 n2 c2, .slice A3 n3 c3, .slice A4 n4 c4] (.slice A1 n1 c1) (.slice none 0 0) []) := Lib.hid ⟨BX3.out.after ((Below.refl _ _).alloc (Nat.le_refl _) _), Blk.new _ _ _, Z4.out, OK.nil _ _⟩
    obtain ⟨p, hp⟩ : ∃ p, p = W4.heap.size := ⟨_, rfl⟩
    rw [← hp] at HS0 ⊢
    clear d0 d1 d2 d3 dr0 dr1 dr2 dr3 df0 df1 df2 df3
    clear hp
    go_loopw [9] (fun i wr => ∃ (k : Nat) (A : Option Addr) (m c : Nat), k ≤ n2 ∧ i = .int .i64 k ∧ Hid (NetS w wr q p #[.slice A1 n1 c1, .slice A2 n2 c2, .slice A3 n3 c3, .slice A4 n4 c4] (.slice A1 n1 c1) (.slice A m c) ((d.es.take k).filter fun e => e.id ≠ v))) (fun i _ => n2 - (intOf i).toNat)
    case atStart => exact ⟨0, none, 0, 0, Nat.zero_le _, rfl, HS0⟩
    case round =>
      clear HS0
      obtain ⟨k, A, m, cc, hk, rfl, HS⟩ := hrel
      have d1 := HS.out.bx.b0.cell 1
      by_cases hkn : k < n2
      · have hkv : k < d.es.length := by have := HN2.out; omega
        obtain ⟨b1, o1, rfl, hb1, hx⟩ := HC.out k hkv
        obtain ⟨⟨id, p1, p2, p3⟩, hy⟩ : ∃ y, y = d.es[k] := ⟨_, rfl⟩
        have HTK := Lib.hid (List.take_succ_eq_append_getElem hkv)
        rw [← hy] at hx HTK
        obtain ⟨x0, x1, x2, x3⟩ := cellD hx
        dsimp only at x0 x1 x2 x3
        have x0 := (HS.out.bx.below.cell (p := ⟨b1, o1 + k * 4, none⟩) hb1).trans x0
        have x1 := (HS.out.bx.below.cell (p := ⟨b1, o1 + k * 4 + 1, none⟩) hb1).trans x1
        have x2 := (HS.out.bx.below.cell (p := ⟨b1, o1 + k * 4 + 2, none⟩) hb1).trans x2
        have x3 := (HS.out.bx.below.cell (p := ⟨b1, o1 + k * 4 + 3, none⟩) hb1).trans x3
        have hkd : decide ((k : Int) < (n2 : Int)) = true := by simpa using hkn
        have hk2 : (k : Int) < (n2 : Int) := by omega
        clear hx hy
        by_cases hiv : id = v
        · subst hiv
          have hid : (id != id) = false := by simp
          go_wp2_with fail
          go_roundw
          case rel =>
            refine ⟨k + 1, A, m, cc, by omega, by go_num, Lib.hid ?_⟩
            rw [edge_take HTK.out, if_neg (by simp)]
            exact HS.out
          case measure => simp [intOf]; omega
        · have hid : (id != v) = true := by simpa using hiv
          have HIV := Lib.hid hiv
          clear hiv
          have n1' := HS.out.nb.cell 1
          have n1a : (wr.alloc (.cells #[.int .i64 id, .int .i64 p1, .int .i64 p2, .int .i64 (p3 : Int)] 33)).cell? ⟨p, 1, none⟩ = some (.slice A m cc) := (((Below.refl _ wr).alloc (Nat.le_refl _) _).cell (p := ⟨p, 1, none⟩) HS.out.nb.lt).trans n1'
          have HL : Hid ((((d.es.take k).filter fun e => e.id ≠ v).length + 1) ≤ 1000000) := Lib.hid (by have h1 := List.length_filter_le (fun e : Eg => decide (e.id ≠ v)) (d.es.take k); have h2 := List.length_take_le k d.es; omega)
          have ROW := Lib.hid HS.out.row
          have PZ : Hid (p < wr.heap.size) := Lib.hid HS.out.nb.lt
          have HG : Hid (∀ w4, (wr.drew.alloc (.cells #[.int .i64 id, .int .i64 p1, .int .i64 p2, .int .i64 (p3 : Int)] 33)).grownBy w4 (Value.slice A m cc).ownBlock → wr.grownBy w4 (Value.slice A m cc).ownBlock) := Lib.hid fun w4 h2 => grownBy_trans (grownBy_below ((Below.refl _ wr).drew.alloc (Nat.le_refl _) _)) h2
          have HNB : Hid (∀ w4, wr.grownBy w4 (Value.slice A m cc).ownBlock → Blk w4 p 29 #[.slice A1 n1 c1, .slice A m cc]) := Lib.hid fun w4 h2 => HS.out.nb.grown h2 (by
            intro e
            obtain ⟨cs2, h3⟩ := HS.out.row.blk e.symm
            exact absurd rfl (h3.ne_ HS.out.nb (by decide)))
          go_wp2_with fail
          go_region_law (first
            | (refine step_app1 etD encD_len encD_one rfl (.tmp 44) (.tmp 51) rfl rfl (ROW.out.drew.alloc _) wr.heap.size rfl (y := (⟨id, p1, p2, p3⟩ : Eg)) (oneD wr ⟨id, p1, p2, p3⟩) HL.out (by have := PZ.out; simp; omega) ?_; intro v' w4 h1 h2 h3; have G4 := Lib.hid (HG.out w4 h2); have e3 := (HNB.out w4 G4.out).cell 1; have e5 := (HNB.out w4 G4.out).frozen 1; obtain ⟨A5, c6, hv2, _, _, _, _⟩ := (h1.rk encD_len (Nat.le_refl _)).open_; have O4 := Lib.hid h1; obtain ⟨n5, hn5⟩ : ∃ n5, n5 = (((d.es.take k).filter fun e => e.id ≠ v) ++ [(⟨id, p1, p2, p3⟩ : Eg)]).length := ⟨_, rfl⟩; rw [← hn5] at hv2; subst hv2; clear hn5 h1 h2 h3))
          all_goals (
            go_wp2_with fail
            go_roundw
            case rel =>
              refine ⟨k + 1, A5, n5, c6, by omega, by go_num, Lib.hid ?_⟩
              rw [edge_take HTK.out, if_pos (by simpa using HIV.out)]
              exact HS.out.push G4.out O4.out
            case measure => simp [intOf]; omega)
      · obtain rfl : k = n2 := by omega
        have hkd : decide ((k : Int) < (k : Int)) = false := by simp
        have HS2 : Hid (NetS w wr q p #[.slice A1 n1 c1, .slice A2 k c2, .slice A3 n3 c3, .slice A4 n4 c4] (.slice A1 n1 c1) (.slice A m cc) (d.es.filter fun e => e.id ≠ v)) := Lib.hid (by
          have := HS.out
          rwa [List.take_of_length_le (by have := HN2.out; omega)] at this)
        have d0 := HS2.out.bx.b0.cell 0
        have d2 := HS2.out.bx.b0.cell 2
        have d3 := HS2.out.bx.b0.cell 3
        have g0 := HS2.out.bx.b0.frozen 0
        have g1 := HS2.out.bx.b0.frozen 1
        have m0 := HS2.out.nb.cell 0
        have m1 := HS2.out.nb.cell 1
        clear HS
        go_wp2_with fail
        have BX5 := Lib.hid (HS2.out.bx.put2 (.slice A1 n1 c1) (.slice A m cc))
        have O5 := Lib.hid (HS2.out.row.same (w' := (wr.setCell ⟨q, 0, none⟩ (.slice A1 n1 c1)).setCell ⟨q, 1, none⟩ (.slice A m cc)) (fun b hb => heap2 (show b ≠ q by have := (HS2.out.row.lt b hb).1; have := HS2.out.lo; omega) _ _))
        have Z5 : Hid (q + 1 < ((wr.setCell ⟨q, 0, none⟩ (.slice A1 n1 c1)).setCell ⟨q, 1, none⟩ (.slice A m cc)).heap.size) := Lib.hid (by have := HS2.out.nb.lt; have := HS2.out.lo; simp; omega)
        have PLO : Hid (q + 1 < p) := Lib.hid HS2.out.lo
        obtain ⟨W5, hW5⟩ : ∃ W5, W5 = (wr.setCell ⟨q, 0, none⟩ (.slice A1 n1 c1)).setCell ⟨q, 1, none⟩ (.slice A m cc) := ⟨_, rfl⟩
        rw [← hW5] at BX5 O5 Z5 ⊢
        clear hW5 d0 d1 d2 d3 g0 g1 m0 m1
        refine (Without_any _ d.me v W5 w.heap.size (H.out.me.below BX5.out.below) BX5.out.below.size HME.out).mono ?_
        rintro r w6 ⟨v6, rfl, o6, b6⟩
        obtain ⟨A6, c6, hv6, -, -, -, -⟩ := (o6.rk encI_len (Nat.le_refl _)).open_
        obtain ⟨n6, hn6⟩ : ∃ n, n = (d.me.filter (· ≠ v)).length := ⟨_, rfl⟩
        rw [← hn6] at hv6
        subst hv6
        have O6 := Lib.hid o6
        have O56 := Lib.hid (O5.out.below b6)
        have BX6 := Lib.hid (BX5.out.after b6)
        clear o6 b6 hn6
        have d0 := BX6.out.b0.cell 0
        have d1 := BX6.out.b0.cell 1
        have d2 := BX6.out.b0.cell 2
        have d3 := BX6.out.b0.cell 3
        have dr0 := BX6.out.b1.cell 0
        have df0 := BX6.out.b1.frozen 0
        have dr1 := BX6.out.b1.cell 1
        have df1 := BX6.out.b1.frozen 1
        have dr2 := BX6.out.b1.cell 2
        have df2 := BX6.out.b1.frozen 2
        have dr3 := BX6.out.b1.cell 3
        have df3 := BX6.out.b1.frozen 3
        have g3 := BX6.out.b0.frozen 3
        go_wp2_with fail
        refine ret_cell_tmp2 (p := 4) (u := 5) (v := .agg #[.slice A1 n1 c1, .slice A m cc, .slice A3 n3 c3, .slice A6 n6 c6]) (x := .int .i64 0) rfl rfl rfl (by go_simp) rfl ?_
        rw [HE.out, HA.out]
        have hlow := below4 (BX6.out.below.setCell (p := ⟨q, 3, none⟩) BX6.out.lo (.slice A6 n6 c6)) (show w.heap.size ≤ q + 1 by have := BX6.out.lo; omega) (.slice A1 n1 c1) (.slice A m cc) (.slice A3 n3 c3) (.slice A6 n6 c6)
        have hold := H.out.stay hlow
        have hn1 := (O56.out.same (fun b hb => heap5 (show b ≠ q by have := (O56.out.lt b hb).1; have := PLO.out; omega) (show b ≠ q + 1 by have := (O56.out.lt b hb).1; have := PLO.out; omega) (.slice A6 n6 c6) 3 (.slice A1 n1 c1) (.slice A m cc) (.slice A3 n3 c3) (.slice A6 n6 c6))).rk encD_len (Nat.le_refl _)
        have hn2 := (O6.out.same (fun b hb => heap5 (show b ≠ q by have := (O6.out.lt b hb).1; have := Z5.out; omega) (show b ≠ q + 1 by have := (O6.out.lt b hb).1; have := Z5.out; omega) (.slice A6 n6 c6) 3 (.slice A1 n1 c1) (.slice A m cc) (.slice A3 n3 c3) (.slice A6 n6 c6))).rk encI_len (Nat.le_refl _)
        exact ⟨_, _, _, _, rfl, ⟨hold.vs, hn1, hold.mv, hn2⟩, hlow, .old _ _, (.inr fun k e => by have h1 := HS2.out.row.blkOf e; have h2 := HS2.out.lo; have h3 := HS2.out.bx.lo; omega), .old _ _, (.inr fun k e => Nat.le_trans BX5.out.below.size (O6.out.blkOf e))⟩
  · rw [isIdI_no h0]
    have HE : Hid (d.cutE v = 1) := Lib.hid (by unfold DF.cutE; rw [if_neg h0])
    clear h0
    go_wp2_with fail
    refine ret_cell_tmp2 (p := 4) (u := 5) (v := .agg #[.slice A1 n1 c1, .slice A2 n2 c2, .slice A3 n3 c3, .slice A4 n4 c4]) (x := .int .i64 1) rfl rfl rfl (by go_simp) rfl ?_
    rw [HE.out, d.cutA_no HE.out (by decide)]
    exact ⟨_, _, _, _, rfl, H.out.stay (BX.out.set4 _ _ _ _), BX.out.set4 _ _ _ _, .old _ _, .old _ _, .old _ _, .old _ _⟩

end Go.Proofs.Ytlhkajlkapoabaa

/-
  The document's Link at any forest.
-/
namespace Go.Proofs.Ytlhkajlkapoabaa
open Go.RowKit Go.Maps
set_option linter.unusedVariables false

/-- An edge put ahead of the first with a greater id. -/
def insE (e : Eg) : List Eg → List Eg
  | [] => [e]
  | x :: r => if e.id < x.id then e :: x :: r else x :: insE e r

theorem insE_cons (e x : Eg) (r : List Eg) : insE e (x :: r) = if e.id < x.id then e :: x :: r else x :: insE e r := rfl

open Classical in
noncomputable def DF.linkE (d : DF) (id u v : Int) : Int := if okId id ∧ okId u ∧ okId v then (if id ∈ ids d.es then 50 else if u ∈ d.vs ∧ v ∈ d.vs then (if v ∈ d.tree u then 151 else 0) else 51) else 1

noncomputable def DF.linkA (d : DF) (id u v : Int) (wt : Nat) : DF := if d.linkE id u v = 0 then ⟨d.vs, insE ⟨id, u, v, wt⟩ d.es, d.mv, d.me⟩ else d

theorem DF.linkA_no (d : DF) {id u v x : Int} {wt : Nat} (h : d.linkE id u v = x) (hx : x ≠ 0) : d.linkA id u v wt = d := by unfold DF.linkA; rw [h, if_neg hx]

/-- The boxes of the forest and of the edge, the result's cell behind them. -/
structure BoxEd (w W : World) (p : Nat) (cs : Array Value) (e : Eg) : Prop where
  b0 : Blk W p 31 cs
  be : Blk W (p + 1) 33 #[.int .i64 e.id, .int .i64 e.u, .int .i64 e.v, .int .i64 (e.w : Int)]
  b1 : Blk W (p + 2) 31 #[.slice none 0 0, .slice none 0 0, .slice none 0 0, .slice none 0 0]
  below : Below w.heap.size w W
  lo : w.heap.size ≤ p

theorem boxEd (w : World) (cs : Array Value) (e : Eg) : BoxEd w (((w.alloc (.cells cs 31)).alloc (.cells #[.int .i64 e.id, .int .i64 e.u, .int .i64 e.v, .int .i64 (e.w : Int)] 33)).alloc (.cells #[.slice none 0 0, .slice none 0 0, .slice none 0 0, .slice none 0 0] 31)) w.heap.size cs e := by
  refine ⟨((Blk.new _ _ _).alloc _).alloc _, ?_, ?_, (((Below.refl _ _).alloc (Nat.le_refl _) _).alloc (by simp) _).alloc (by simp; omega) _, Nat.le_refl _⟩
  · have := (Blk.new (w.alloc (.cells cs 31)) 33 #[.int .i64 e.id, .int .i64 e.u, .int .i64 e.v, .int .i64 (e.w : Int)]).alloc (.cells #[.slice none 0 0, .slice none 0 0, .slice none 0 0, .slice none 0 0] 31)
    simpa using this
  · have := Blk.new ((w.alloc (.cells cs 31)).alloc (.cells #[.int .i64 e.id, .int .i64 e.u, .int .i64 e.v, .int .i64 (e.w : Int)] 33)) 31 #[.slice none 0 0, .slice none 0 0, .slice none 0 0, .slice none 0 0]
    simpa using this

theorem BoxEd.after {w W W' : World} {p : Nat} {cs : Array Value} {e : Eg} (h : BoxEd w W p cs e) (hb : Below W.heap.size W W') : BoxEd w W' p cs e := ⟨h.b0.below hb h.b0.lt, h.be.below hb h.be.lt, h.b1.below hb h.b1.lt, h.below.trans (hb.mono h.below.size), h.lo⟩

theorem BoxEd.set4 {w W : World} {p : Nat} {cs : Array Value} {e : Eg} (h : BoxEd w W p cs e) (a b c d : Value) : Below w.heap.size w ((((W.setCell ⟨p + 2, 0, none⟩ a).setCell ⟨p + 2, 1, none⟩ b).setCell ⟨p + 2, 2, none⟩ c).setCell ⟨p + 2, 3, none⟩ d) := below4 h.below (by have := h.lo; omega) a b c d

theorem BoxEd.put2 {w W : World} {p : Nat} {x0 x1 x2 x3 : Value} {e : Eg} (h : BoxEd w W p #[x0, x1, x2, x3] e) (y0 y1 : Value) : BoxEd w ((W.setCell ⟨p, 0, none⟩ y0).setCell ⟨p, 1, none⟩ y1) p #[y0, y1, x2, x3] e := by
  refine ⟨by simpa using (h.b0.set_ 0 y0).set_ 1 y1, ?_, ?_, below2 h.below h.lo _ _, h.lo⟩
  · have h1 := h.be
    unfold Blk at h1 ⊢
    rw [heap2 (by omega)]
    exact h1
  · have h1 := h.b1
    unfold Blk at h1 ⊢
    rw [heap2 (by omega)]
    exact h1

/-- A net is made at p: its edges so far are L. -/
structure NetEd (w wr : World) (q p : Nat) (cs : Array Value) (e : Eg) (v0 x : Value) (L : List Eg) : Prop where
  bx : BoxEd w wr q cs e
  nb : Blk wr p 29 #[v0, x]
  lo : q + 2 < p
  row : OK encD 4 33 wr p x L

theorem NetEd.ne {w wr : World} {q p : Nat} {cs : Array Value} {e : Eg} {v0 x : Value} {L : List Eg} (h : NetEd w wr q p cs e v0 x L) : ∀ k, k ≤ p → some k ≠ x.ownBlock := by
  intro k hk e
  have h1 := (h.row.lt k e.symm).1
  obtain rfl : k = p := by omega
  obtain ⟨cs2, h2⟩ := h.row.blk e.symm
  exact absurd rfl (h2.ne_ h.nb (by decide))

theorem NetEd.grown {w wr w4 : World} {q p : Nat} {cs : Array Value} {e : Eg} {v0 x : Value} {L : List Eg} (h : NetEd w wr q p cs e v0 x L) (hG : wr.grownBy w4 x.ownBlock) : BoxEd w w4 q cs e ∧ Blk w4 p 29 #[v0, x] := by
  have hlo := h.lo
  exact ⟨⟨h.bx.b0.grown hG (h.ne q (by omega)), h.bx.be.grown hG (h.ne (q + 1) (by omega)), h.bx.b1.grown hG (h.ne (q + 2) (by omega)), h.bx.below.grown hG h.bx.below.size (fun k hk => by have h1 := (h.row.lt k hk).1; have := h.bx.lo; omega), h.bx.lo⟩, h.nb.grown hG (h.ne p (Nat.le_refl _))⟩

theorem NetEd.push {w wr w4 : World} {q p : Nat} {cs : Array Value} {e : Eg} {v0 x v' : Value} {L L' : List Eg} (h : NetEd w wr q p cs e v0 x L) (hG : wr.grownBy w4 x.ownBlock) (ho : OK encD 4 33 w4 p v' L') : NetEd w (w4.setCell ⟨p, 1, none⟩ v') q p cs e v0 v' L' := by
  have hlo := h.lo
  obtain ⟨hb, nb⟩ := h.grown hG
  refine ⟨⟨hb.b0.far (p := ⟨p, 1, none⟩) (show q ≠ p by omega) _, hb.be.far (p := ⟨p, 1, none⟩) (show q + 1 ≠ p by omega) _, hb.b1.far (p := ⟨p, 1, none⟩) (show q + 2 ≠ p by omega) _, hb.below.setCell (p := ⟨p, 1, none⟩) (show w.heap.size ≤ p by have := h.bx.lo; omega) _, h.bx.lo⟩, by simpa using nb.set_ 1 v', hlo, ho.same fun b hb => Below.heap_setCell _ ⟨p, 1, none⟩ _ _ ?_⟩
  intro e
  have e : b = p := e
  subst e
  obtain ⟨cs2, h2⟩ := ho.blk hb
  exact absurd rfl (h2.ne_ nb (by decide))

theorem NetEd.step {w wr w' : World} {q p : Nat} {cs : Array Value} {e : Eg} {v0 x : Value} {L : List Eg} (h : NetEd w wr q p cs e v0 x L) (hb : Below wr.heap.size wr w') : NetEd w w' q p cs e v0 x L := ⟨h.bx.after hb, h.nb.below hb h.nb.lt, h.lo, h.row.below hb⟩

theorem heap42 {W : World} {q b : Nat} (hb : b ≠ q) (hb' : b ≠ q + 2) (x0 x1 y0 y1 y2 y3 : Value) : ((((((W.setCell ⟨q, 0, none⟩ x0).setCell ⟨q, 1, none⟩ x1).setCell ⟨q + 2, 0, none⟩ y0).setCell ⟨q + 2, 1, none⟩ y1).setCell ⟨q + 2, 2, none⟩ y2).setCell ⟨q + 2, 3, none⟩ y3).heap[b]? = W.heap[b]? :=
  (heap4 hb' _ _ _ _).trans (heap2 hb _ _)

theorem insE_len (e : Eg) : ∀ l : List Eg, (insE e l).length = l.length + 1
  | [] => rfl
  | x :: r => by
    rw [insE_cons]
    split
    · rfl
    · rw [List.length_cons, insE_len e r, List.length_cons]

set_option maxRecDepth 100000 in
set_option maxHeartbeats 4000000 in
theorem refLink_any (w : World) (a b c e : Value) (d : DF) (id u v : Int) (wt : Nat) (h : DocR w w.heap.size a b c e d) (hd : d.Fit) :
    Calls Try.prog 35 #[.agg #[a, b, c, e], .agg #[.int .i64 id, .int .i64 u, .int .i64 v, .int .i64 (wt : Int)]] w fun r w' => DocOut w a b c e (d.linkE id u v) (d.linkA id u v wt) r w' := by
  obtain ⟨A1, c1, rfl, -, -, -, -⟩ := h.vs.open_
  obtain ⟨A2, c2, rfl, -, -, -, HC⟩ := h.es.open_
  obtain ⟨A3, c3, rfl, -, -, -, -⟩ := h.mv.open_
  obtain ⟨A4, c4, rfl, -, -, -, -⟩ := h.me.open_
  obtain ⟨n1, hn1⟩ : ∃ n, n = d.vs.length := ⟨_, rfl⟩
  obtain ⟨n2, hn2⟩ : ∃ n, n = d.es.length := ⟨_, rfl⟩
  obtain ⟨n3, hn3⟩ : ∃ n, n = d.mv.length := ⟨_, rfl⟩
  obtain ⟨n4, hn4⟩ : ∃ n, n = d.me.length := ⟨_, rfl⟩
  rw [← hn1, ← hn2, ← hn3, ← hn4] at h ⊢
  have H := Lib.hid h
  have HF := Lib.hid hd
  have HN2 := Lib.hid hn2
  have hl2 : n2 ≤ 8192 := by rw [hn2]; exact hd.ne
  clear h hd hn1 hn2 hn3 hn4
  obtain ⟨W, hW⟩ : ∃ W, W = ((w.alloc (.cells #[.slice A1 n1 c1, .slice A2 n2 c2, .slice A3 n3 c3, .slice A4 n4 c4] 31)).alloc (.cells #[.int .i64 id, .int .i64 u, .int .i64 v, .int .i64 (wt : Int)] 33)).alloc (.cells #[.slice none 0 0, .slice none 0 0, .slice none 0 0, .slice none 0 0] 31) := ⟨_, rfl⟩
  obtain ⟨q, hq⟩ : ∃ q, q = w.heap.size := ⟨_, rfl⟩
  have hbx := boxEd w #[.slice A1 n1 c1, .slice A2 n2 c2, .slice A3 n3 c3, .slice A4 n4 c4] ⟨id, u, v, wt⟩
  dsimp only at hbx
  have hqs : q + 2 < W.heap.size := by rw [hW, hq]; simp
  rw [← hW, ← hq] at hbx
  have HW := Lib.hid hW
  have HQ := Lib.hid hq
  have HQS := Lib.hid hqs
  have BX := Lib.hid (show BoxEd w W q #[.slice A1 n1 c1, .slice A2 n2 c2, .slice A3 n3 c3, .slice A4 n4 c4] ⟨id, u, v, wt⟩ from hq ▸ hbx)
  clear hW hq hbx hqs
  go_enter Try.func35, Try.ntmps35
  go_upto_region 1 with fail
  rw [← HW.out]
  try simp only [← HQ.out]
  have d0 := BX.out.b0.cell 0
  have de0 := BX.out.be.cell 0
  have dr0 := BX.out.b1.cell 0
  have df0 := BX.out.b1.frozen 0
  have d1 := BX.out.b0.cell 1
  have de1 := BX.out.be.cell 1
  have dr1 := BX.out.b1.cell 1
  have df1 := BX.out.b1.frozen 1
  have d2 := BX.out.b0.cell 2
  have de2 := BX.out.be.cell 2
  have dr2 := BX.out.b1.cell 2
  have df2 := BX.out.b1.frozen 2
  have d3 := BX.out.b0.cell 3
  have de3 := BX.out.be.cell 3
  have dr3 := BX.out.b1.cell 3
  have df3 := BX.out.b1.frozen 3
  have HR := Lib.hid ((H.out.below BX.out.below).more BX.out.below.size)
  go_wp2_with fail
  refine (badId_any id W).mono ?_
  rintro r wx ⟨rfl, hwx⟩
  rw [hwx]
  clear hwx wx
  by_cases hid : okId id
  case neg =>
    have HE : Hid (d.linkE id u v = 1) := Lib.hid (by unfold DF.linkE; rw [if_neg (fun e => hid (by first | exact e.1 | exact e.2.1 | exact e.2.2))])
    rw [isIdI_no hid]
    clear hid
    go_wp2_with fail
    refine ret_cell_tmp2 (p := 4) (u := 5) (v := .agg #[.slice A1 n1 c1, .slice A2 n2 c2, .slice A3 n3 c3, .slice A4 n4 c4]) (x := .int .i64 1) rfl rfl rfl (by go_simp) rfl ?_
    rw [HE.out, d.linkA_no HE.out (by decide)]
    exact ⟨_, _, _, _, rfl, H.out.stay (BX.out.set4 _ _ _ _), BX.out.set4 _ _ _ _, .old _ _, .old _ _, .old _ _, .old _ _⟩
  rw [isIdI_yes hid]
  have Oid := Lib.hid hid
  clear hid
  go_wp2_with fail
  refine (badId_any u W).mono ?_
  rintro r wx ⟨rfl, hwx⟩
  rw [hwx]
  clear hwx wx
  by_cases hu : okId u
  case neg =>
    have HE : Hid (d.linkE id u v = 1) := Lib.hid (by unfold DF.linkE; rw [if_neg (fun e => hu (by first | exact e.1 | exact e.2.1 | exact e.2.2))])
    rw [isIdI_no hu]
    clear hu
    go_wp2_with fail
    refine ret_cell_tmp2 (p := 4) (u := 5) (v := .agg #[.slice A1 n1 c1, .slice A2 n2 c2, .slice A3 n3 c3, .slice A4 n4 c4]) (x := .int .i64 1) rfl rfl rfl (by go_simp) rfl ?_
    rw [HE.out, d.linkA_no HE.out (by decide)]
    exact ⟨_, _, _, _, rfl, H.out.stay (BX.out.set4 _ _ _ _), BX.out.set4 _ _ _ _, .old _ _, .old _ _, .old _ _, .old _ _⟩
  rw [isIdI_yes hu]
  have Ou := Lib.hid hu
  clear hu
  go_wp2_with fail
  refine (badId_any v W).mono ?_
  rintro r wx ⟨rfl, hwx⟩
  rw [hwx]
  clear hwx wx
  by_cases hv : okId v
  case neg =>
    have HE : Hid (d.linkE id u v = 1) := Lib.hid (by unfold DF.linkE; rw [if_neg (fun e => hv (by first | exact e.1 | exact e.2.1 | exact e.2.2))])
    rw [isIdI_no hv]
    clear hv
    go_wp2_with fail
    refine ret_cell_tmp2 (p := 4) (u := 5) (v := .agg #[.slice A1 n1 c1, .slice A2 n2 c2, .slice A3 n3 c3, .slice A4 n4 c4]) (x := .int .i64 1) rfl rfl rfl (by go_simp) rfl ?_
    rw [HE.out, d.linkA_no HE.out (by decide)]
    exact ⟨_, _, _, _, rfl, H.out.stay (BX.out.set4 _ _ _ _), BX.out.set4 _ _ _ _, .old _ _, .old _ _, .old _ _, .old _ _⟩
  rw [isIdI_yes hv]
  have Ov := Lib.hid hv
  clear hv
  go_wp2_with fail
  have HOK : Hid (okId id ∧ okId u ∧ okId v) := Lib.hid ⟨Oid.out, Ou.out, Ov.out⟩
  refine (refEdge_any W _ _ _ _ d id HR.out HF.out).mono ?_
  obtain ⟨⟨y0, y1, y2, y3⟩, hlk⟩ : ∃ z, z = look d.es id := ⟨_, rfl⟩
  rw [← hlk]
  clear hlk
  rintro r w3 ⟨rfl, b3⟩
  have BX3 := Lib.hid ((BX.out.after b3).after ((Below.refl w3.heap.size w3).alloc (Nat.le_refl _) (Obj.cells #[.int .i64 y0, .int .i64 y1, .int .i64 y2, .int .i64 (y3 : Int)] 33)))
  have Z3 : Hid (q + 2 < w3.heap.size) := Lib.hid (by have := HQS.out; have := b3.size; omega)
  clear d0 de0 dr0 df0 d1 de1 dr1 df1 d2 de2 dr2 df2 d3 de3 dr3 df3
  clear b3 HR
  have d0 := BX3.out.b0.cell 0
  have de0 := BX3.out.be.cell 0
  have dr0 := BX3.out.b1.cell 0
  have df0 := BX3.out.b1.frozen 0
  have d1 := BX3.out.b0.cell 1
  have de1 := BX3.out.be.cell 1
  have dr1 := BX3.out.b1.cell 1
  have df1 := BX3.out.b1.frozen 1
  have d2 := BX3.out.b0.cell 2
  have de2 := BX3.out.be.cell 2
  have dr2 := BX3.out.b1.cell 2
  have df2 := BX3.out.b1.frozen 2
  have d3 := BX3.out.b0.cell 3
  have de3 := BX3.out.be.cell 3
  have dr3 := BX3.out.b1.cell 3
  have df3 := BX3.out.b1.frozen 3
  unfold edV
  dsimp only
  go_upto_region 4 with fail
  obtain ⟨W4, hW4⟩ : ∃ W4, W4 = w3.alloc (.cells #[.int .i64 y0, .int .i64 y1, .int .i64 y2, .int .i64 (y3 : Int)] 33) := ⟨_, rfl⟩
  have Z4 : Hid (q + 2 < W4.heap.size) := Lib.hid (by have := Z3.out; rw [hW4]; simp; omega)
  rw [← hW4] at BX3 d0 de0 dr0 df0 d1 de1 dr1 df1 d2 de2 dr2 df2 d3 de3 dr3 df3 ⊢
  clear hW4
  have HR := Lib.hid ((H.out.below BX3.out.below).more BX3.out.below.size)
  by_cases hin : id ∈ ids d.es
  case pos =>
    have HE : Hid (d.linkE id u v = 50) := Lib.hid (by unfold DF.linkE; rw [if_pos HOK.out, if_pos hin])
    rw [decide_eq_true hin]
    clear hin
    go_wp2_with fail
    refine ret_cell_tmp2 (p := 4) (u := 5) (v := .agg #[.slice A1 n1 c1, .slice A2 n2 c2, .slice A3 n3 c3, .slice A4 n4 c4]) (x := .int .i64 50) rfl rfl rfl (by go_simp) rfl ?_
    rw [HE.out, d.linkA_no HE.out (by decide)]
    exact ⟨_, _, _, _, rfl, H.out.stay (BX3.out.set4 _ _ _ _), BX3.out.set4 _ _ _ _, .old _ _, .old _ _, .old _ _, .old _ _⟩
  have HIN := Lib.hid hin
  rw [decide_eq_false hin]
  clear hin
  go_wp2_with fail
  refine (has_any _ d.vs W4 W4.heap.size HR.out.vs u).mono ?_
  rintro r wx ⟨rfl, hwx⟩
  rw [hwx]
  clear hwx wx
  by_cases huv : u ∈ d.vs
  case neg =>
    have HE : Hid (d.linkE id u v = 51) := Lib.hid (by unfold DF.linkE; rw [if_pos HOK.out, if_neg HIN.out, if_neg (fun e => huv e.1)])
    rw [decide_eq_false huv]
    clear huv
    go_wp2_with fail
    refine ret_cell_tmp2 (p := 4) (u := 5) (v := .agg #[.slice A1 n1 c1, .slice A2 n2 c2, .slice A3 n3 c3, .slice A4 n4 c4]) (x := .int .i64 51) rfl rfl rfl (by go_simp) rfl ?_
    rw [HE.out, d.linkA_no HE.out (by decide)]
    exact ⟨_, _, _, _, rfl, H.out.stay (BX3.out.set4 _ _ _ _), BX3.out.set4 _ _ _ _, .old _ _, .old _ _, .old _ _, .old _ _⟩
  have HU := Lib.hid huv
  rw [decide_eq_true huv]
  clear huv
  go_wp2_with fail
  refine (has_any _ d.vs W4 W4.heap.size HR.out.vs v).mono ?_
  rintro r wx ⟨rfl, hwx⟩
  rw [hwx]
  clear hwx wx
  by_cases hvv : v ∈ d.vs
  case neg =>
    have HE : Hid (d.linkE id u v = 51) := Lib.hid (by unfold DF.linkE; rw [if_pos HOK.out, if_neg HIN.out, if_neg (fun e => hvv e.2)])
    rw [decide_eq_false hvv]
    clear hvv
    go_wp2_with fail
    refine ret_cell_tmp2 (p := 4) (u := 5) (v := .agg #[.slice A1 n1 c1, .slice A2 n2 c2, .slice A3 n3 c3, .slice A4 n4 c4]) (x := .int .i64 51) rfl rfl rfl (by go_simp) rfl ?_
    rw [HE.out, d.linkA_no HE.out (by decide)]
    exact ⟨_, _, _, _, rfl, H.out.stay (BX3.out.set4 _ _ _ _), BX3.out.set4 _ _ _ _, .old _ _, .old _ _, .old _ _, .old _ _⟩
  have HV := Lib.hid hvv
  rw [decide_eq_true hvv]
  clear hvv
  go_wp2_with fail
  refine (refJoined_any W4 _ _ _ _ d u v HR.out HF.out).mono ?_
  rintro r w7 ⟨rfl, b7⟩
  have BX7 := Lib.hid (BX3.out.after b7)
  have Z7 : Hid (q + 2 < w7.heap.size) := Lib.hid (by have := Z4.out; have := b7.size; omega)
  clear d0 de0 dr0 df0 d1 de1 dr1 df1 d2 de2 dr2 df2 d3 de3 dr3 df3
  clear b7 HR BX3
  have d0 := BX7.out.b0.cell 0
  have de0 := BX7.out.be.cell 0
  have dr0 := BX7.out.b1.cell 0
  have df0 := BX7.out.b1.frozen 0
  have d1 := BX7.out.b0.cell 1
  have de1 := BX7.out.be.cell 1
  have dr1 := BX7.out.b1.cell 1
  have df1 := BX7.out.b1.frozen 1
  have d2 := BX7.out.b0.cell 2
  have de2 := BX7.out.be.cell 2
  have dr2 := BX7.out.b1.cell 2
  have df2 := BX7.out.b1.frozen 2
  have d3 := BX7.out.b0.cell 3
  have de3 := BX7.out.be.cell 3
  have dr3 := BX7.out.b1.cell 3
  have df3 := BX7.out.b1.frozen 3
  by_cases hj : v ∈ d.tree u
  case pos =>
    have HE : Hid (d.linkE id u v = 151) := Lib.hid (by unfold DF.linkE; rw [if_pos HOK.out, if_neg HIN.out, if_pos ⟨HU.out, HV.out⟩, if_pos hj])
    rw [decide_eq_true hj]
    clear hj
    go_wp2_with fail
    refine ret_cell_tmp2 (p := 4) (u := 5) (v := .agg #[.slice A1 n1 c1, .slice A2 n2 c2, .slice A3 n3 c3, .slice A4 n4 c4]) (x := .int .i64 151) rfl rfl rfl (by go_simp) rfl ?_
    rw [HE.out, d.linkA_no HE.out (by decide)]
    exact ⟨_, _, _, _, rfl, H.out.stay (BX7.out.set4 _ _ _ _), BX7.out.set4 _ _ _ _, .old _ _, .old _ _, .old _ _, .old _ _⟩
  have HE : Hid (d.linkE id u v = 0) := Lib.hid (by unfold DF.linkE; rw [if_pos HOK.out, if_neg HIN.out, if_pos ⟨HU.out, HV.out⟩, if_neg hj])
  have HA : Hid (d.linkA id u v wt = ⟨d.vs, insE ⟨id, u, v, wt⟩ d.es, d.mv, d.me⟩) := Lib.hid (by unfold DF.linkA; rw [if_pos HE.out])
  rw [decide_eq_false hj]
  clear hj
  go_wp2_with fail
  have HS0 : Hid (NetEd w (w7.alloc (.cells #[.slice A1 n1 c1, .slice none 0 0] 29)) q w7.heap.size #[.slice A1 n1 c1, .slice A2 n2 c2, .slice A3 n3 c3, .slice A4 n4 c4] ⟨id, u, v, wt⟩ (.slice A1 n1 c1) (.slice none 0 0) []) := Lib.hid ⟨BX7.out.after ((Below.refl _ _).alloc (Nat.le_refl _) _), Blk.new _ _ _, Z7.out, OK.nil _ _⟩
  obtain ⟨p, hp⟩ : ∃ p, p = w7.heap.size := ⟨_, rfl⟩
  rw [← hp] at HS0 ⊢
  clear d0 de0 dr0 df0 d1 de1 dr1 df1 d2 de2 dr2 df2 d3 de3 dr3 df3
  clear hp
  go_loopw [9, 10] (fun t i wr => ∃ (k : Nat) (b : Bool) (O : List Eg) (A : Option Addr) (m c : Nat), k ≤ n2 ∧ i = .int .i64 k ∧ t = .bool b ∧ Hid (O ++ (if b then d.es.drop k else insE ⟨id, u, v, wt⟩ (d.es.drop k)) = insE ⟨id, u, v, wt⟩ d.es) ∧ Hid (O.length ≤ 2 * k) ∧ Hid (NetEd w wr q p #[.slice A1 n1 c1, .slice A2 n2 c2, .slice A3 n3 c3, .slice A4 n4 c4] ⟨id, u, v, wt⟩ (.slice A1 n1 c1) (.slice A m c) O)) (fun _ i _ => n2 - (intOf i).toNat)
  case atStart => exact ⟨0, false, [], none, 0, 0, Nat.zero_le _, rfl, rfl, Lib.hid (by simp), Lib.hid (by simp), HS0⟩
  case round =>
    clear HS0
    obtain ⟨k, b, O, A, m, cc, hk, rfl, rfl, HI, HLN, HS⟩ := hrel
    have d1 := HS.out.bx.b0.cell 1
    have de0 := HS.out.bx.be.cell 0
    have de1 := HS.out.bx.be.cell 1
    have de2 := HS.out.bx.be.cell 2
    have de3 := HS.out.bx.be.cell 3
    dsimp only at de0 de1 de2 de3
    by_cases hkn : k < n2
    · have hkv : k < d.es.length := by have := HN2.out; omega
      obtain ⟨b1, o1, rfl, hb1, hx⟩ := HC.out k hkv
      obtain ⟨⟨xi, p1, p2, p3⟩, hy⟩ : ∃ y, y = d.es[k] := ⟨_, rfl⟩
      have HD : Hid (d.es.drop k = ⟨xi, p1, p2, p3⟩ :: d.es.drop (k + 1)) := Lib.hid (by rw [List.drop_eq_getElem_cons hkv, ← hy])
      rw [← hy] at hx
      obtain ⟨z0, z1, z2, z3⟩ := cellD hx
      dsimp only at z0 z1 z2 z3
      have hkd : decide ((k : Int) < (n2 : Int)) = true := by simpa using hkn
      have hk2 : (k : Int) < (n2 : Int) := by omega
      clear hx hy
      have HXS : Hid (∀ W', Below w.heap.size w W' → W'.cell? ⟨b1, o1 + k * 4, none⟩ = some (.int .i64 xi) ∧ W'.cell? ⟨b1, o1 + k * 4 + 1, none⟩ = some (.int .i64 p1) ∧ W'.cell? ⟨b1, o1 + k * 4 + 2, none⟩ = some (.int .i64 p2) ∧ W'.cell? ⟨b1, o1 + k * 4 + 3, none⟩ = some (.int .i64 (p3 : Int))) := Lib.hid fun W' hb => ⟨(hb.cell (p := ⟨b1, o1 + k * 4, none⟩) hb1).trans z0, (hb.cell (p := ⟨b1, o1 + k * 4 + 1, none⟩) hb1).trans z1, (hb.cell (p := ⟨b1, o1 + k * 4 + 2, none⟩) hb1).trans z2, (hb.cell (p := ⟨b1, o1 + k * 4 + 3, none⟩) hb1).trans z3⟩
      obtain ⟨x0, x1, x2, x3⟩ := HXS.out _ HS.out.bx.below
      clear z0 z1 z2 z3
      cases b with
      | true =>
        have HI2 : Hid (O ++ (⟨xi, p1, p2, p3⟩ :: d.es.drop (k + 1)) = insE ⟨id, u, v, wt⟩ d.es) := Lib.hid (by
          have hI := HI.out
          rw [if_pos rfl, HD.out] at hI
          exact hI)
        go_wp2_with fail
        go_quiet (fail)
        have HSd := Lib.hid (HS.out.step (below_drewN (Below.refl _ wr) nq))
        obtain ⟨wd, hwd⟩ : ∃ wd, wd = wr.drewN nq := ⟨_, rfl⟩
        rw [← hwd] at HSd ⊢
        clear hwd d1 de0 de1 de2 de3 x0 x1 x2 x3 HS
        go_wp2_with fail
        obtain ⟨x0, x1, x2, x3⟩ := HXS.out _ HSd.out.bx.below
        have d1 := HSd.out.bx.b0.cell 1
        have n1' := HSd.out.nb.cell 1
        have n1a : (wd.alloc (.cells #[.int .i64 xi, .int .i64 p1, .int .i64 p2, .int .i64 (p3 : Int)] 33)).cell? ⟨p, 1, none⟩ = some (.slice A m cc) := (((Below.refl _ wd).alloc (Nat.le_refl _) _).cell (p := ⟨p, 1, none⟩) HSd.out.nb.lt).trans n1'
        have HL18 : Hid ((O).length + 1 ≤ 1000000) := Lib.hid (by have := HLN.out; simp; omega)
        have ROW18 := Lib.hid HSd.out.row
        have PZ18 : Hid (p < wd.heap.size) := Lib.hid HSd.out.nb.lt
        have HG18 : Hid (∀ w4, (wd.drew.alloc (.cells #[.int .i64 xi, .int .i64 p1, .int .i64 p2, .int .i64 (p3 : Int)] 33)).grownBy w4 (Value.slice A m cc).ownBlock → wd.grownBy w4 (Value.slice A m cc).ownBlock) := Lib.hid fun w4 h2 => grownBy_trans (grownBy_below ((Below.refl _ wd).drew.alloc (Nat.le_refl _) _)) h2
        have HNB18 : Hid (∀ w4, wd.grownBy w4 (Value.slice A m cc).ownBlock → Blk w4 p 29 #[.slice A1 n1 c1, .slice A m cc]) := Lib.hid fun w4 h2 => (HSd.out.grown h2).2
        go_region_law (first
          | (refine step_app1 etD encD_len encD_one rfl (.tmp 91) (.tmp 98) rfl rfl (ROW18.out.drew.alloc _) wd.heap.size rfl (y := (⟨xi, p1, p2, p3⟩ : Eg)) (oneD wd ⟨xi, p1, p2, p3⟩) HL18.out (by have := PZ18.out; simp; omega) ?_; intro v' w4 h1 h2 h3; have G4 := Lib.hid (HG18.out w4 h2); have e3 := (HNB18.out w4 G4.out).cell 1; have e5 := (HNB18.out w4 G4.out).frozen 1; obtain ⟨A7, c7, hv2, _, _, _, _⟩ := (h1.rk encD_len (Nat.le_refl _)).open_; have O4 := Lib.hid h1; obtain ⟨n7, hn7⟩ : ∃ n7, n7 = (O ++ [(⟨xi, p1, p2, p3⟩ : Eg)]).length := ⟨_, rfl⟩; rw [← hn7] at hv2; subst hv2; clear hn7 h1 h2 h3))
        all_goals (
          go_wp2_with fail
          go_roundw
          case rel =>
            refine ⟨k + 1, true, O ++ [(⟨xi, p1, p2, p3⟩ : Eg)], A7, n7, c7, by omega, by go_num, rfl, Lib.hid ?_, Lib.hid (by have := HLN.out; simp; omega), Lib.hid (HSd.out.push G4.out O4.out)⟩
            rw [if_pos rfl, List.append_assoc]; exact HI2.out
          case measure => simp [intOf]; omega)
      | false =>
        by_cases hlt : id < xi
        · have hld : decide (id < xi) = true := by simpa using hlt
          have HI2 : Hid (O ++ ((⟨id, u, v, wt⟩ : Eg) :: ⟨xi, p1, p2, p3⟩ :: d.es.drop (k + 1)) = insE ⟨id, u, v, wt⟩ d.es) := Lib.hid (by
            have hI := HI.out
            rw [if_neg (by decide), HD.out, insE_cons, if_pos hlt] at hI
            exact hI)
          clear hlt
          go_wp2_with fail
          go_quiet (fail)
          have HSd := Lib.hid (HS.out.step (below_drewN (Below.refl _ wr) nq))
          obtain ⟨wd, hwd⟩ : ∃ wd, wd = wr.drewN nq := ⟨_, rfl⟩
          rw [← hwd] at HSd ⊢
          clear hwd d1 de0 de1 de2 de3 x0 x1 x2 x3 HS
          have de0 := HSd.out.bx.be.cell 0
          have de1 := HSd.out.bx.be.cell 1
          have de2 := HSd.out.bx.be.cell 2
          have de3 := HSd.out.bx.be.cell 3
          dsimp only at de0 de1 de2 de3
          have n1' := HSd.out.nb.cell 1
          have HL16 : Hid (O.length + 1 ≤ 1000000) := Lib.hid (by have := HLN.out; omega)
          have ROW16 := Lib.hid HSd.out.row
          have PZ16 : Hid (p < wd.heap.size) := Lib.hid HSd.out.nb.lt
          have HG16 : Hid (∀ w4, (wd.alloc (.cells #[.int .i64 id, .int .i64 u, .int .i64 v, .int .i64 (wt : Int)] 33)).grownBy w4 (Value.slice A m cc).ownBlock → wd.grownBy w4 (Value.slice A m cc).ownBlock) := Lib.hid fun w4 h2 => grownBy_trans (grownBy_below ((Below.refl _ wd).alloc (Nat.le_refl _) _)) h2
          have HNB16 : Hid (∀ w4, wd.grownBy w4 (Value.slice A m cc).ownBlock → Blk w4 p 29 #[.slice A1 n1 c1, .slice A m cc]) := Lib.hid fun w4 h2 => (HSd.out.grown h2).2
          go_wp2_with (at_builtin; refine wpList_appE etD encD_len encD_one (y := (⟨id, u, v, wt⟩ : Eg)) rfl (.tmp 85) (.tmp 87) rfl rfl (ROW16.out.alloc _) wd.heap.size rfl (oneD wd ⟨id, u, v, wt⟩) HL16.out (by have := PZ16.out; simp; omega) ?_; intro v' w5 h1 h2 h3; have G5 := Lib.hid (HG16.out w5 h2); have e3 := (HNB16.out w5 G5.out).cell 1; have e5 := (HNB16.out w5 G5.out).frozen 1; obtain ⟨A5, c5, hv2, _, _, _, _⟩ := (h1.rk encD_len (Nat.le_refl _)).open_; have O5 := Lib.hid h1; obtain ⟨n5, hn5⟩ : ∃ n5, n5 = (O ++ [(⟨id, u, v, wt⟩ : Eg)]).length := ⟨_, rfl⟩; rw [← hn5] at hv2; subst hv2; clear hn5 h1 h2 h3)
          have HS5 := Lib.hid (HSd.out.push G5.out O5.out)
          obtain ⟨W5, hW5⟩ : ∃ W5, W5 = w5.setCell ⟨p, 1, none⟩ (.slice A5 n5 c5) := ⟨_, rfl⟩
          rw [← hW5] at HS5 ⊢
          clear hW5 e3 e5 n1' de0 de1 de2 de3 ROW16 PZ16 HG16 HNB16 HSd
          obtain ⟨x0, x1, x2, x3⟩ := HXS.out _ HS5.out.bx.below
          have d1 := HS5.out.bx.b0.cell 1
          have n1' := HS5.out.nb.cell 1
          have n1a : (W5.alloc (.cells #[.int .i64 xi, .int .i64 p1, .int .i64 p2, .int .i64 (p3 : Int)] 33)).cell? ⟨p, 1, none⟩ = some (.slice A5 n5 c5) := (((Below.refl _ W5).alloc (Nat.le_refl _) _).cell (p := ⟨p, 1, none⟩) HS5.out.nb.lt).trans n1'
          have HL18 : Hid ((O ++ [(⟨id, u, v, wt⟩ : Eg)]).length + 1 ≤ 1000000) := Lib.hid (by have := HLN.out; simp; omega)
          have ROW18 := Lib.hid HS5.out.row
          have PZ18 : Hid (p < W5.heap.size) := Lib.hid HS5.out.nb.lt
          have HG18 : Hid (∀ w4, (W5.drew.alloc (.cells #[.int .i64 xi, .int .i64 p1, .int .i64 p2, .int .i64 (p3 : Int)] 33)).grownBy w4 (Value.slice A5 n5 c5).ownBlock → W5.grownBy w4 (Value.slice A5 n5 c5).ownBlock) := Lib.hid fun w4 h2 => grownBy_trans (grownBy_below ((Below.refl _ W5).drew.alloc (Nat.le_refl _) _)) h2
          have HNB18 : Hid (∀ w4, W5.grownBy w4 (Value.slice A5 n5 c5).ownBlock → Blk w4 p 29 #[.slice A1 n1 c1, .slice A5 n5 c5]) := Lib.hid fun w4 h2 => (HS5.out.grown h2).2
          go_region_law (first
            | (refine step_app1 etD encD_len encD_one rfl (.tmp 91) (.tmp 98) rfl rfl (ROW18.out.drew.alloc _) W5.heap.size rfl (y := (⟨xi, p1, p2, p3⟩ : Eg)) (oneD W5 ⟨xi, p1, p2, p3⟩) HL18.out (by have := PZ18.out; simp; omega) ?_; intro v' w4 h1 h2 h3; have G4 := Lib.hid (HG18.out w4 h2); have e3 := (HNB18.out w4 G4.out).cell 1; have e5 := (HNB18.out w4 G4.out).frozen 1; obtain ⟨A7, c7, hv2, _, _, _, _⟩ := (h1.rk encD_len (Nat.le_refl _)).open_; have O4 := Lib.hid h1; obtain ⟨n7, hn7⟩ : ∃ n7, n7 = (O ++ [(⟨id, u, v, wt⟩ : Eg)] ++ [(⟨xi, p1, p2, p3⟩ : Eg)]).length := ⟨_, rfl⟩; rw [← hn7] at hv2; subst hv2; clear hn7 h1 h2 h3))
          all_goals (
            go_wp2_with fail
            go_roundw
            case rel =>
              refine ⟨k + 1, true, O ++ [(⟨id, u, v, wt⟩ : Eg)] ++ [(⟨xi, p1, p2, p3⟩ : Eg)], A7, n7, c7, by omega, by go_num, rfl, Lib.hid ?_, Lib.hid (by have := HLN.out; simp; omega), Lib.hid (HS5.out.push G4.out O4.out)⟩
              rw [if_pos rfl, List.append_assoc, List.append_assoc]; exact HI2.out
            case measure => simp [intOf]; omega)
        · have hld : decide (id < xi) = false := by simpa using hlt
          have HI2 : Hid (O ++ (⟨xi, p1, p2, p3⟩ :: insE ⟨id, u, v, wt⟩ (d.es.drop (k + 1))) = insE ⟨id, u, v, wt⟩ d.es) := Lib.hid (by
            have hI := HI.out
            rw [if_neg (by decide), HD.out, insE_cons, if_neg hlt] at hI
            exact hI)
          clear hlt
          go_wp2_with fail
          go_quiet (fail)
          have HSd := Lib.hid (HS.out.step (below_drewN (Below.refl _ wr) nq))
          obtain ⟨wd, hwd⟩ : ∃ wd, wd = wr.drewN nq := ⟨_, rfl⟩
          rw [← hwd] at HSd ⊢
          clear hwd d1 de0 de1 de2 de3 x0 x1 x2 x3 HS
          go_wp2_with fail
          obtain ⟨x0, x1, x2, x3⟩ := HXS.out _ HSd.out.bx.below
          have d1 := HSd.out.bx.b0.cell 1
          have n1' := HSd.out.nb.cell 1
          have n1a : (wd.alloc (.cells #[.int .i64 xi, .int .i64 p1, .int .i64 p2, .int .i64 (p3 : Int)] 33)).cell? ⟨p, 1, none⟩ = some (.slice A m cc) := (((Below.refl _ wd).alloc (Nat.le_refl _) _).cell (p := ⟨p, 1, none⟩) HSd.out.nb.lt).trans n1'
          have HL18 : Hid ((O).length + 1 ≤ 1000000) := Lib.hid (by have := HLN.out; simp; omega)
          have ROW18 := Lib.hid HSd.out.row
          have PZ18 : Hid (p < wd.heap.size) := Lib.hid HSd.out.nb.lt
          have HG18 : Hid (∀ w4, (wd.drew.alloc (.cells #[.int .i64 xi, .int .i64 p1, .int .i64 p2, .int .i64 (p3 : Int)] 33)).grownBy w4 (Value.slice A m cc).ownBlock → wd.grownBy w4 (Value.slice A m cc).ownBlock) := Lib.hid fun w4 h2 => grownBy_trans (grownBy_below ((Below.refl _ wd).drew.alloc (Nat.le_refl _) _)) h2
          have HNB18 : Hid (∀ w4, wd.grownBy w4 (Value.slice A m cc).ownBlock → Blk w4 p 29 #[.slice A1 n1 c1, .slice A m cc]) := Lib.hid fun w4 h2 => (HSd.out.grown h2).2
          go_region_law (first
            | (refine step_app1 etD encD_len encD_one rfl (.tmp 91) (.tmp 98) rfl rfl (ROW18.out.drew.alloc _) wd.heap.size rfl (y := (⟨xi, p1, p2, p3⟩ : Eg)) (oneD wd ⟨xi, p1, p2, p3⟩) HL18.out (by have := PZ18.out; simp; omega) ?_; intro v' w4 h1 h2 h3; have G4 := Lib.hid (HG18.out w4 h2); have e3 := (HNB18.out w4 G4.out).cell 1; have e5 := (HNB18.out w4 G4.out).frozen 1; obtain ⟨A7, c7, hv2, _, _, _, _⟩ := (h1.rk encD_len (Nat.le_refl _)).open_; have O4 := Lib.hid h1; obtain ⟨n7, hn7⟩ : ∃ n7, n7 = (O ++ [(⟨xi, p1, p2, p3⟩ : Eg)]).length := ⟨_, rfl⟩; rw [← hn7] at hv2; subst hv2; clear hn7 h1 h2 h3))
          all_goals (
            go_wp2_with fail
            go_roundw
            case rel =>
              refine ⟨k + 1, false, O ++ [(⟨xi, p1, p2, p3⟩ : Eg)], A7, n7, c7, by omega, by go_num, rfl, Lib.hid ?_, Lib.hid (by have := HLN.out; simp; omega), Lib.hid (HSd.out.push G4.out O4.out)⟩
              rw [if_neg (by decide), List.append_assoc]; exact HI2.out
            case measure => simp [intOf]; omega)
    · obtain rfl : k = n2 := by omega
      have hkd : decide ((k : Int) < (k : Int)) = false := by simp
      have HNIL : Hid (d.es.drop k = []) := Lib.hid (List.drop_eq_nil_of_le (by have := HN2.out; omega))
      cases b with
      | true =>
        have HS2 : Hid (NetEd w wr q p #[.slice A1 n1 c1, .slice A2 k c2, .slice A3 n3 c3, .slice A4 n4 c4] ⟨id, u, v, wt⟩ (.slice A1 n1 c1) (.slice A m cc) (insE ⟨id, u, v, wt⟩ d.es)) := Lib.hid (by
          have hI := HI.out
          rw [if_pos rfl, HNIL.out, List.append_nil] at hI
          rw [← hI]
          exact HS.out)
        clear HS HI d1 de0 de1 de2 de3
        have d0 := HS2.out.bx.b0.cell 0
        have d1 := HS2.out.bx.b0.cell 1
        have d2 := HS2.out.bx.b0.cell 2
        have d3 := HS2.out.bx.b0.cell 3
        have g0 := HS2.out.bx.b0.frozen 0
        have g1 := HS2.out.bx.b0.frozen 1
        have m0 := HS2.out.nb.cell 0
        have m1 := HS2.out.nb.cell 1
        have dr0 := HS2.out.bx.b1.cell 0
        have df0 := HS2.out.bx.b1.frozen 0
        have dr1 := HS2.out.bx.b1.cell 1
        have df1 := HS2.out.bx.b1.frozen 1
        have dr2 := HS2.out.bx.b1.cell 2
        have df2 := HS2.out.bx.b1.frozen 2
        have dr3 := HS2.out.bx.b1.cell 3
        have df3 := HS2.out.bx.b1.frozen 3
        go_wp2_with fail
        refine ret_cell_tmp2 (p := 4) (u := 5) (v := .agg #[.slice A1 n1 c1, .slice A m cc, .slice A3 n3 c3, .slice A4 n4 c4]) (x := .int .i64 0) rfl rfl rfl (by go_simp) rfl ?_
        rw [HE.out, HA.out]
        have hlow := below4 (below2 HS2.out.bx.below HS2.out.bx.lo (.slice A1 n1 c1) (.slice A m cc)) (show w.heap.size ≤ q + 2 by have := HS2.out.bx.lo; omega) (.slice A1 n1 c1) (.slice A m cc) (.slice A3 n3 c3) (.slice A4 n4 c4)
        have hold := H.out.stay hlow
        have hn1 := (HS2.out.row.same (fun b hb => heap42 (show b ≠ q by have := (HS2.out.row.lt b hb).1; have := HS2.out.lo; omega) (show b ≠ q + 2 by have := (HS2.out.row.lt b hb).1; have := HS2.out.lo; omega) (.slice A1 n1 c1) (.slice A m cc) (.slice A1 n1 c1) (.slice A m cc) (.slice A3 n3 c3) (.slice A4 n4 c4))).rk encD_len (Nat.le_refl _)
        exact ⟨_, _, _, _, rfl, ⟨hold.vs, hn1, hold.mv, hold.me⟩, hlow, .old _ _, (.inr fun k e => by have h1 := HS2.out.row.blkOf e; have h2 := HS2.out.lo; have h3 := HS2.out.bx.lo; omega), .old _ _, .old _ _⟩
      | false =>
        have HI2 : Hid (O ++ [(⟨id, u, v, wt⟩ : Eg)] = insE ⟨id, u, v, wt⟩ d.es) := Lib.hid (by
          have hI := HI.out
          rw [if_neg (by decide), HNIL.out] at hI
          exact hI)
        have n1' := HS.out.nb.cell 1
        have HL16 : Hid (O.length + 1 ≤ 1000000) := Lib.hid (by have := HLN.out; omega)
        have ROW16 := Lib.hid HS.out.row
        have PZ16 : Hid (p < wr.heap.size) := Lib.hid HS.out.nb.lt
        have HG16 : Hid (∀ w4, (wr.alloc (.cells #[.int .i64 id, .int .i64 u, .int .i64 v, .int .i64 (wt : Int)] 33)).grownBy w4 (Value.slice A m cc).ownBlock → wr.grownBy w4 (Value.slice A m cc).ownBlock) := Lib.hid fun w4 h2 => grownBy_trans (grownBy_below ((Below.refl _ wr).alloc (Nat.le_refl _) _)) h2
        have HNB16 : Hid (∀ w4, wr.grownBy w4 (Value.slice A m cc).ownBlock → Blk w4 p 29 #[.slice A1 n1 c1, .slice A m cc]) := Lib.hid fun w4 h2 => (HS.out.grown h2).2
        go_upto_region 21 with (at_builtin; refine wpList_appE etD encD_len encD_one (y := (⟨id, u, v, wt⟩ : Eg)) rfl (.tmp 104) (.tmp 106) rfl rfl (ROW16.out.alloc _) wr.heap.size rfl (oneD wr ⟨id, u, v, wt⟩) HL16.out (by have := PZ16.out; simp; omega) ?_; intro v' w5 h1 h2 h3; have G5 := Lib.hid (HG16.out w5 h2); have e3 := (HNB16.out w5 G5.out).cell 1; have e5 := (HNB16.out w5 G5.out).frozen 1; obtain ⟨A5, c5, hv2, _, _, _, _⟩ := (h1.rk encD_len (Nat.le_refl _)).open_; have O5 := Lib.hid h1; obtain ⟨n5, hn5⟩ : ∃ n5, n5 = (O ++ [(⟨id, u, v, wt⟩ : Eg)]).length := ⟨_, rfl⟩; rw [← hn5] at hv2; subst hv2; clear hn5 h1 h2 h3)
        have HS2 := Lib.hid (HS.out.push G5.out O5.out)
        rw [HI2.out] at HS2
        obtain ⟨W5, hW5⟩ : ∃ W5, W5 = w5.setCell ⟨p, 1, none⟩ (.slice A5 n5 c5) := ⟨_, rfl⟩
        rw [← hW5] at HS2 ⊢
        clear hW5 e3 e5 n1' d1 de0 de1 de2 de3 ROW16 PZ16 HG16 HNB16 HS
        have d0 := HS2.out.bx.b0.cell 0
        have d1 := HS2.out.bx.b0.cell 1
        have d2 := HS2.out.bx.b0.cell 2
        have d3 := HS2.out.bx.b0.cell 3
        have g0 := HS2.out.bx.b0.frozen 0
        have g1 := HS2.out.bx.b0.frozen 1
        have m0 := HS2.out.nb.cell 0
        have m1 := HS2.out.nb.cell 1
        have dr0 := HS2.out.bx.b1.cell 0
        have df0 := HS2.out.bx.b1.frozen 0
        have dr1 := HS2.out.bx.b1.cell 1
        have df1 := HS2.out.bx.b1.frozen 1
        have dr2 := HS2.out.bx.b1.cell 2
        have df2 := HS2.out.bx.b1.frozen 2
        have dr3 := HS2.out.bx.b1.cell 3
        have df3 := HS2.out.bx.b1.frozen 3
        go_wp2_with fail
        refine ret_cell_tmp2 (p := 4) (u := 5) (v := .agg #[.slice A1 n1 c1, .slice A5 n5 c5, .slice A3 n3 c3, .slice A4 n4 c4]) (x := .int .i64 0) rfl rfl rfl (by go_simp) rfl ?_
        rw [HE.out, HA.out]
        have hlow := below4 (below2 HS2.out.bx.below HS2.out.bx.lo (.slice A1 n1 c1) (.slice A5 n5 c5)) (show w.heap.size ≤ q + 2 by have := HS2.out.bx.lo; omega) (.slice A1 n1 c1) (.slice A5 n5 c5) (.slice A3 n3 c3) (.slice A4 n4 c4)
        have hold := H.out.stay hlow
        have hn1 := (HS2.out.row.same (fun b hb => heap42 (show b ≠ q by have := (HS2.out.row.lt b hb).1; have := HS2.out.lo; omega) (show b ≠ q + 2 by have := (HS2.out.row.lt b hb).1; have := HS2.out.lo; omega) (.slice A1 n1 c1) (.slice A5 n5 c5) (.slice A1 n1 c1) (.slice A5 n5 c5) (.slice A3 n3 c3) (.slice A4 n4 c4))).rk encD_len (Nat.le_refl _)
        exact ⟨_, _, _, _, rfl, ⟨hold.vs, hn1, hold.mv, hold.me⟩, hlow, .old _ _, (.inr fun k e => by have h1 := HS2.out.row.blkOf e; have h2 := HS2.out.lo; have h3 := HS2.out.bx.lo; omega), .old _ _, .old _ _⟩

end Go.Proofs.Ytlhkajlkapoabaa
