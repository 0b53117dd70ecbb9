/-
  skeinref05's Without.
-/
import Derived.Test.YtlakcldgolpaiaaZEL8
import Derived.Test.YtlakcldgolpaiaaAP
import Derived.Test.YtlakcldgolpaiaaZEL10
namespace Go.Proofs.Ytlakcldgolpaiaa
open Go.RowKit
set_option linter.unusedVariables false

theorem filter_snoc (V : List Int) (k : Nat) (y x : Int) (h : V.take (k + 1) = V.take k ++ [y]) : (V.take (k + 1)).filter (· ≠ x) = if y = x then (V.take k).filter (· ≠ x) else (V.take k).filter (· ≠ x) ++ [y] := by
  rw [h, List.filter_append]
  by_cases hy : y = x
  · rw [if_pos hy]; simp [hy]
  · rw [if_neg hy]; simp [hy]

def WouRel (w : World) (V : List Int) (x : Int) (n : Nat) (t i : Value) (wr : World) : Prop :=
  ∃ k : Nat, k ≤ n ∧ i = .int .i64 k ∧ Below w.heap.size w wr ∧ OK encI 1 3 wr w.heap.size t ((V.take k).filter (· ≠ x))
set_option maxRecDepth 100000 in
set_option maxHeartbeats 2000000 in
theorem Without_any (v : Value) (V : List Int) (x : Int) (w : World) (B : Nat) (hv : RI w B v V) (hB : B ≤ w.heap.size) (hlen : V.length ≤ 100000) :
    Calls Try.prog 35 #[v, .int .i64 x] w fun e w' => ∃ v', e = .returned v' ∧ OK encI 1 3 w' w.heap.size v' (V.filter (· ≠ x)) ∧ Below w.heap.size w w' := by
  obtain ⟨A, c, rfl, hc1, hc2, hc3, HC⟩ := hv.open_
  clear hv
  obtain ⟨n, hn⟩ : ∃ n, n = V.length := ⟨_, rfl⟩
  rw [← hn] at hc1 hc3 hlen ⊢
  have HN := Lib.hid hn
  clear hn
  go_enter Try.func35, Try.ntmps35
  go_wp2
  go_loopw [5, 6] (fun t i wr => WouRel w V x n t i wr) (fun _ i wr => n - (intOf i).toNat)
  case atStart =>
    refine ⟨0, Nat.zero_le _, rfl, (Below.refl _ _).alloc (Nat.le_refl _) _, ?_⟩
    rw [List.take_zero]
    exact ⟨by simp, World.ownsRow_lit w #[] 0 (by omega) (by decide) rfl⟩
  case round =>
    obtain ⟨k, hk, rfl, hbel, ho⟩ := hrel
    have HB := Lib.hid hbel
    have HO := Lib.hid ho
    have hz := hbel.size
    by_cases hlt : k < n
    · obtain ⟨b, o, rfl, hb, hx⟩ := HC.out k (by have := HN.out; omega)
      obtain ⟨y, hy⟩ : ∃ y, y = V[k]'(by have := HN.out; omega) := ⟨_, rfl⟩
      have hT : V.take (k + 1) = V.take k ++ [y] := by rw [List.take_succ_eq_append_getElem (by have := HN.out; omega), ← hy]
      have hl : ((V.take k).filter (· ≠ x)).length ≤ k := Nat.le_trans (List.length_filter_le _ _) (List.length_take_le _ _)
      rw [← hy] at hx
      have hx := cellI hx
      have HT := Lib.hid (filter_snoc V k y x hT)
      have HL := Lib.hid hl
      have hx := (hbel.cell (p := ⟨b, o + k, none⟩) (by show b < _; omega)).trans hx
      have HLo := Lib.hid HO.out.lt
      clear hy hT hl hbel ho
      by_cases hyx : y = x
      · have hyd : (y != x) = false := by simpa using hyx
        go_wp2_with fail
        go_roundw
        case rel =>
          refine ⟨k + 1, by omega, by go_num, HB.out, ?_⟩
          rw [HT.out, if_pos hyx]; exact HO.out
        case measure => simp [intOf]; omega
      · have hyd : (y != x) = true := by simpa using hyx
        go_wp2_with (at_builtin; refine wpList_appE etInts encI_len encI_one (y := y) rfl (.tmp 20) (.tmp 25) rfl rfl (HO.out.alloc _) wr.heap.size rfl (oneI wr y _) (by have := HL.out; omega) (by simp; omega) ?_; intro v' w5 ho5 hg5 hb5; have HO5 := Lib.hid ho5; have HG5 := Lib.hid hg5; clear ho5 hg5 hb5)
        go_roundw
        case rel =>
          refine ⟨k + 1, by omega, by go_num, (HB.out.alloc (by omega) _).grown HG5.out (by simp; omega) (fun q hq => (HLo.out q hq).1), ?_⟩
          rw [HT.out, if_neg hyx]; exact HO5.out
        case measure => simp [intOf]; omega
    · obtain rfl : k = n := by omega
      clear hbel ho
      go_wp2
      go_ret
      refine ⟨_, rfl, ?_, HB.out⟩
      have := HO.out
      rw [HN.out, List.take_length] at this
      exact this

end Go.Proofs.Ytlakcldgolpaiaa

/-
  What EulerMarks asks of the marks of a tree.
-/
namespace Go.Proofs.Ytlakcldgolpaiaa
open Go.RowKit Go.Maps
set_option linter.unusedVariables false

theorem filter_ne {V : List Int} {x : Int} (hn : V.Nodup) (hx : x ∈ V) : (V.filter (· ≠ x)).length + 1 = V.length ∧ (V.filter (· ≠ x)).Nodup ∧ ∀ y, y ∈ V.filter (· ≠ x) ↔ y ∈ V ∧ y ≠ x := by
  refine ⟨?_, hn.filter _, fun y => by simp [List.mem_filter]⟩
  have h1 : V.filter (· ≠ x) = V.erase x := by
    rw [hn.erase_eq_filter]
    refine List.filter_congr fun y _ => ?_
    by_cases h : y = x <;> simp [h]
  rw [h1, List.length_erase_of_mem hx]
  have := List.length_pos_of_mem hx
  omega

/-- V and E: the marked vertices and edges of u's tree. -/
structure MarkS (G : FS) (u : Int) (V E : List Int) (G' : FS) : Prop where
  like : G.Like G'
  vn : V.Nodup
  vs : ∀ y, y ∈ V ↔ y ∈ G.treeV u ∧ G'.mv y = true
  en : E.Nodup
  es : ∀ y, y ∈ E ↔ y ∈ G.treeE u ∧ G'.me y = true

section

variable {G G' : FS} {u : Int} {V E : List Int}

theorem marks_all (hu : u ∈ G.vs) (hl : G.Like G') (hv : ∀ x ∈ G.treeV u, G'.mv x = true) (he : ∀ x ∈ G.treeE u, G'.me x = true) : MarkS G u (G.treeV u) (G.treeE u) G' :=
  ⟨hl, (G.riseV hu).nd, fun y => ⟨fun h => ⟨h, hv y h⟩, fun h => h.1⟩, (G.riseE hu).nd, fun y => ⟨fun h => ⟨h, he y h⟩, fun h => h.1⟩⟩

theorem MarkS.someV (h : MarkS G u V E G') (hu : u ∈ G.vs) {x : Int} (hx : SomeOk (fun i => G'.inV u i ∧ G'.mv i = true) x) : (V = [] → x = 0) ∧ (V ≠ [] → x ∈ V) := by
  have hin : ∀ i, i ∈ V ↔ G'.inV u i ∧ G'.mv i = true := fun i => by
    rw [h.vs i, (G.riseV hu).2 i, h.like.inV u i]
  rcases hx with h1 | ⟨h1, h2⟩
  · exact ⟨fun e => by have := (hin x).2 h1; rw [e] at this; simp at this, fun _ => (hin x).2 h1⟩
  · refine ⟨fun _ => h2, fun e => ?_⟩
    obtain ⟨y, hy⟩ := List.exists_mem_of_ne_nil _ e
    exact absurd ((hin y).1 hy) (h1 y)

theorem MarkS.someE (h : MarkS G u V E G') (hu : u ∈ G.vs) {x : Int} (hx : SomeOk (fun i => G'.inE u i ∧ G'.me i = true) x) : (E = [] → x = 0) ∧ (E ≠ [] → x ∈ E) := by
  have hin : ∀ i, i ∈ E ↔ G'.inE u i ∧ G'.me i = true := fun i => by
    rw [h.es i, (G.riseE hu).2 i, h.like.inE u i]
  rcases hx with h1 | ⟨h1, h2⟩
  · exact ⟨fun e => by have := (hin x).2 h1; rw [e] at this; simp at this, fun _ => (hin x).2 h1⟩
  · refine ⟨fun _ => h2, fun e => ?_⟩
    obtain ⟨y, hy⟩ := List.exists_mem_of_ne_nil _ e
    exact absurd ((hin y).1 hy) (h1 y)

theorem MarkS.inV (h : MarkS G u V E G') (hu : u ∈ G.vs) {x : Int} (hx : x ∈ V) : x ∈ G.vs := (tree_same hu ((h.vs x).1 hx).1).1

theorem MarkS.inE (h : MarkS G u V E G') (hu : u ∈ G.vs) {x : Int} (hx : x ∈ E) : x ∈ ids G.edges := treeE_ids hu ((h.es x).1 hx).1

theorem MarkS.offV (h : MarkS G u V E G') (hu : u ∈ G.vs) (hG : G'.Good) {x : Int} (hx : x ∈ V) :
    G'.errV x = 0 ∧ MarkS G u (V.filter (· ≠ x)) E (G'.markVA x false) ∧ (V.filter (· ≠ x)).length + 1 = V.length := by
  obtain ⟨h1, h2, h3, h4⟩ := like_markV h.like hG false (h.inV hu hx)
  obtain ⟨f1, f2, f3⟩ := filter_ne h.vn hx
  refine ⟨h1, ⟨h2, f2, fun y => ?_, h.en, fun y => ?_⟩, f1⟩
  · rw [f3, h.vs y, h3]
    by_cases e : y = x
    · rw [e, setB_same]; simp
    · rw [setB_ne _ _ e]; exact ⟨fun g => g.1, fun g => ⟨g, e⟩⟩
  · rw [h4]; exact h.es y

theorem MarkS.offE (h : MarkS G u V E G') (hu : u ∈ G.vs) (hG : G'.Good) {x : Int} (hx : x ∈ E) :
    G'.errE x = 0 ∧ MarkS G u V (E.filter (· ≠ x)) (G'.markEA x false) ∧ (E.filter (· ≠ x)).length + 1 = E.length := by
  obtain ⟨h1, h2, h3, h4⟩ := like_markE h.like hG false (h.inE hu hx)
  obtain ⟨f1, f2, f3⟩ := filter_ne h.en hx
  refine ⟨h1, ⟨h2, h.vn, fun y => ?_, f2, fun y => ?_⟩, f1⟩
  · rw [h3]; exact h.vs y
  · rw [f3, h.es y, h4]
    by_cases e : y = x
    · rw [e, setB_same]; simp
    · rw [setB_ne _ _ e]; exact ⟨fun g => g.1, fun g => ⟨g, e⟩⟩

end

end Go.Proofs.Ytlakcldgolpaiaa

/-
  The walk of EulerMarks.
-/
namespace Go.Proofs.Ytlakcldgolpaiaa
open Go.RowKit Go.Maps
set_option linter.unusedVariables false

set_option maxRecDepth 100000 in
set_option maxHeartbeats 8000000 in
theorem eulerMarks_walk (w : World) (v0 : Value) (ss : List Int) (v1 : Value) (os : List OpE) (u : Int) (h0 : RI w w.heap.size v0 ss) (hs : ScrE w v1 os) (hu : I64 u) :
    Calls Try.prog 7 #[v0, v1, .int .i64 u] w fun e w' => e = .returned (.bool true) ∧ Below w.heap.size w w' := by
  have hf := filled_any w v0 ss v1 os h0 hs
  obtain ⟨A0, c0, hv0, -, -, -, -⟩ := h0.open_
  obtain ⟨n0, hn0⟩ : ∃ n0, n0 = ss.length := ⟨_, rfl⟩
  rw [← hn0] at hv0
  subst hv0
  obtain ⟨A1, c1, hv1, -, -, -, -⟩ := hs.rk.open_
  obtain ⟨n1, hn1⟩ : ∃ n1, n1 = os.length := ⟨_, rfl⟩
  rw [← hn1] at hv1
  subst hv1
  obtain ⟨G, hG⟩ : ∃ G, G = FS.new.runsE os := ⟨_, rfl⟩
  rw [← hG] at hf
  have HF := Lib.hid hf
  clear h0 hs hn0 hn1 hG hf
  go_enter Try.func7, Try.ntmps7
  go_wp2_with fail
  refine HF.out.mono ?_
  rintro e w1 ⟨f, rfl, h1, b1⟩
  have H1 := Lib.hid h1
  have T1 := Lib.hid b1
  clear h1 b1
  go_wp2_with fail
  refine (alive_any w1).mono ?_
  rintro e w2 ⟨rfl, b2⟩
  have H2 := Lib.hid (H1.out.below b2)
  have T2 := Lib.hid (T1.out.trans (b2.mono T1.out.size))
  clear b2
  go_wp2_with fail
  refine (bVerts _ _ w2 f G H2.out u hu).mono ?_
  rintro e w3 ⟨x3, rfl, o3, b3⟩
  obtain ⟨A3, c3, hx3, -, -, -, -⟩ := (o3.rk encI_len (Nat.le_refl _)).open_
  obtain ⟨n, hn⟩ : ∃ n, n = (G.treeV u).length := ⟨_, rfl⟩
  rw [← hn] at hx3
  subst hx3
  have H3 := Lib.hid (H2.out.andRow b3 o3)
  have T3 := Lib.hid (T2.out.trans (b3.mono T2.out.size))
  have OV3 := Lib.hid (o3.base T2.out.size)
  have HN := Lib.hid hn
  clear b3 o3 hn
  go_wp2_with fail
  refine (bEdges _ _ w3 f G H3.out u hu).mono ?_
  rintro e w4 ⟨x4, rfl, o4, b4⟩
  obtain ⟨A4, c4, hx4, -, -, -, -⟩ := (o4.rk encI_len (Nat.le_refl _)).open_
  obtain ⟨m, hm⟩ : ∃ m, m = (G.treeE u).length := ⟨_, rfl⟩
  rw [← hm] at hx4
  subst hx4
  have H4 := Lib.hid (H3.out.andRow b4 o4)
  have T4 := Lib.hid (T3.out.trans (b4.mono T3.out.size))
  have OV4 := Lib.hid (OV3.out.below b4)
  have OE4 := Lib.hid (o4.base T3.out.size)
  have HM := Lib.hid hm
  clear b4 o4 hm
  by_cases hin : u ∈ G.vs
  case neg =>
    rw [G.errV_out hin]
    have HOUT := Lib.hid hin
    clear hin
    go_wp2_with fail
    refine (bSomeV _ _ w4 f G H4.out u hu).mono ?_
    rw [G.errV_out HOUT.out]
    rintro e w5 ⟨⟨x, rfl, -, hx⟩, b5⟩
    have hx0 := hx HOUT.out
    subst hx0
    have T5 := Lib.hid (T4.out.trans (b5.mono T4.out.size))
    clear hx b5
    go_wp2_with fail
    go_ret
    exact ⟨rfl, T5.out⟩
  case pos =>
  rw [G.errV_in hin]
  have HIN := Lib.hid hin
  have HN2 : Hid (n ≤ 2048) := Lib.hid (by rw [HN.out]; exact H1.out.good.tree_few.1)
  have HM2 : Hid (m ≤ 2048) := Lib.hid (by rw [HM.out]; exact H1.out.good.tree_few.2)
  have hn2 := HN2.out
  have hm2 := HM2.out
  clear hin
  obtain ⟨Q, hQ⟩ : ∃ Q, Q = andRow (andRow noQ (.slice A3 n c3)) (.slice A4 m c4) := ⟨_, rfl⟩
  rw [← hQ] at H4
  have QV : Hid (∀ b, (Value.slice A3 n c3).ownBlock = some b → Q b) := Lib.hid fun b hb => by rw [hQ]; exact .inl (.inr hb)
  have QE : Hid (∀ b, (Value.slice A4 m c4).ownBlock = some b → Q b) := Lib.hid fun b hb => by rw [hQ]; exact .inr hb
  clear hQ
  go_wp2_with fail
  go_loopw [69] (fun i wr => ∃ (k : Nat) (G' : FS), k ≤ n ∧ i = .int .i64 k ∧ Hid (G.Like G' ∧ (∀ x ∈ (G.treeV u).take k, G'.mv x = true)) ∧ Hid (FB w.heap.size Q wr f G') ∧ Hid (Below w.heap.size w wr) ∧ Hid (OK encI 1 3 wr w.heap.size (.slice A3 n c3) (G.treeV u)) ∧ Hid (OK encI 1 3 wr w.heap.size (.slice A4 m c4) (G.treeE u))) (fun i _ => n - (intOf i).toNat)
  case atStart => exact ⟨0, G, Nat.zero_le _, rfl, Lib.hid ⟨.refl _, by simp⟩, H4, T4, OV4, OE4⟩
  case round =>
    clear H1 T1 H2 T2 H3 T3 OV3 H4 T4 OV4 OE4
    obtain ⟨k, G', hk, rfl, HG, HF, HT, HV, HE⟩ := hrel
    by_cases hkl : k < n
    · have hkv : k < (G.treeV u).length := by have := HN.out; omega
      have HR := Lib.hid (HV.out.rk encI_len (Nat.le_refl _))
      obtain ⟨A5, c5, he5, -, -, -, HC⟩ := HR.out.open_
      injection he5 with he5 hel he6
      subst he5
      subst he6
      clear hel
      obtain ⟨b1, o1, rfl, hb1, hx⟩ := HC.out k hkv
      have HY := Lib.hid (List.getElem_mem hkv)
      have HTK := Lib.hid (List.take_succ_eq_append_getElem hkv)
      obtain ⟨y, hy⟩ : ∃ y, y = (G.treeV u)[k] := ⟨_, rfl⟩
      rw [← hy] at hx HY HTK
      have hx := cellI hx
      have HS := Lib.hid (tree_same HIN.out HY.out).1
      have HS2 : Hid (y ∈ G'.vs) := Lib.hid (by rw [HG.out.1.vs]; exact HS.out)
      have H64 := Lib.hid (HF.out.good.v64 HS2.out)
      have HMK := Lib.hid (like_markV HG.out.1 HF.out.good true HS.out)
      clear hy HC
      have hkn : (k : Int) < (n : Int) := by omega
      have hkd : decide ((k : Int) < (n : Int)) = true := by simpa using hkl
      go_wp2_with fail
      refine (bMarkV _ _ wr f G' HF.out HT.out.size y H64.out true).mono ?_
      rw [HMK.out.1]
      rintro e w6 ⟨rfl, h6, t6⟩
      have H6 := Lib.hid h6
      have T6 := Lib.hid (HT.out.trans t6.below)
      have OV6 := Lib.hid (t6.row HV.out QV.out)
      have OE6 := Lib.hid (t6.row HE.out QE.out)
      have HG6 : Hid (G.Like (G'.markVA y true) ∧ (∀ x ∈ (G.treeV u).take (k + 1), (G'.markVA y true).mv x = true)) := Lib.hid ⟨HMK.out.2.1, fun x hx => by
        rw [HMK.out.2.2.1]
        by_cases hxy : x = y
        · rw [hxy]; exact setB_same _ _ _
        · rw [setB_ne _ _ hxy]
          rw [HTK.out, List.mem_append] at hx
          exact HG.out.2 x (hx.resolve_right fun e => hxy (List.mem_singleton.1 e))⟩
      clear h6 t6
      go_wp2_with fail
      go_roundw
      case rel => exact ⟨k + 1, _, by omega, by go_num, HG6, H6, T6, OV6, OE6⟩
      case measure => simp [intOf]; omega
    · have HALL : Hid (∀ x ∈ G.treeV u, G'.mv x = true) := Lib.hid (by
        have := HG.out.2
        rwa [List.take_of_length_le (by have := HN.out; omega)] at this)
      obtain ⟨qk, hqk⟩ : ∃ q : Int, q = (k : Int) := ⟨_, rfl⟩
      rw [← hqk]
      have hkd : decide (qk < (n : Int)) = false := by simp; omega
      clear hqk
      go_wp2_with fail
      clear hkd hkl hk
      have HG1 := HG
      clear HG
      go_loopw [80] (fun i wr => ∃ (k : Nat) (G' : FS), k ≤ m ∧ i = .int .i64 k ∧ Hid (G.Like G' ∧ (∀ x ∈ (G.treeE u).take k, G'.me x = true) ∧ ∀ x ∈ G.treeV u, G'.mv x = true) ∧ Hid (FB w.heap.size Q wr f G') ∧ Hid (Below w.heap.size w wr) ∧ Hid (OK encI 1 3 wr w.heap.size (.slice A3 n c3) (G.treeV u)) ∧ Hid (OK encI 1 3 wr w.heap.size (.slice A4 m c4) (G.treeE u))) (fun i _ => m - (intOf i).toNat)
      case atStart => exact ⟨0, G', Nat.zero_le _, rfl, Lib.hid ⟨HG1.out.1, by simp, HALL.out⟩, HF, HT, HV, HE⟩
      case round =>
        clear HF HT HV HE HG1 HALL
        obtain ⟨k, G', hk, rfl, HG, HF, HT, HV, HE⟩ := hrel
        by_cases hkl : k < m
        · have hkv : k < (G.treeE u).length := by have := HM.out; omega
          have HR := Lib.hid (HE.out.rk encI_len (Nat.le_refl _))
          obtain ⟨A5, c5, he5, -, -, -, HC⟩ := HR.out.open_
          injection he5 with he5 hel he6
          subst he5
          subst he6
          clear hel
          obtain ⟨b1, o1, rfl, hb1, hx⟩ := HC.out k hkv
          have HY := Lib.hid (List.getElem_mem hkv)
          have HTK := Lib.hid (List.take_succ_eq_append_getElem hkv)
          obtain ⟨y, hy⟩ : ∃ y, y = (G.treeE u)[k] := ⟨_, rfl⟩
          rw [← hy] at hx HY HTK
          have hx := cellI hx
          have HS := Lib.hid (treeE_ids HIN.out HY.out)
          have HS2 : Hid (y ∈ ids G'.edges) := Lib.hid (by rw [HG.out.1.es]; exact HS.out)
          have H64 := Lib.hid (HF.out.good.e64 HS2.out)
          have HMK := Lib.hid (like_markE HG.out.1 HF.out.good true HS.out)
          clear hy HC
          have hkn : (k : Int) < (m : Int) := by omega
          have hkd : decide ((k : Int) < (m : Int)) = true := by simpa using hkl
          go_wp2_with fail
          refine (bMarkE _ _ wr f G' HF.out HT.out.size y H64.out true).mono ?_
          rw [HMK.out.1]
          rintro e w6 ⟨rfl, h6, t6⟩
          have H6 := Lib.hid h6
          have T6 := Lib.hid (HT.out.trans t6.below)
          have OV6 := Lib.hid (t6.row HV.out QV.out)
          have OE6 := Lib.hid (t6.row HE.out QE.out)
          have HG6 : Hid (G.Like (G'.markEA y true) ∧ (∀ x ∈ (G.treeE u).take (k + 1), (G'.markEA y true).me x = true) ∧ ∀ x ∈ G.treeV u, (G'.markEA y true).mv x = true) := Lib.hid ⟨HMK.out.2.1, (fun x hx => by
            rw [HMK.out.2.2.2]
            by_cases hxy : x = y
            · rw [hxy]; exact setB_same _ _ _
            · rw [setB_ne _ _ hxy]
              rw [HTK.out, List.mem_append] at hx
              exact HG.out.2.1 x (hx.resolve_right fun e => hxy (List.mem_singleton.1 e))), fun x hx => by rw [HMK.out.2.2.1]; exact HG.out.2.2 x hx⟩
          clear h6 t6
          go_wp2_with fail
          go_roundw
          case rel => exact ⟨k + 1, _, by omega, by go_num, HG6, H6, T6, OV6, OE6⟩
          case measure => simp [intOf]; omega
        · have HALL : Hid (∀ x ∈ G.treeE u, G'.me x = true) := Lib.hid (by
            have := HG.out.2.1
            rwa [List.take_of_length_le (by have := HM.out; omega)] at this)
          obtain ⟨qk, hqk⟩ : ∃ q : Int, q = (k : Int) := ⟨_, rfl⟩
          rw [← hqk]
          have hkd : decide (qk < (m : Int)) = false := by simp; omega
          clear hqk
          go_wp2_with fail
          have HMS := Lib.hid (marks_all HIN.out HG.out.1 HG.out.2.2 HALL.out)
          clear hkd hkl hk
          go_loopw [8, 18] (fun v i wr => ∃ (A : Option Addr) (c : Nat) (V : List Int) (Q : Nat → Prop) (G' : FS), v = .slice A V.length c ∧ i = .int .i64 (V.length : Nat) ∧ Hid (V.length ≤ 2048) ∧ Hid (MarkS G u V (G.treeE u) G') ∧ Hid ((∀ b, v.ownBlock = some b → Q b) ∧ ∀ b, (Value.slice A4 m c4).ownBlock = some b → Q b) ∧ Hid (FB w.heap.size Q wr f G') ∧ Hid (Below w.heap.size w wr) ∧ Hid (OK encI 1 3 wr w.heap.size v V) ∧ Hid (OK encI 1 3 wr w.heap.size (.slice A4 m c4) (G.treeE u))) (fun _ i _ => (intOf i).toNat)
          case atStart => exact ⟨A3, c3, G.treeV u, Q, G', by rw [← HN.out], by rw [← HN.out], Lib.hid (by have := HN.out; have := HN2.out; omega), HMS, Lib.hid ⟨QV.out, QE.out⟩, HF, HT, HV, HE⟩
          case round =>
            clear HF HT HV HE HG HALL HMS
            obtain ⟨A, c, V, Q2, G2, rfl, rfl, HL, HMS, HQ, HF, HT, HV, HE⟩ := hrel
            by_cases hV : V = []
            case neg =>
              obtain ⟨l, hl⟩ : ∃ l, l = V.length := ⟨_, rfl⟩
              have hpos : 0 < V.length := List.length_pos_iff.2 hV
              rw [← hl] at hpos HQ HV HL ⊢
              have HLL := Lib.hid hl
              have HNE := Lib.hid hV
              clear hl hV
              have hkd : decide ((l : Int) > 0) = true := by simpa using hpos
              have HIN2 : Hid (u ∈ G2.vs) := Lib.hid (by rw [HMS.out.like.vs]; exact HIN.out)
              go_wp2_with fail
              refine (bSomeV _ _ wr f G2 HF.out u hu).mono ?_
              rw [G2.errV_in HIN2.out]
              rintro e w5 ⟨⟨x, rfl, hx, -⟩, b5⟩
              have HX := Lib.hid ((HMS.out.someV HIN.out (hx HIN2.out)).2 HNE.out)
              have HOF := Lib.hid (HMS.out.offV HIN.out HF.out.good HX.out)
              have H64 := Lib.hid (HF.out.good.v64 (by rw [HMS.out.like.vs]; exact HMS.out.inV HIN.out HX.out))
              have H5 := Lib.hid (HF.out.below b5)
              have T5 := Lib.hid (HT.out.trans (b5.mono HT.out.size))
              have OV5 := Lib.hid (HV.out.below b5)
              have OE5 := Lib.hid (HE.out.below b5)
              clear b5 hx
              go_wp2_with fail
              refine (has_any _ _ w5 _ (OV5.out.rk encI_len (Nat.le_refl _)) x).mono ?_
              rw [decide_eq_true HX.out]
              rintro e wx ⟨rfl, hwx⟩
              rw [hwx]
              clear hwx wx
              go_wp2_with fail
              refine (bMarkV _ _ w5 f G2 H5.out T5.out.size x H64.out false).mono ?_
              rw [HOF.out.1]
              rintro e w6 ⟨rfl, h6, t6⟩
              have H6 := Lib.hid h6
              have T6 := Lib.hid (T5.out.trans t6.below)
              have OV6 := Lib.hid (t6.row OV5.out HQ.out.1)
              have OE6 := Lib.hid (t6.row OE5.out HQ.out.2)
              clear h6 t6
              go_wp2_with fail
              refine (Without_any _ V x w6 _ (OV6.out.rk encI_len (Nat.le_refl _)) (Nat.le_refl _) (by have := HL.out; have := HLL.out; omega)).mono ?_
              rintro e w7 ⟨v7, rfl, o7, b7⟩
              obtain ⟨A7, c7, hv7, -, -, -, -⟩ := (o7.rk encI_len (Nat.le_refl _)).open_
              obtain ⟨V7, hV7⟩ : ∃ V7, V7 = V.filter (· ≠ x) := ⟨_, rfl⟩
              have HOF7 := Lib.hid HOF.out.2
              rw [← hV7] at hv7 o7 HOF7
              clear HOF hV7
              subst hv7
              have H7 := Lib.hid (H6.out.andRow b7 o7)
              have T7 := Lib.hid (T6.out.trans (b7.mono T6.out.size))
              have OV7 := Lib.hid (o7.base T6.out.size)
              have OE7 := Lib.hid (OE6.out.below b7)
              have HQ7 : Hid ((∀ b, (Value.slice A7 V7.length c7).ownBlock = some b → andRow Q2 (.slice A7 V7.length c7) b) ∧ ∀ b, (Value.slice A4 m c4).ownBlock = some b → andRow Q2 (.slice A7 V7.length c7) b) := Lib.hid ⟨fun b hb => .inr hb, fun b hb => .inl (HQ.out.2 b hb)⟩
              have hl7 : (l : Int) - 1 = (V7.length : Nat) := by have := HOF7.out.2; have := HLL.out; omega
              have HL7 : Hid (V7.length ≤ 2048) := Lib.hid (by have := HOF7.out.2; have := HLL.out; have := HL.out; omega)
              have HLT : Hid (V7.length < l) := Lib.hid (by have := HOF7.out.2; have := HLL.out; omega)
              have HMS7 := Lib.hid HOF7.out.1
              have HW7 : Hid (wrap64 ((l : Int) - 1) = (V7.length : Nat)) := Lib.hid (by unfold wrap64; have := HL7.out; omega)
              clear o7 b7 hl7
              go_wp2_with fail
              go_roundw
              case rel => exact ⟨_, _, V7, _, _, rfl, by rw [HW7.out], HL7, HMS7, HQ7, H7, T7, OV7, OE7⟩
              case measure => have := HLT.out; simp only [intOf]; rw [HW7.out]; omega
            case pos =>
              have hV0 : V.length = 0 := by rw [hV]; rfl
              obtain ⟨qk, hqk⟩ : ∃ q : Int, q = ((V.length : Nat) : Int) := ⟨_, rfl⟩
              rw [← hqk, hV0]
              have hkd : decide (qk > 0) = false := by simp; omega
              clear hqk
              rw [hV] at HMS
              have HV0 := Lib.hid hV0
              clear hV0 hV
              go_wp2_with fail
              go_loopw [10, 21] (fun v i wr => ∃ (A : Option Addr) (c : Nat) (V : List Int) (Q : Nat → Prop) (G' : FS), v = .slice A V.length c ∧ i = .int .i64 (V.length : Nat) ∧ Hid (V.length ≤ 2048) ∧ Hid (MarkS G u [] V G') ∧ Hid (∀ b, v.ownBlock = some b → Q b) ∧ Hid (FB w.heap.size Q wr f G') ∧ Hid (Below w.heap.size w wr) ∧ Hid (OK encI 1 3 wr w.heap.size v V)) (fun _ i _ => (intOf i).toNat)
              case atStart => exact ⟨A4, c4, G.treeE u, Q2, G2, by rw [← HM.out], by rw [← HM.out], Lib.hid (by have := HM.out; have := HM2.out; omega), HMS, Lib.hid HQ.out.2, HF, HT, HE⟩
              case round =>
                clear HF HT HV HE HMS HQ HL
                obtain ⟨A, c, V, Q2, G2, rfl, rfl, HL, HMS, HQ, HF, HT, HV⟩ := hrel
                by_cases hV : V = []
                case neg =>
                  obtain ⟨l, hl⟩ : ∃ l, l = V.length := ⟨_, rfl⟩
                  have hpos : 0 < V.length := List.length_pos_iff.2 hV
                  rw [← hl] at hpos HQ HV HL ⊢
                  have HLL := Lib.hid hl
                  have HNE := Lib.hid hV
                  clear hl hV
                  have hkd : decide ((l : Int) > 0) = true := by simpa using hpos
                  have HIN2 : Hid (u ∈ G2.vs) := Lib.hid (by rw [HMS.out.like.vs]; exact HIN.out)
                  go_wp2_with fail
                  refine (bSomeE _ _ wr f G2 HF.out u hu).mono ?_
                  rw [G2.errV_in HIN2.out]
                  rintro e w5 ⟨⟨x, rfl, hx, -⟩, b5⟩
                  have HX := Lib.hid ((HMS.out.someE HIN.out (hx HIN2.out)).2 HNE.out)
                  have HOF := Lib.hid (HMS.out.offE HIN.out HF.out.good HX.out)
                  have H64 := Lib.hid (HF.out.good.e64 (by rw [HMS.out.like.es]; exact HMS.out.inE HIN.out HX.out))
                  have H5 := Lib.hid (HF.out.below b5)
                  have T5 := Lib.hid (HT.out.trans (b5.mono HT.out.size))
                  have OV5 := Lib.hid (HV.out.below b5)
                  clear b5 hx
                  go_wp2_with fail
                  refine (has_any _ _ w5 _ (OV5.out.rk encI_len (Nat.le_refl _)) x).mono ?_
                  rw [decide_eq_true HX.out]
                  rintro e wx ⟨rfl, hwx⟩
                  rw [hwx]
                  clear hwx wx
                  go_wp2_with fail
                  refine (bMarkE _ _ w5 f G2 H5.out T5.out.size x H64.out false).mono ?_
                  rw [HOF.out.1]
                  rintro e w6 ⟨rfl, h6, t6⟩
                  have H6 := Lib.hid h6
                  have T6 := Lib.hid (T5.out.trans t6.below)
                  have OV6 := Lib.hid (t6.row OV5.out HQ.out)
                  clear h6 t6
                  go_wp2_with fail
                  refine (Without_any _ V x w6 _ (OV6.out.rk encI_len (Nat.le_refl _)) (Nat.le_refl _) (by have := HL.out; have := HLL.out; omega)).mono ?_
                  rintro e w7 ⟨v7, rfl, o7, b7⟩
                  obtain ⟨A7, c7, hv7, -, -, -, -⟩ := (o7.rk encI_len (Nat.le_refl _)).open_
                  obtain ⟨V7, hV7⟩ : ∃ V7, V7 = V.filter (· ≠ x) := ⟨_, rfl⟩
                  have HOF7 := Lib.hid HOF.out.2
                  rw [← hV7] at hv7 o7 HOF7
                  clear HOF hV7
                  subst hv7
                  have H7 := Lib.hid (H6.out.andRow b7 o7)
                  have T7 := Lib.hid (T6.out.trans (b7.mono T6.out.size))
                  have OV7 := Lib.hid (o7.base T6.out.size)
                  have HQ7 : Hid (∀ b, (Value.slice A7 V7.length c7).ownBlock = some b → andRow Q2 (.slice A7 V7.length c7) b) := Lib.hid fun b hb => .inr hb
                  have hl7 : (l : Int) - 1 = (V7.length : Nat) := by have := HOF7.out.2; have := HLL.out; omega
                  have HL7 : Hid (V7.length ≤ 2048) := Lib.hid (by have := HOF7.out.2; have := HLL.out; have := HL.out; omega)
                  have HLT : Hid (V7.length < l) := Lib.hid (by have := HOF7.out.2; have := HLL.out; omega)
                  have HMS7 := Lib.hid HOF7.out.1
                  have HW7 : Hid (wrap64 ((l : Int) - 1) = (V7.length : Nat)) := Lib.hid (by unfold wrap64; have := HL7.out; omega)
                  clear o7 b7 hl7
                  go_wp2_with fail
                  go_roundw
                  case rel => exact ⟨_, _, V7, _, _, rfl, by rw [HW7.out], HL7, HMS7, HQ7, H7, T7, OV7⟩
                  case measure => have := HLT.out; simp only [intOf]; rw [HW7.out]; omega
                case pos =>
                  have hV0 : V.length = 0 := by rw [hV]; rfl
                  obtain ⟨qk, hqk⟩ : ∃ q : Int, q = ((V.length : Nat) : Int) := ⟨_, rfl⟩
                  rw [← hqk, hV0]
                  have hkd : decide (qk > 0) = false := by simp; omega
                  clear hqk
                  rw [hV] at HMS
                  have HV0 := Lib.hid hV0
                  clear hV0 hV
                  have HIN2 : Hid (u ∈ G2.vs) := Lib.hid (by rw [HMS.out.like.vs]; exact HIN.out)
                  go_wp2_with fail
                  refine (bSomeV _ _ wr f G2 HF.out u hu).mono ?_
                  rw [G2.errV_in HIN2.out]
                  rintro e w5 ⟨⟨x, rfl, hx, -⟩, b5⟩
                  have hx0 := (HMS.out.someV HIN.out (hx HIN2.out)).1 rfl
                  subst hx0
                  have H5 := Lib.hid (HF.out.below b5)
                  have T5 := Lib.hid (HT.out.trans (b5.mono HT.out.size))
                  clear b5 hx
                  go_wp2_with fail
                  refine (bSomeE _ _ w5 f G2 H5.out u hu).mono ?_
                  rw [G2.errV_in HIN2.out]
                  rintro e w6 ⟨⟨x, rfl, hx, -⟩, b6⟩
                  have hx0 := (HMS.out.someE HIN.out (hx HIN2.out)).1 rfl
                  subst hx0
                  have T6 := Lib.hid (T5.out.trans (b6.mono T5.out.size))
                  clear b6 hx
                  go_wp2_with fail
                  go_ret
                  exact ⟨rfl, T6.out⟩

end Go.Proofs.Ytlakcldgolpaiaa
