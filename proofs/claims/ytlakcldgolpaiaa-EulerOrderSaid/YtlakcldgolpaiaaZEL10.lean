/-
  The walk of EulerTrees.
-/
import Derived.Test.YtlakcldgolpaiaaZEL8
import Derived.Test.YtlakcldgolpaiaaZAQ
namespace Go.Proofs.Ytlakcldgolpaiaa
open Go.RowKit Go.Maps
set_option linter.unusedVariables false

section

variable {F : FS}

theorem FS.Good.v64 (h : F.Good) {v : Int} (hv : v ∈ F.vs) : I64 v := by have := h.vid v hv; unfold I64; omega

theorem FS.Good.e64 (h : F.Good) {i : Int} (hi : i ∈ ids F.edges) : I64 i := by have := h.eid i hi; unfold I64; omega

/-- All vertices of a tree tell the same tree. -/
theorem tree_same {u v : Int} (hu : u ∈ F.vs) (hv : v ∈ F.treeV u) : v ∈ F.vs ∧ F.treeV v = F.treeV u ∧ F.joinB u v = true ∧ F.joinX u v = 0 ∧ F.errV v = 0 := by
  obtain ⟨h1, h2⟩ := ((F.riseV hu).2 v).1 hv
  refine ⟨h1, ?_, F.joinB_yes ⟨hu, h1, h2⟩, by unfold FS.joinX; rw [if_pos ⟨hu, h1⟩], F.errV_in h1⟩
  refine rise_unique (F.riseV h1) ((F.riseV hu).congr fun i => ?_)
  unfold FS.inV
  exact ⟨fun h => ⟨h.1, h2.symm.trans h.2⟩, fun h => ⟨h.1, h2.trans h.2⟩⟩

theorem treeV_self {u : Int} (hu : u ∈ F.vs) : u ∈ F.treeV u := ((F.riseV hu).2 u).2 ⟨hu, .refl _⟩

theorem treeE_ids {u i : Int} (hu : u ∈ F.vs) (hi : i ∈ F.treeE u) : i ∈ ids F.edges := by
  obtain ⟨p, q, h1, -⟩ := ((F.riseE hu).2 i).1 hi
  exact List.mem_map.2 ⟨_, h1, rfl⟩

theorem FS.Good.tree_len (h : F.Good) {u : Int} (hu : u ∈ F.vs) : (F.treeV u).length = (F.treeE u).length + 1 := h.lens hu (F.riseV hu) (F.riseE hu)

theorem FS.Good.tree_few (h : F.Good) {u : Int} : (F.treeV u).length ≤ 2048 ∧ (F.treeE u).length ≤ 2048 := by
  by_cases hu : u ∈ F.vs
  · have h1 := (F.riseV hu).nd.length_le_of_subset (l₂ := F.vs) (fun v hv => (((F.riseV hu).2 v).1 hv).1)
    have h2 := h.few
    have h3 := h.tree_len hu
    omega
  · rw [F.outV hu, F.outE hu]; simp

/-- The same trees, with more marks. -/
structure FS.Like (F G : FS) : Prop where
  vs : G.vs = F.vs
  es : G.edges = F.edges

theorem FS.Like.refl (F : FS) : F.Like F := ⟨rfl, rfl⟩

theorem FS.Like.treeV {G : FS} (h : F.Like G) (u : Int) : G.treeV u = F.treeV u := by unfold FS.treeV; rw [h.vs, h.es]

theorem FS.Like.treeE {G : FS} (h : F.Like G) (u : Int) : G.treeE u = F.treeE u := by unfold FS.treeE; rw [h.vs, h.es]

theorem FS.Like.errV {G : FS} (h : F.Like G) (u : Int) : G.errV u = F.errV u := by unfold FS.errV; rw [h.vs]

theorem FS.Like.inE {G : FS} (h : F.Like G) (u i : Int) : G.inE u i ↔ F.inE u i := by unfold FS.inE; rw [h.es]

theorem FS.Like.inV {G : FS} (h : F.Like G) (u i : Int) : G.inV u i ↔ F.inV u i := by unfold FS.inV; rw [h.vs, h.es]

theorem like_markE {G : FS} (h : F.Like G) (hG : G.Good) {i : Int} (on : Bool) (hi : i ∈ ids F.edges) : G.errE i = 0 ∧ F.Like (G.markEA i on) ∧ (G.markEA i on).mv = G.mv ∧ (G.markEA i on).me = setB G.me i on := by
  obtain ⟨h1, h2, h3, h4⟩ := markE_is hG ⟨h.vs, h.es⟩ i on hi
  exact ⟨h1, ⟨h2.vs, h2.es⟩, h3, h4⟩

theorem like_markV {G : FS} (h : F.Like G) (hG : G.Good) {i : Int} (on : Bool) (hi : i ∈ F.vs) : G.errV i = 0 ∧ F.Like (G.markVA i on) ∧ (G.markVA i on).mv = setB G.mv i on ∧ (G.markVA i on).me = G.me := by
  obtain ⟨h1, h2, h3, h4⟩ := markV_is hG ⟨h.vs, h.es⟩ i on hi
  exact ⟨h1, ⟨h2.vs, h2.es⟩, h3, h4⟩

end

theorem setB_same (f : Int → Bool) (i : Int) (b : Bool) : setB f i b i = b := by unfold setB; rw [if_pos rfl]

theorem setB_ne (f : Int → Bool) {i j : Int} (b : Bool) (h : j ≠ i) : setB f i b j = f j := by unfold setB; rw [if_neg h]

set_option maxRecDepth 100000 in
set_option maxHeartbeats 8000000 in
theorem eulerTrees_walk (w : World) (v0 : Value) (ss : List Int) (v1 : Value) (os : List OpE) (u : Int) (h0 : RI w w.heap.size v0 ss) (hs : ScrE w v1 os) (hu : I64 u) :
    Calls Try.prog 5 #[v0, v1, .int .i64 u] w fun e w' => e = .returned (.bool true) ∧ Below w.heap.size w w' := by
  have hf := filled_any w v0 ss v1 os h0 hs
  obtain ⟨A0, c0, hv0, -, -, -, -⟩ := h0.open_
  obtain ⟨n0, hn0⟩ : ∃ n0, n0 = ss.length := ⟨_, rfl⟩
  rw [← hn0] at hv0
  subst hv0
  obtain ⟨A1, c1, hv1, -, -, -, -⟩ := hs.rk.open_
  obtain ⟨n1, hn1⟩ : ∃ n1, n1 = os.length := ⟨_, rfl⟩
  rw [← hn1] at hv1
  subst hv1
  obtain ⟨G, hG⟩ : ∃ G, G = FS.new.runsE os := ⟨_, rfl⟩
  rw [← hG] at hf
  have HF := Lib.hid hf
  clear h0 hs hn0 hn1 hG hf
  go_enter Try.func5, Try.ntmps5
  go_wp2_with fail
  refine HF.out.mono ?_
  rintro e w1 ⟨f, rfl, h1, b1⟩
  have H1 := Lib.hid h1
  have T1 := Lib.hid b1
  clear h1 b1
  go_wp2_with fail
  refine (alive_any w1).mono ?_
  rintro e w2 ⟨rfl, b2⟩
  have H2 := Lib.hid (H1.out.below b2)
  have T2 := Lib.hid (T1.out.trans (b2.mono T1.out.size))
  clear b2
  go_wp2_with fail
  refine (bVerts _ _ w2 f G H2.out u hu).mono ?_
  rintro e w3 ⟨x3, rfl, o3, b3⟩
  obtain ⟨A3, c3, hx3, -, -, -, -⟩ := (o3.rk encI_len (Nat.le_refl _)).open_
  obtain ⟨n, hn⟩ : ∃ n, n = (G.treeV u).length := ⟨_, rfl⟩
  rw [← hn] at hx3
  subst hx3
  have H3 := Lib.hid (H2.out.andRow b3 o3)
  have T3 := Lib.hid (T2.out.trans (b3.mono T2.out.size))
  have OV3 := Lib.hid (o3.base T2.out.size)
  have HN := Lib.hid hn
  clear b3 o3 hn
  go_wp2_with fail
  refine (bEdges _ _ w3 f G H3.out u hu).mono ?_
  rintro e w4 ⟨x4, rfl, o4, b4⟩
  obtain ⟨A4, c4, hx4, -, -, -, -⟩ := (o4.rk encI_len (Nat.le_refl _)).open_
  obtain ⟨m, hm⟩ : ∃ m, m = (G.treeE u).length := ⟨_, rfl⟩
  rw [← hm] at hx4
  subst hx4
  have H4 := Lib.hid (H3.out.andRow b4 o4)
  have T4 := Lib.hid (T3.out.trans (b4.mono T3.out.size))
  have OV4 := Lib.hid (OV3.out.below b4)
  have OE4 := Lib.hid (o4.base T3.out.size)
  have HM := Lib.hid hm
  clear b4 o4 hm
  by_cases hin : u ∈ G.vs
  case neg =>
    rw [G.errV_out hin]
    clear hin
    go_wp2_with fail
    go_ret
    exact ⟨rfl, T4.out⟩
  case pos =>
  rw [G.errV_in hin]
  have hlen : n = m + 1 := by rw [HN.out, HM.out]; exact H1.out.good.tree_len hin
  have hm2 : m ≤ 2048 := by rw [HM.out]; exact H1.out.good.tree_few.2
  subst hlen
  have HIN := Lib.hid hin
  have HSELF := Lib.hid (treeV_self hin)
  clear hin
  have hmi : ((m : Int) + 1 != (m : Int) + 1) = false := by simp
  have hwm : IntKind.i64.wrap ((m : Int) + 1) = (m : Int) + 1 := by rw [IntKind.wrap_i64]; omega
  go_wp2_with fail
  refine (has_any _ _ w4 _ (OV4.out.rk encI_len (Nat.le_refl _)) u).mono ?_
  rw [decide_eq_true HSELF.out]
  rintro e wx ⟨rfl, hwx⟩
  rw [hwx]
  clear hwx wx
  go_wp2_with fail
  have HM2 := Lib.hid hm2
  obtain ⟨Q, hQ⟩ : ∃ Q, Q = andRow (andRow noQ (.slice A3 (m + 1) c3)) (.slice A4 m c4) := ⟨_, rfl⟩
  rw [← hQ] at H4
  have HQ := Lib.hid hQ
  clear hQ
  have HC3 := Lib.hid fun wx (h : OK encI 1 3 wx w.heap.size (.slice A3 (m + 1) c3) (G.treeV u)) => (h.rk encI_len (Nat.le_refl _)).open_
  go_loopw [71] (fun i wr => ∃ k : Nat, k ≤ m + 1 ∧ i = .int .i64 k ∧ Hid (FB w.heap.size Q wr f G) ∧ Hid (Below w.heap.size w wr) ∧ Hid (OK encI 1 3 wr w.heap.size (.slice A3 (m + 1) c3) (G.treeV u)) ∧ Hid (OK encI 1 3 wr w.heap.size (.slice A4 m c4) (G.treeE u))) (fun i _ => m + 1 - (intOf i).toNat)
  case atStart => exact ⟨0, Nat.zero_le _, rfl, H4, T4, OV4, OE4⟩
  case round =>
    clear H1 T1 H2 T2 H3 T3 OV3 H4 T4 OV4 OE4
    obtain ⟨k, hk, rfl, HF, HT, HV, HE⟩ := hrel
    by_cases hkl : k < m + 1
    · have hkv : k < (G.treeV u).length := by have := HN.out; omega
      have HR := Lib.hid (HV.out.rk encI_len (Nat.le_refl _))
      obtain ⟨A5, c5, he5, -, -, -, HC⟩ := HR.out.open_
      injection he5 with he5 hel he6
      subst he5
      subst he6
      clear hel
      obtain ⟨b1, o1, rfl, hb1, hx⟩ := HC.out k hkv
      have HY := Lib.hid (List.getElem_mem hkv)
      obtain ⟨y, hy⟩ : ∃ y, y = (G.treeV u)[k] := ⟨_, rfl⟩
      rw [← hy] at hx HY
      have hx := cellI hx
      have HS := Lib.hid (tree_same HIN.out HY.out)
      have H64 := Lib.hid (HF.out.good.v64 HS.out.1)
      clear hy HC
      have hkn : (k : Int) < (m : Int) + 1 := by omega
      have hkd : decide ((k : Int) < (m : Int) + 1) = true := by simpa using hkn
      go_wp2_with fail
      refine (bSize _ _ wr f G HF.out y H64.out).mono ?_
      rw [HS.out.2.1, HS.out.2.2.2.2, ← HN.out]
      rintro e w5 ⟨rfl, b5⟩
      have H5 := Lib.hid (HF.out.below b5)
      have T5 := Lib.hid (HT.out.trans (b5.mono HT.out.size))
      have OV5 := Lib.hid (HV.out.below b5)
      have OE5 := Lib.hid (HE.out.below b5)
      clear b5
      go_wp2_with fail
      refine (bVerts _ _ w5 f G H5.out y H64.out).mono ?_
      rw [HS.out.2.1, HS.out.2.2.2.2]
      rintro e w6 ⟨x6, rfl, o6, b6⟩
      have H6 := Lib.hid (H5.out.below b6)
      have T6 := Lib.hid (T5.out.trans (b6.mono T5.out.size))
      have OV6 := Lib.hid (OV5.out.below b6)
      have OE6 := Lib.hid (OE5.out.below b6)
      have OX6 := Lib.hid o6
      obtain ⟨A6, c6, hx6, -, -, -, -⟩ := (o6.rk encI_len (Nat.le_refl _)).open_
      rw [← HN.out] at hx6
      subst hx6
      clear b6 o6
      go_wp2_with fail
      refine (bJoined _ _ w6 f G H6.out u y hu H64.out).mono ?_
      rw [HS.out.2.2.1, HS.out.2.2.2.1]
      rintro e wx ⟨rfl, hwx⟩
      rw [hwx]
      clear hwx wx
      go_wp2_with fail
      refine (SameInts_yes _ _ (G.treeV u) w6 _ _ (OV6.out.rk encI_len (Nat.le_refl _)) (OX6.out.rk encI_len (Nat.le_refl _))).mono ?_
      rintro e wy ⟨rfl, q, hwy⟩
      have H7 : Hid (FB w.heap.size Q wy f G) := Lib.hid (by rw [hwy]; exact H6.out.below (below_drewN (Below.refl _ _) q))
      have T7 : Hid (Below w.heap.size w wy) := Lib.hid (by rw [hwy]; exact below_drewN T6.out q)
      have OV7 : Hid (OK encI 1 3 wy w.heap.size (.slice (some ⟨b1, o1, none⟩) (m + 1) c3) (G.treeV u)) := Lib.hid (by rw [hwy]; exact OV6.out.drewN q)
      have OE7 : Hid (OK encI 1 3 wy w.heap.size (.slice A4 m c4) (G.treeE u)) := Lib.hid (by rw [hwy]; exact OE6.out.drewN q)
      clear hwy
      go_wp2_with fail
      go_roundw
      case rel => exact ⟨k + 1, by omega, by go_num, H7, T7, OV7, OE7⟩
      case measure => simp [intOf]; omega
    · obtain ⟨qk, hqk⟩ : ∃ q : Int, q = (k : Int) := ⟨_, rfl⟩
      rw [← hqk]
      have hkd : decide (qk < (m : Int) + 1) = false := by simp; omega
      clear hqk
      go_wp2_with fail
      go_loopw [123] (fun i wr => ∃ (k : Nat) (G' : FS), k ≤ m ∧ i = .int .i64 k ∧ Hid (G.Like G' ∧ ∀ x ∈ (G.treeE u).take k, G'.me x = true) ∧ Hid (FB w.heap.size Q wr f G') ∧ Hid (Below w.heap.size w wr) ∧ Hid (OK encI 1 3 wr w.heap.size (.slice A4 m c4) (G.treeE u))) (fun i _ => m - (intOf i).toNat)
      case atStart => exact ⟨0, G, Nat.zero_le _, rfl, Lib.hid ⟨.refl _, by simp⟩, HF, HT, HE⟩
      case round =>
        clear HF HT HV HE
        obtain ⟨k, G', hk, rfl, HG, HF, HT, HE⟩ := hrel
        by_cases hkl : k < m
        · have hkv : k < (G.treeE u).length := by have := HM.out; omega
          have HR := Lib.hid (HE.out.rk encI_len (Nat.le_refl _))
          obtain ⟨A5, c5, he5, -, -, -, HC⟩ := HR.out.open_
          injection he5 with he5 hel he6
          subst he5
          subst he6
          clear hel
          obtain ⟨b1, o1, rfl, hb1, hx⟩ := HC.out k hkv
          have HY := Lib.hid (List.getElem_mem hkv)
          have HTK := Lib.hid (List.take_succ_eq_append_getElem hkv)
          obtain ⟨y, hy⟩ : ∃ y, y = (G.treeE u)[k] := ⟨_, rfl⟩
          rw [← hy] at hx HY HTK
          have hx := cellI hx
          have HS := Lib.hid (treeE_ids HIN.out HY.out)
          have HS2 : Hid (y ∈ ids G'.edges) := Lib.hid (by rw [HG.out.1.es]; exact HS.out)
          have H64 := Lib.hid (HF.out.good.e64 HS2.out)
          have HMK := Lib.hid (like_markE HG.out.1 HF.out.good true HS.out)
          clear hy HC
          have hkn : (k : Int) < (m : Int) := by omega
          have hkd : decide ((k : Int) < (m : Int)) = true := by simpa using hkl
          go_wp2_with fail
          refine (bHas _ _ wr f G' HF.out y H64.out).mono ?_
          rw [decide_eq_true HS2.out]
          rintro e w5 ⟨rfl, b5⟩
          have H5 := Lib.hid (HF.out.below b5)
          have T5 := Lib.hid (HT.out.trans (b5.mono HT.out.size))
          have OE5 := Lib.hid (HE.out.below b5)
          clear b5
          go_wp2_with fail
          refine (bMarkE _ _ w5 f G' H5.out T5.out.size y H64.out true).mono ?_
          rw [HMK.out.1]
          rintro e w6 ⟨rfl, h6, t6⟩
          have H6 := Lib.hid h6
          have T6 := Lib.hid (T5.out.trans t6.below)
          have OE6 := Lib.hid (t6.row OE5.out fun b hb => by rw [HQ.out]; exact .inr hb)
          have HG6 : Hid (G.Like (G'.markEA y true) ∧ ∀ x ∈ (G.treeE u).take (k + 1), (G'.markEA y true).me x = true) := Lib.hid ⟨HMK.out.2.1, fun x hx => by
            rw [HMK.out.2.2.2]
            by_cases hxy : x = y
            · rw [hxy]; exact setB_same _ _ _
            · rw [setB_ne _ _ hxy]
              rw [HTK.out, List.mem_append] at hx
              exact HG.out.2 x (hx.resolve_right fun e => hxy (List.mem_singleton.1 e))⟩
          clear h6 t6
          go_wp2_with fail
          go_roundw
          case rel => exact ⟨k + 1, _, by omega, by go_num, HG6, H6, T6, OE6⟩
          case measure => simp [intOf]; omega
        · obtain rfl : k = m := by omega
          have hkd : decide ((k : Int) < (k : Int)) = false := by simp
          have HALL : Hid (∀ x ∈ G.treeE u, G'.me x = true) := Lib.hid (by
            have := HG.out.2
            rwa [List.take_of_length_le (by have := HM.out; omega)] at this)
          have HIN2 : Hid (u ∈ G'.vs) := Lib.hid (by rw [HG.out.1.vs]; exact HIN.out)
          go_wp2_with fail
          refine (bSomeE _ _ wr f G' HF.out u hu).mono ?_
          rw [G'.errV_in HIN2.out]
          rintro e w5 ⟨⟨x, rfl, hx, -⟩, b5⟩
          have HX := Lib.hid (hx HIN2.out)
          have T5 := Lib.hid (HT.out.trans (b5.mono HT.out.size))
          have OE5 := Lib.hid (HE.out.below b5)
          clear b5 hx
          have HXE : Hid (0 < k → x ∈ G.treeE u) := Lib.hid fun hk0 => by
            rcases HX.out with ⟨h1, -⟩ | ⟨h1, -⟩
            · exact ((G.riseE HIN.out).2 x).2 ((HG.out.1.inE u x).1 h1)
            · exfalso
              have hl : 0 < (G.treeE u).length := by have := HM.out; omega
              have hm0 := List.getElem_mem hl
              exact h1 _ ⟨(HG.out.1.inE u _).2 (((G.riseE HIN.out).2 _).1 hm0), HALL.out _ hm0⟩
          by_cases hk0 : k = 0
          · have hx0 : x = 0 := by
              rcases HX.out with ⟨h1, -⟩ | ⟨-, h1⟩
              · exfalso
                have h2 := ((G.riseE HIN.out).2 x).2 ((HG.out.1.inE u x).1 h1)
                rw [List.eq_nil_of_length_eq_zero (HM.out.symm.trans hk0)] at h2
                simp at h2
              · exact h1
            subst hk0
            subst hx0
            clear hkd hkl
            go_wp2_with fail
            go_ret
            exact ⟨rfl, T5.out⟩
          · have hkz : ((k : Int) == 0) = false := by simpa using hk0
            have HXM := Lib.hid (HXE.out (by omega))
            go_wp2_with fail
            refine (has_any _ _ w5 _ (OE5.out.rk encI_len (Nat.le_refl _)) x).mono ?_
            rw [decide_eq_true HXM.out]
            rintro e wx ⟨rfl, hwx⟩
            rw [hwx]
            clear hwx wx
            go_wp2_with fail
            go_ret
            exact ⟨rfl, T5.out⟩

end Go.Proofs.Ytlakcldgolpaiaa
