/-
  The walk of skeinref06.sorted.
-/
import Derived.Test.YtghacfhpafbdmaaGreatZT26
namespace Go.Proofs.YtghacfhpafbdmaaGreat
open Go.RowKit
set_option linter.unusedVariables false

def restW (e : Ed) (S : List Ed) (k : Nat) : Bool → List Ed
  | true => S.drop k
  | false => insW e (S.drop k)

theorem restW_t (e : Ed) (S : List Ed) (k : Nat) : restW e S k true = S.drop k := rfl

theorem restW_f (e : Ed) (S : List Ed) (k : Nat) : restW e S k false = insW e (S.drop k) := rfl

def SrtIn (W : World) (S : List Ed) (e : Ed) (m : Nat) (t d i : Value) (wi : World) : Prop := ∃ (k : Nat) (q : Bool) (O : List Ed), k ≤ m ∧ i = .int .i64 k ∧ d = .bool q ∧ Hid (O.length ≤ 2 * k) ∧ Hid (Below W.heap.size W wi) ∧ Hid (OK encE 4 47 wi W.heap.size t O) ∧ Hid (O ++ restW e S k q = insW e S)

set_option maxRecDepth 100000 in
set_option maxHeartbeats 8000000 in
theorem sorted_any (v : Value) (es : List Ed) (w : World) (he : RE w w.heap.size v es) (hl : es.length ≤ 100000) :
    Calls Tryz.prog 87 #[v] w fun e w' => ∃ x, e = .returned x ∧ OK encE 4 47 w' w.heap.size x (sortL es) ∧ Below w.heap.size w w' := by
  obtain ⟨A, c, rfl, -, -, -, HC⟩ := he.open_
  clear he
  obtain ⟨n, hn⟩ : ∃ n, n = es.length := ⟨_, rfl⟩
  rw [← hn] at hl ⊢
  have HN := Lib.hid hn
  clear hn
  go_enter Tryz.func87, Tryz.ntmps87
  go_wp2_with fail
  go_loopw [3, 4] (fun t i wr => ∃ (At : Option Addr) (ct k : Nat), k ≤ n ∧ t = .slice At k ct ∧ i = .int .i64 k ∧ Hid (Below w.heap.size w wr) ∧ Hid (OK encE 4 47 wr w.heap.size (.slice At k ct) (sortL (es.take k)))) (fun _ i _ => n - (intOf i).toNat)
  case atStart => exact ⟨_, 0, 0, Nat.zero_le _, rfl, rfl, Lib.hid ((Below.refl _ _).alloc (Nat.le_refl _) _), Lib.hid ⟨by simp [sortL], World.ownsRow_lit w #[] 0 (by omega) (by decide) rfl⟩⟩
  case round =>
    obtain ⟨At, ct, k, hk, rfl, rfl, HB, HO⟩ := hrel
    obtain ⟨Wo, hWo⟩ : ∃ W, W = wr := ⟨_, rfl⟩
    rw [← hWo] at HB HO ⊢
    clear hWo wr
    have hz := HB.out.size
    by_cases hkn : k < n
    · have hkv : k < es.length := by have := HN.out; omega
      obtain ⟨b, o, rfl, hb, hx⟩ := HC.out k hkv
      obtain ⟨⟨ei, eu, ev, ew⟩, hy⟩ : ∃ y, y = es[k] := ⟨_, rfl⟩
      have HTK := Lib.hid (List.take_succ_eq_append_getElem hkv)
      rw [← hy] at hx HTK
      have hkd : (k : Int) < (n : Int) := by omega
      obtain ⟨S, hS⟩ : ∃ S, S = sortL (es.take k) := ⟨_, rfl⟩
      have HSL : Hid (S.length = k) := Lib.hid (by rw [hS, sortL_len, List.length_take]; omega)
      have HSN : Hid (sortL (es.take (k + 1)) = insW ⟨ei, eu, ev, ew⟩ S) := Lib.hid (by rw [HTK.out, sortL_snoc, hS])
      rw [← hS] at HO
      clear hS
      have HR := Lib.hid (HO.out.rk (B' := Wo.heap.size) encE_len (Nat.le_refl _))
      obtain ⟨A2, c2, hA2, -, -, -, HD⟩ := HR.out.open_
      rw [HSL.out] at hA2
      injection hA2 with hA3 _ hA4
      subst hA3 hA4
      have HX : Hid (∀ W', Below Wo.heap.size Wo W' → W'.cell? ⟨b, o + k * 4, none⟩ = some (.int .i64 ei) ∧ W'.cell? ⟨b, o + k * 4 + 1, none⟩ = some (.int .i64 eu) ∧ W'.cell? ⟨b, o + k * 4 + 2, none⟩ = some (.int .i64 ev) ∧ W'.cell? ⟨b, o + k * 4 + 3, none⟩ = some (.int .i64 ew)) := Lib.hid (by
        obtain ⟨z0, z1, z2, z3⟩ := cellE hx
        intro W' hb'
        have hbb := HB.out.trans (hb'.mono hz)
        exact ⟨(hbb.cell (p := ⟨b, o + k * 4, none⟩) hb).trans z0, (hbb.cell (p := ⟨b, o + k * 4 + 1, none⟩) hb).trans z1, (hbb.cell (p := ⟨b, o + k * 4 + 2, none⟩) hb).trans z2, (hbb.cell (p := ⟨b, o + k * 4 + 3, none⟩) hb).trans z3⟩)
      clear hx hy
      go_wp2_with fail
      go_loopw [5, 6, 7] (fun t d i wi => SrtIn Wo S ⟨ei, eu, ev, ew⟩ k t d i wi) (fun _ _ i _ => k - (intOf i).toNat)
      case atStart => exact ⟨0, false, [], Nat.zero_le _, rfl, rfl, Lib.hid (by simp), Lib.hid ((Below.refl _ _).alloc (Nat.le_refl _) _), Lib.hid ⟨by simp, World.ownsRow_lit Wo #[] 0 (by omega) (by decide) rfl⟩, Lib.hid rfl⟩
      case round =>
        obtain ⟨wi, hwi⟩ : ∃ W, W = wr := ⟨_, rfl⟩
        rw [← hwi] at hrel ⊢
        clear hwi wr
        obtain ⟨j, q, O, hj, rfl, rfl, HOL, HB2, HO2, HI⟩ := hrel
        have hz2 := HB2.out.size
        have HLo := Lib.hid HO2.out.lt
        by_cases hjk : j < k
        · have hjv : j < S.length := by have := HSL.out; omega
          obtain ⟨b2, o2, rfl, hb2, hx2⟩ := HD.out j hjv
          obtain ⟨⟨yi, yu, yv, yw⟩, hy⟩ : ∃ y, y = S[j] := ⟨_, rfl⟩
          have HTJ : Hid (S.drop j = ⟨yi, yu, yv, yw⟩ :: S.drop (j + 1)) := Lib.hid (by rw [List.drop_eq_getElem_cons hjv, ← hy])
          rw [← hy] at hx2
          have HY : Hid (∀ W', Below Wo.heap.size Wo W' → (W'.cell? ⟨b, o + k * 4, none⟩ = some (.int .i64 ei) ∧ W'.cell? ⟨b, o + k * 4 + 1, none⟩ = some (.int .i64 eu) ∧ W'.cell? ⟨b, o + k * 4 + 2, none⟩ = some (.int .i64 ev) ∧ W'.cell? ⟨b, o + k * 4 + 3, none⟩ = some (.int .i64 ew)) ∧ W'.cell? ⟨b2, o2 + j * 4, none⟩ = some (.int .i64 yi) ∧ W'.cell? ⟨b2, o2 + j * 4 + 1, none⟩ = some (.int .i64 yu) ∧ W'.cell? ⟨b2, o2 + j * 4 + 2, none⟩ = some (.int .i64 yv) ∧ W'.cell? ⟨b2, o2 + j * 4 + 3, none⟩ = some (.int .i64 yw)) := Lib.hid (by
            obtain ⟨z0, z1, z2, z3⟩ := cellE hx2
            intro W' hb'
            exact ⟨HX.out W' hb', (hb'.cell (p := ⟨b2, o2 + j * 4, none⟩) hb2).trans z0, (hb'.cell (p := ⟨b2, o2 + j * 4 + 1, none⟩) hb2).trans z1, (hb'.cell (p := ⟨b2, o2 + j * 4 + 2, none⟩) hb2).trans z2, (hb'.cell (p := ⟨b2, o2 + j * 4 + 3, none⟩) hb2).trans z3⟩)
          clear hx2 hy
          have hjd : (j : Int) < (k : Int) := by omega
          cases q with
          | true =>
            go_wp2_with fail
            go_quiet (fail)
            obtain ⟨wd, hwd⟩ : ∃ wd, wd = wi.drewN nq := ⟨_, rfl⟩
            have HBd : Hid (Below Wo.heap.size Wo wd) := Lib.hid (by rw [hwd]; exact below_drewN HB2.out nq)
            have HOd : Hid (OK encE 4 47 wd Wo.heap.size _ O) := Lib.hid (by rw [hwd]; exact HO2.out.drewN nq)
            rw [← hwd]
            clear hwd
            obtain ⟨⟨x0, x1, x2, x3⟩, y0, y1, y2, y3⟩ := HY.out _ HBd.out
            have hzd := HBd.out.size
            go_wp2_with (at_builtin; refine wpList_app1 etEdges encE_len encE_one (y := (⟨yi, yu, yv, yw⟩ : Ed)) rfl (.tmp 42) (.tmp 47) rfl rfl (HOd.out.alloc _) wd.heap.size rfl (oneE wd ⟨yi, yu, yv, yw⟩ _) (by have := HOL.out; omega) (by simp; omega) ?_; intro v5 w5 ho5 hg5 hb5; have HO5 := Lib.hid ho5; have HG5 := Lib.hid hg5; clear ho5 hg5 hb5)
            go_roundw
            case measure => simp [intOf]; omega
            case rel =>
              refine ⟨j + 1, true, O ++ [⟨yi, yu, yv, yw⟩], by omega, by go_num, rfl, Lib.hid (by have := HOL.out; simp; omega), Lib.hid ((HBd.out.alloc hzd _).grown HG5.out (by simp; omega) (fun q hq => (HOd.out.lt q hq).1)), HO5, Lib.hid ?_⟩
              have := HI.out
              rw [restW_t, HTJ.out] at this
              rw [restW_t, List.append_assoc]; exact this
          | false =>
            obtain ⟨ab, hab⟩ : ∃ c, c = ltW ⟨ei, eu, ev, ew⟩ ⟨yi, yu, yv, yw⟩ := ⟨_, rfl⟩
            have HAB := Lib.hid hab
            clear hab
            go_wp2_with fail
            have HBW : Hid (Below Wo.heap.size Wo wi.drew) := Lib.hid (HB2.out.drew)
            have HD2 := Lib.hid (HY.out _ HBW.out)
            obtain ⟨⟨x0, x1, x2, x3⟩, y0, y1, y2, y3⟩ := HD2.out
            go_region_held3 (fun w' => (w'.cell? ⟨b, o + k * 4, none⟩ = some (.int .i64 ei) ∧ w'.cell? ⟨b, o + k * 4 + 1, none⟩ = some (.int .i64 eu) ∧ w'.cell? ⟨b, o + k * 4 + 2, none⟩ = some (.int .i64 ev) ∧ w'.cell? ⟨b, o + k * 4 + 3, none⟩ = some (.int .i64 ew)) ∧ w'.cell? ⟨b2, o2 + j * 4, none⟩ = some (.int .i64 yi) ∧ w'.cell? ⟨b2, o2 + j * 4 + 1, none⟩ = some (.int .i64 yu) ∧ w'.cell? ⟨b2, o2 + j * 4 + 2, none⟩ = some (.int .i64 yv) ∧ w'.cell? ⟨b2, o2 + j * 4 + 3, none⟩ = some (.int .i64 yw)) (first | with_reducible exact HD2.out | with_reducible exact HC2.out | fail)
              ((go_at_call 31; refine (Ahead_any ⟨ei, eu, ev, ew⟩ ⟨yi, yu, yv, yw⟩ _).mono ?_; rw [← HAB.out]; rintro e w3 ⟨rfl, t3⟩; have T3 := Lib.hid t3; have HB3 := Lib.hid (HBW.out.trans (t3.mono HBW.out.size)); have HC2 := Lib.hid (HY.out _ HB3.out); clear t3))
            have HO3 : Hid (OK encE 4 47 w3 Wo.heap.size _ O) := Lib.hid (HO2.out.drew.below T3.out)
            clear x0 x1 x2 x3 y0 y1 y2 y3
            obtain ⟨⟨x0, x1, x2, x3⟩, y0, y1, y2, y3⟩ := HY.out _ HB3.out
            have hz3 := HB3.out.size
            cases ab with
            | true =>
              have HG1 : Hid (∀ (ob : Obj) v5 w5, (w3.alloc ob).grownBy w5 v5 → (∀ q, v5 = some q → Wo.heap.size ≤ q) → Below Wo.heap.size Wo w5) := Lib.hid fun ob v5 w5 hg hq => (HB3.out.alloc hz3 _).grown hg (by simp; omega) hq
              go_wp2_with (first
                | (at_builtin; refine wpList_app1 etEdges encE_len encE_one (y := (⟨ei, eu, ev, ew⟩ : Ed)) rfl (.tmp 35) (.tmp 40) rfl rfl (HO3.out.alloc _) w3.heap.size rfl (oneE w3 ⟨ei, eu, ev, ew⟩ _) (by have := HOL.out; omega) (by simp; omega) ?_; intro v5 w5 ho5 hg5 hb5; have HO5 := Lib.hid ho5; have HB5 := Lib.hid (HG1.out _ _ _ hg5 (fun q hq => (HO3.out.lt q hq).1)); clear x0 x1 x2 x3 y0 y1 y2 y3 ho5 hg5 hb5; obtain ⟨⟨x0, x1, x2, x3⟩, y0, y1, y2, y3⟩ := HY.out _ HB5.out; have hz5 := HB5.out.size)
                | (at_builtin; refine wpList_app1 etEdges encE_len encE_one (y := (⟨yi, yu, yv, yw⟩ : Ed)) rfl (.tmp 42) (.tmp 47) rfl rfl (HO5.out.alloc _) w5.heap.size rfl (oneE w5 ⟨yi, yu, yv, yw⟩ _) (by have := HOL.out; simp; omega) (by simp; omega) ?_; intro v6 w6 ho6 hg6 hb6; have HO6 := Lib.hid ho6; have HG6 := Lib.hid hg6; clear ho6 hg6 hb6))
              go_roundw
              case measure => simp [intOf]; omega
              case rel =>
                refine ⟨j + 1, true, O ++ [⟨ei, eu, ev, ew⟩] ++ [⟨yi, yu, yv, yw⟩], by omega, by go_num, rfl, Lib.hid (by have := HOL.out; simp; omega), Lib.hid ((HB5.out.alloc hz5 _).grown HG6.out (by simp; omega) (fun q hq => (HO5.out.lt q hq).1)), HO6, Lib.hid ?_⟩
                have := HI.out
                rw [restW_f, HTJ.out, insW_cons, ← HAB.out, if_pos rfl] at this
                rw [restW_t, List.append_assoc, List.append_assoc]; exact this
            | false =>
              go_wp2_with (at_builtin; refine wpList_app1 etEdges encE_len encE_one (y := (⟨yi, yu, yv, yw⟩ : Ed)) rfl (.tmp 42) (.tmp 47) rfl rfl (HO3.out.alloc _) w3.heap.size rfl (oneE w3 ⟨yi, yu, yv, yw⟩ _) (by have := HOL.out; omega) (by simp; omega) ?_; intro v5 w5 ho5 hg5 hb5; have HO5 := Lib.hid ho5; have HG5 := Lib.hid hg5; clear ho5 hg5 hb5)
              go_roundw
              case measure => simp [intOf]; omega
              case rel =>
                refine ⟨j + 1, false, O ++ [⟨yi, yu, yv, yw⟩], by omega, by go_num, rfl, Lib.hid (by have := HOL.out; simp; omega), Lib.hid ((HB3.out.alloc hz3 _).grown HG5.out (by simp; omega) (fun q hq => (HO3.out.lt q hq).1)), HO5, Lib.hid ?_⟩
                have := HI.out
                rw [restW_f, HTJ.out, insW_cons, ← HAB.out, if_neg (by decide)] at this
                rw [restW_f, List.append_assoc]; exact this
        · obtain rfl : j = k := by omega
          have hjd : decide ((j : Int) < (j : Int)) = false := by simp
          obtain ⟨x0, x1, x2, x3⟩ := HX.out _ HB2.out
          cases q with
          | true =>
            have HF : Hid (O = insW ⟨ei, eu, ev, ew⟩ S) := Lib.hid (by
              have := HI.out
              rw [restW_t, List.drop_of_length_le (by have := HSL.out; omega), List.append_nil] at this
              exact this)
            obtain ⟨Au, cu, hu⟩ := HO2.out.slice
            have HU : Hid (O.length = j + 1) := Lib.hid (by rw [HF.out, (insW_perm _ _).length_eq, List.length_cons, HSL.out])
            rw [HU.out] at hu
            subst hu
            go_wp2_with fail
            go_roundw
            case measure => simp [intOf]; omega
            case rel => exact ⟨Au, cu, j + 1, by omega, rfl, by go_num, Lib.hid (HB.out.trans (HB2.out.mono hz)), Lib.hid (by rw [HSN.out, ← HF.out]; exact HO2.out.base hz)⟩
          | false =>
            have HF : Hid (O ++ [⟨ei, eu, ev, ew⟩] = insW ⟨ei, eu, ev, ew⟩ S) := Lib.hid (by
              have := HI.out
              rw [restW_f, List.drop_of_length_le (by have := HSL.out; omega)] at this
              exact this)
            go_wp2_with (at_builtin; refine wpList_app1 etEdges encE_len encE_one (y := (⟨ei, eu, ev, ew⟩ : Ed)) rfl (.tmp 51) (.tmp 56) rfl rfl (HO2.out.alloc _) wi.heap.size rfl (oneE wi ⟨ei, eu, ev, ew⟩ _) (by have := HOL.out; omega) (by simp; omega) ?_; intro v5 w5 ho5 hg5 hb5; have HO5 := Lib.hid ho5; have HG5 := Lib.hid hg5; clear ho5 hg5 hb5)
            obtain ⟨Au, cu, hu⟩ := HO5.out.slice
            have HU : Hid ((O ++ [(⟨ei, eu, ev, ew⟩ : Ed)]).length = j + 1) := Lib.hid (by rw [HF.out, (insW_perm _ _).length_eq, List.length_cons, HSL.out])
            rw [HU.out] at hu
            subst hu
            go_wp2_with fail
            go_roundw
            case measure => simp [intOf]; omega
            case rel => exact ⟨Au, cu, j + 1, by omega, rfl, by go_num, Lib.hid (HB.out.trans (((HB2.out.alloc hz2 _).grown HG5.out (by simp; omega) (fun q hq => (HLo.out q hq).1)).mono hz)), Lib.hid (by rw [HSN.out, ← HF.out]; exact HO5.out.base hz)⟩
    · obtain rfl : k = n := by omega
      have hkd : decide ((k : Int) < (k : Int)) = false := by simp
      go_wp2_with fail
      go_ret
      exact ⟨_, rfl, by have := HO.out; rwa [List.take_of_length_le (by have := HN.out; omega)] at this, HB.out⟩

end Go.Proofs.YtghacfhpafbdmaaGreat

/-
  The walk of skeinref06.Sets: each vertex's label is the least place that edges join it to.
-/
namespace Go.Proofs.YtghacfhpafbdmaaGreat
open Go.RowKit
set_option linter.unusedVariables false

theorem natsI_get {L : List Nat} {i x : Nat} (h : L[i]? = some x) : (natsI L)[i]? = some (x : Int) := by
  unfold natsI; rw [List.getElem?_map, h]; rfl

theorem place_q (v : Value) (V : List Int) (x : Int) (w : World) (B : Nat) (hv : RI w B v V) (hs : V.Pairwise (· < ·)) (hx : x ∈ V) :
    Calls Tryz.prog 46 #[v, .int .i64 x] w fun e w' => e = .returned (.int .i64 (pl V x : Nat)) ∧ w' = w :=
  (place_in v V x w B hv hs hx).mono fun e w' h => ⟨h.1, h.2.symm⟩

theorem ren_hit {a b x : Nat} (h : x = max a b) : ren a b x = min a b := by unfold ren; rw [if_pos h]
theorem ren_skip {a b x : Nat} (h : x ≠ max a b) : ren a b x = x := by unfold ren; rw [if_neg h]

theorem mapTo_id {f : Nat → Nat} (hf : ∀ x, f x = x) (L : List Nat) (k : Nat) : mapTo f L k = L := by
  unfold mapTo
  rw [show f = id from funext hf, List.map_id, List.take_append_drop]

set_option maxRecDepth 100000 in
set_option maxHeartbeats 8000000 in
theorem Sets_any (v ve : Value) (V : List Int) (es : List Ed) (w : World) (hv : RI w w.heap.size v V) (he : RE w w.heap.size ve es) (hs : V.Pairwise (· < ·)) (hin : ∀ e ∈ es, e.u ∈ V ∧ e.v ∈ V) (hl : V.length ≤ 100000) (hle : es.length ≤ 100000) :
    Calls Tryz.prog 45 #[v, ve] w fun e w' => ∃ x, e = .returned x ∧ OK encI 1 3 w' w.heap.size x (natsI (labs V es)) ∧ Below w.heap.size w w' := by
  have HV := Lib.hid hv
  obtain ⟨A, c, rfl, -, hc2, -, HC⟩ := hv.open_
  obtain ⟨A2, c2, rfl, -, hd2, -, HD⟩ := he.open_
  clear hv he
  obtain ⟨n, hnn⟩ : ∃ n, n = V.length := ⟨_, rfl⟩
  obtain ⟨m, hmm⟩ : ∃ m, m = es.length := ⟨_, rfl⟩
  rw [← hnn] at hl HV ⊢
  rw [← hmm] at hle ⊢
  have HN := Lib.hid hnn
  have HM := Lib.hid hmm
  have HS := Lib.hid hs
  have HIN := Lib.hid hin
  clear hs hnn hmm hin
  go_enter Tryz.func45, Tryz.ntmps45
  go_wp2
  go_loopw [5, 6] (fun t i wr => ∃ k : Nat, k ≤ n ∧ i = .int .i64 k ∧ Below w.heap.size w wr ∧ OK encI 1 3 wr w.heap.size t (natsI (List.range k))) (fun _ i wr => n - (intOf i).toNat)
  case atStart =>
    refine ⟨0, Nat.zero_le _, rfl, (Below.refl _ _).alloc (Nat.le_refl _) _, ?_⟩
    exact ⟨by simp [natsI], World.ownsRow_lit w #[] 0 (by omega) (by decide) rfl⟩
  case round =>
    obtain ⟨k, hk, rfl, hbel, ho⟩ := hrel
    have HB := Lib.hid hbel
    have HO := Lib.hid ho
    have hz := hbel.size
    have HLo := Lib.hid HO.out.lt
    clear hbel ho
    by_cases hlt : k < n
    · have HLN : Hid ((natsI (List.range k)).length = k) := Lib.hid (by simp [natsI])
      have HSX := Lib.hid (natsI_range_succ k)
      go_wp2_with (at_builtin; refine wpList_app1 etInts encI_len encI_one (y := (k : Int)) rfl (.tmp 19) (.tmp 21) rfl rfl (HO.out.alloc _) wr.heap.size rfl (oneI wr _ _) (by have := HLN.out; omega) (by simp; omega) ?_; intro v' w5 ho5 hg5 hb5; have HO5 := Lib.hid ho5; have HG5 := Lib.hid hg5; clear ho5 hg5 hb5)
      go_roundw
      case rel =>
        refine ⟨k + 1, by omega, by go_num, (HB.out.alloc (by omega) _).grown HG5.out (by simp; omega) (fun q hq => (HLo.out q hq).1), ?_⟩
        rw [HSX.out]; exact HO5.out
      case measure => simp [intOf]; omega
    · obtain rfl : k = n := by omega
      obtain ⟨At, ct, ht, -, -, -, -⟩ := (HO.out.rk encI_len (Nat.le_refl _)).open_
      have hln : (natsI (List.range k)).length = k := by simp [natsI]
      rw [hln] at ht
      subst ht
      clear HLo hln
      have HO2 : Hid (OK encI 1 3 wr w.heap.size (.slice At k ct) (natsI (labs V (es.take 0)))) := Lib.hid (by rw [show labs V (es.take 0) = List.range V.length from rfl, ← HN.out]; exact HO.out)
      clear HO
      go_wp2_with fail
      go_loopw [7] (fun i wr => ∃ j : Nat, j ≤ m ∧ i = .int .i64 j ∧ Hid (Below w.heap.size w wr) ∧ Hid (OK encI 1 3 wr w.heap.size (.slice At k ct) (natsI (labs V (es.take j))))) (fun i _ => m - (intOf i).toNat)
      case atStart => exact ⟨0, Nat.zero_le _, rfl, HB, HO2⟩
      case round =>
        clear HB HO2 hz
        obtain ⟨j, hj, rfl, HB, HO⟩ := hrel
        have hz := HB.out.size
        by_cases hjm : j < m
        · have hje : j < es.length := by have := HM.out; omega
          obtain ⟨b2, o2, rfl, hb2, hx⟩ := HD.out j hje
          obtain ⟨⟨id, p, q, wt⟩, hy⟩ : ∃ y, y = es[j] := ⟨_, rfl⟩
          have HSNOC := Lib.hid (labs_snoc V es j hje)
          have HY := Lib.hid (List.getElem_mem hje)
          rw [← hy] at hx HSNOC HY
          obtain ⟨-, x1, x2, -⟩ := cellE hx
          dsimp only at x1 x2 HSNOC
          have x1 := (HB.out.cell (p := ⟨b2, o2 + j * 4 + 1, none⟩) hb2).trans x1
          have x2 := (HB.out.cell (p := ⟨b2, o2 + j * 4 + 2, none⟩) hb2).trans x2
          obtain ⟨hp, hq⟩ := HIN.out _ HY.out
          dsimp only at hp hq
          obtain ⟨pi, hpi⟩ : ∃ k, k = pl V p := ⟨_, rfl⟩
          obtain ⟨qi, hqi⟩ : ∃ k, k = pl V q := ⟨_, rfl⟩
          have hpn : pi < k := by have := pl_lt HS.out hp; have := HN.out; omega
          have hqn : qi < k := by have := pl_lt HS.out hq; have := HN.out; omega
          have HP := Lib.hid hp
          have HQ := Lib.hid hq
          obtain ⟨L, hL⟩ : ∃ L, L = labs V (es.take j) := ⟨_, rfl⟩
          have HLEN : Hid (L.length = k) := Lib.hid (by rw [hL, labs_len]; exact HN.out.symm)
          rw [← hpi, ← hqi, ← hL] at HSNOC
          rw [← hL] at HO
          have HPI := Lib.hid hpi
          have HQI := Lib.hid hqi
          obtain ⟨b5, c5, hsh, -, -⟩ := HO.out.shape (by rw [natsI_len, HLEN.out]; omega)
          injection hsh with hs1 hs2 hs3
          subst hs1 hs3
          clear hs2 hx hy hp hq hpi hqi hL
          obtain ⟨la, hla⟩ : ∃ a : Int, a = (lab L pi : Nat) := ⟨_, rfl⟩
          obtain ⟨lb, hlb⟩ : ∃ b : Int, b = (lab L qi : Nat) := ⟨_, rfl⟩
          have y1 : wr.cell? ⟨b5, pi, none⟩ = some (.int .i64 la) := by
            have := HO.out.cellK encI_len (i := pi) (j := 0) (x := la) (by rw [hla]; exact natsI_at (by rw [HLEN.out]; exact hpn)) rfl
            simpa using this
          have y2 : wr.cell? ⟨b5, qi, none⟩ = some (.int .i64 lb) := by
            have := HO.out.cellK encI_len (i := qi) (j := 0) (x := lb) (by rw [hlb]; exact natsI_at (by rw [HLEN.out]; exact hqn)) rfl
            simpa using this
          have HVR := Lib.hid (HV.out.below HB.out)
          have HP1 : Hid (∀ n, _) := Lib.hid fun n => Calls.quiet_of_same (w := wr) (n := n) (place_q _ V p _ _ (HVR.out.drewN n) HS.out HP.out)
          have HP2 : Hid (∀ n, _) := Lib.hid fun n => Calls.quiet_of_same (w := wr) (n := n) (place_q _ V q _ _ (HVR.out.drewN n) HS.out HQ.out)
          rw [← HPI.out] at HP1
          rw [← HQI.out] at HP2
          have HLA := Lib.hid hla
          have HLB := Lib.hid hlb
          clear hla hlb
          have hjn : decide ((j : Int) < (m : Int)) = true := by simpa using hjm
          have hpd : (pi : Int) < (k : Int) := by omega
          have hqd : (qi : Int) < (k : Int) := by omega
          go_wp2_with fail
          go_quiet (first
            | (go_at_call 46; with_reducible exact HP1.out _)
            | (go_at_call 46; with_reducible exact HP2.out _))
          have HBd : Hid (Below w.heap.size w (wr.drewN nq)) := Lib.hid (below_drewN HB.out nq)
          have HOd : Hid (OK encI 1 3 (wr.drewN nq) w.heap.size (.slice (some ⟨b5, 0, none⟩) k ct) (natsI L)) := Lib.hid (HO.out.drewN nq)
          obtain ⟨wd, hwd⟩ : ∃ wd, wd = wr.drewN nq := ⟨_, rfl⟩
          rw [← hwd] at HBd HOd ⊢
          clear hwd y1 y2 x1 x2 HB HO HVR HP1 HP2 hpd hqd
          have hkj : j ≤ 100000 := by omega
          by_cases hgt : la > lb
          · have hgd : decide (la > lb) = true := by simpa using hgt
            have HMX : Hid (la = (max (lab L pi) (lab L qi) : Nat)) := Lib.hid (by have := HLA.out; have := HLB.out; omega)
            have HMN : Hid (lb = (min (lab L pi) (lab L qi) : Nat)) := Lib.hid (by have := HLA.out; have := HLB.out; omega)
            go_wp2_with fail
            go_loopw [11] (fun i wr => ∃ i2 : Nat, i2 ≤ k ∧ i = .int .i64 i2 ∧ Hid (Below w.heap.size w wr) ∧ Hid (OK encI 1 3 wr w.heap.size (.slice (some ⟨b5, 0, none⟩) k ct) (natsI (mapTo (ren (lab L pi) (lab L qi)) L i2)))) (fun i _ => k - (intOf i).toNat)
            case atStart => exact ⟨0, Nat.zero_le _, rfl, HBd, Lib.hid (by rw [mapTo_zero]; exact HOd.out)⟩
            case round =>
              clear HBd HOd
              obtain ⟨i2, hi2, rfl, HB, HO⟩ := hrel
              have hab : lb ≠ la := by omega
              have hne : (lb != la) = true := by simpa using hab
              by_cases hik : i2 < k
              · have hiv : i2 < L.length := by have := HLEN.out; omega
                obtain ⟨xl, hxl⟩ : ∃ x, x = L[i2] := ⟨_, rfl⟩
                have HAT : Hid ((mapTo (ren (lab L pi) (lab L qi)) L i2)[i2]? = some xl) := Lib.hid (by rw [mapTo_at hiv, hxl])
                have HXL : Hid (∃ h : i2 < L.length, L[i2] = xl) := Lib.hid ⟨hiv, hxl.symm⟩
                clear hxl
                obtain ⟨lx, hlx⟩ : ∃ l : Int, l = (xl : Nat) := ⟨_, rfl⟩
                have y3 : wr.cell? ⟨b5, i2, none⟩ = some (.int .i64 lx) := by
                  have := HO.out.cellK encI_len (i := i2) (j := 0) (x := lx) (by rw [hlx]; exact natsI_get HAT.out) rfl
                  simpa using this
                have y4 : wr.frozen? ⟨b5, i2, none⟩ = false := HO.out.frozenK i2
                have HLX := Lib.hid hlx
                have HLO := Lib.hid ((HO.out.lt b5 rfl).1)
                clear hlx
                have hkd : decide ((i2 : Int) < (k : Int)) = true := by simpa using hik
                have hik2 : (i2 : Int) < (k : Int) := by omega
                by_cases hxb : lx = la
                · have hxd : (lx == la) = true := by simpa using hxb
                  have HHIT : Hid (natsI (mapTo (ren (lab L pi) (lab L qi)) L (i2 + 1)) = (natsI (mapTo (ren (lab L pi) (lab L qi)) L i2)).set i2 lb) := Lib.hid (by
                    obtain ⟨h1, h2⟩ := HXL.out
                    rw [mapTo_succ h1, h2, natsI_set, ren_hit (by have := HLX.out; have := HMX.out; omega), HMN.out])
                  go_wp2_with fail
                  go_roundw
                  case rel =>
                    refine ⟨i2 + 1, by omega, by go_num, Lib.hid (HB.out.setCell (p := ⟨b5, i2, none⟩) HLO.out _), Lib.hid ?_⟩
                    rw [HHIT.out]
                    have := HO.out.setK encI_len (i := i2) (j := 0) (x := (xl : Int)) (x' := lb) (u := .int .i64 lb) (natsI_get HAT.out) (by omega) rfl
                    simpa using this
                  case measure => simp [intOf]; omega
                · have hxd : (lx == la) = false := by simpa using hxb
                  have HSKIP : Hid (mapTo (ren (lab L pi) (lab L qi)) L (i2 + 1) = mapTo (ren (lab L pi) (lab L qi)) L i2) := Lib.hid (by
                    obtain ⟨h1, h2⟩ := HXL.out
                    exact mapTo_skip h1 (by rw [h2]; exact ren_skip (by have := HLX.out; have := HMX.out; omega)))
                  go_wp2_with fail
                  go_roundw
                  case rel =>
                    refine ⟨i2 + 1, by omega, by go_num, HB, Lib.hid ?_⟩
                    rw [HSKIP.out]
                    exact HO.out
                  case measure => simp [intOf]; omega
              · have hkd : decide ((i2 : Int) < (k : Int)) = false := by simp; omega
                go_wp2_with fail
                go_roundw
                case rel =>
                  refine ⟨j + 1, by omega, by go_num, HB, Lib.hid ?_⟩
                  have := HO.out
                  rw [mapTo_all (by have := HLEN.out; omega)] at this
                  rw [HSNOC.out]
                  exact this
                case measure => simp [intOf]; omega
          · have hgd : decide (la > lb) = false := by simpa using hgt
            have HMX : Hid (lb = (max (lab L pi) (lab L qi) : Nat)) := Lib.hid (by have := HLA.out; have := HLB.out; omega)
            have HMN : Hid (la = (min (lab L pi) (lab L qi) : Nat)) := Lib.hid (by have := HLA.out; have := HLB.out; omega)
            go_wp2_with fail
            go_loopw [11] (fun i wr => ∃ i2 : Nat, i2 ≤ k ∧ i = .int .i64 i2 ∧ Hid (Below w.heap.size w wr) ∧ Hid (OK encI 1 3 wr w.heap.size (.slice (some ⟨b5, 0, none⟩) k ct) (natsI (mapTo (ren (lab L pi) (lab L qi)) L i2)))) (fun i _ => k - (intOf i).toNat)
            case atStart => exact ⟨0, Nat.zero_le _, rfl, HBd, Lib.hid (by rw [mapTo_zero]; exact HOd.out)⟩
            case round =>
              clear HBd HOd
              obtain ⟨i2, hi2, rfl, HB, HO⟩ := hrel
              by_cases hab : la = lb
              · have HEQ : Hid (lab L pi = lab L qi) := Lib.hid (by have := HLA.out; have := HLB.out; omega)
                have HSAME : Hid (OK encI 1 3 wr w.heap.size (.slice (some ⟨b5, 0, none⟩) k ct) (natsI (labs V (es.take (j + 1))))) := Lib.hid (by
                  have := HO.out
                  rw [HEQ.out, mapTo_id (fun x => ren_self _ x)] at this
                  rw [HSNOC.out, joinL_same HEQ.out]; exact this)
                subst hab
                have hne : (la != la) = false := by simp
                by_cases hik : i2 < k
                · have hkd : decide ((i2 : Int) < (k : Int)) = true := by simpa using hik
                  go_wp2_with fail
                  go_roundw
                  case rel => exact ⟨j + 1, by omega, by go_num, HB, HSAME⟩
                  case measure => simp [intOf]; omega
                · have hkd : decide ((i2 : Int) < (k : Int)) = false := by simp; omega
                  go_wp2_with fail
                  go_roundw
                  case rel => exact ⟨j + 1, by omega, by go_num, HB, HSAME⟩
                  case measure => simp [intOf]; omega
              have hab : la ≠ lb := by omega
              have hne : (la != lb) = true := by simpa using hab
              by_cases hik : i2 < k
              · have hiv : i2 < L.length := by have := HLEN.out; omega
                obtain ⟨xl, hxl⟩ : ∃ x, x = L[i2] := ⟨_, rfl⟩
                have HAT : Hid ((mapTo (ren (lab L pi) (lab L qi)) L i2)[i2]? = some xl) := Lib.hid (by rw [mapTo_at hiv, hxl])
                have HXL : Hid (∃ h : i2 < L.length, L[i2] = xl) := Lib.hid ⟨hiv, hxl.symm⟩
                clear hxl
                obtain ⟨lx, hlx⟩ : ∃ l : Int, l = (xl : Nat) := ⟨_, rfl⟩
                have y3 : wr.cell? ⟨b5, i2, none⟩ = some (.int .i64 lx) := by
                  have := HO.out.cellK encI_len (i := i2) (j := 0) (x := lx) (by rw [hlx]; exact natsI_get HAT.out) rfl
                  simpa using this
                have y4 : wr.frozen? ⟨b5, i2, none⟩ = false := HO.out.frozenK i2
                have HLX := Lib.hid hlx
                have HLO := Lib.hid ((HO.out.lt b5 rfl).1)
                clear hlx
                have hkd : decide ((i2 : Int) < (k : Int)) = true := by simpa using hik
                have hik2 : (i2 : Int) < (k : Int) := by omega
                by_cases hxb : lx = lb
                · have hxd : (lx == lb) = true := by simpa using hxb
                  have HHIT : Hid (natsI (mapTo (ren (lab L pi) (lab L qi)) L (i2 + 1)) = (natsI (mapTo (ren (lab L pi) (lab L qi)) L i2)).set i2 la) := Lib.hid (by
                    obtain ⟨h1, h2⟩ := HXL.out
                    rw [mapTo_succ h1, h2, natsI_set, ren_hit (by have := HLX.out; have := HMX.out; omega), HMN.out])
                  go_wp2_with fail
                  go_roundw
                  case rel =>
                    refine ⟨i2 + 1, by omega, by go_num, Lib.hid (HB.out.setCell (p := ⟨b5, i2, none⟩) HLO.out _), Lib.hid ?_⟩
                    rw [HHIT.out]
                    have := HO.out.setK encI_len (i := i2) (j := 0) (x := (xl : Int)) (x' := la) (u := .int .i64 la) (natsI_get HAT.out) (by omega) rfl
                    simpa using this
                  case measure => simp [intOf]; omega
                · have hxd : (lx == lb) = false := by simpa using hxb
                  have HSKIP : Hid (mapTo (ren (lab L pi) (lab L qi)) L (i2 + 1) = mapTo (ren (lab L pi) (lab L qi)) L i2) := Lib.hid (by
                    obtain ⟨h1, h2⟩ := HXL.out
                    exact mapTo_skip h1 (by rw [h2]; exact ren_skip (by have := HLX.out; have := HMX.out; omega)))
                  go_wp2_with fail
                  go_roundw
                  case rel =>
                    refine ⟨i2 + 1, by omega, by go_num, HB, Lib.hid ?_⟩
                    rw [HSKIP.out]
                    exact HO.out
                  case measure => simp [intOf]; omega
              · have hkd : decide ((i2 : Int) < (k : Int)) = false := by simp; omega
                go_wp2_with fail
                go_roundw
                case rel =>
                  refine ⟨j + 1, by omega, by go_num, HB, Lib.hid ?_⟩
                  have := HO.out
                  rw [mapTo_all (by have := HLEN.out; omega)] at this
                  rw [HSNOC.out]
                  exact this
                case measure => simp [intOf]; omega
        · obtain rfl : j = m := by omega
          have hjd : decide ((j : Int) < (j : Int)) = false := by simp
          go_wp2_with fail
          go_ret
          exact ⟨_, rfl, by have := HO.out; rwa [List.take_of_length_le (by have := HM.out; omega)] at this, HB.out⟩

end Go.Proofs.YtghacfhpafbdmaaGreat

/-
  The walk of skeinref06.Taken: the forest's edges by (W, Id).
-/
namespace Go.Proofs.YtghacfhpafbdmaaGreat
open Go.RowKit
set_option linter.unusedVariables false

theorem relN_hit {a b x : Nat} (h : x = b) : relN a b x = a := by unfold relN; rw [if_pos h]
theorem relN_skip {a b x : Nat} (h : x ≠ b) : relN a b x = x := by unfold relN; rw [if_neg h]

theorem OK.farCell {α : Type} {enc : α → List Value} {k E : Nat} {w : World} {B b i : Nat} {v : Value} {xs : List α} (h : OK enc k E w B v xs) (hne : v.ownBlock = none ∨ v.ownBlock ≠ some b) (u : Value) : OK enc k E (w.setCell ⟨b, i, none⟩ u) B v xs :=
  h.same fun g hg => Below.heap_setCell _ ⟨b, i, none⟩ _ _ (by
    intro e
    have e : g = b := e
    rcases hne with h1 | h1
    · rw [h1] at hg; cases hg
    · exact h1 (by rw [hg, e]))

/-- The document's row of what it takes, and its labels, behind the first j edges. -/
structure TkAt (Wo wr : World) (V : List Int) (S : List Ed) (b5 ct k : Nat) (o : Value) (j : Nat) (M : List Nat) (out : List Ed) : Prop where
  took : Took V S j M out
  low : Below Wo.heap.size Wo wr
  set : OK encI 1 3 wr Wo.heap.size (.slice (some ⟨b5, 0, none⟩) k ct) (natsI M)
  row : OK encE 4 47 wr Wo.heap.size o out

set_option maxRecDepth 100000 in
set_option maxHeartbeats 8000000 in
theorem Taken_any (sv se : Value) (V : List Int) (E : List Ed) (w : World) (B : Nat) (hv : RI w B sv V) (he : RE w B se E) (hB : B ≤ w.heap.size) (hr : Right V E) :
    Calls Tryz.prog 50 #[netV sv se] w fun e w' => ∃ x, e = .returned x ∧ OK encE 4 47 w' w.heap.size x (forE V E) ∧ Below w.heap.size w w' := by
  have HV := Lib.hid (hv.more hB)
  have HE := Lib.hid (he.more hB)
  obtain ⟨Av, cv, rfl, -, -, -, HC⟩ := HV.out.open_
  obtain ⟨Ae, ce, rfl, -, -, -, -⟩ := HE.out.open_
  clear hv he
  have hlV : V.length ≤ 2048 := hr.vlen
  have hlE : E.length ≤ 2048 := hr.elen
  obtain ⟨n, hn⟩ : ∃ n, n = V.length := ⟨_, rfl⟩
  obtain ⟨ne, hne⟩ : ∃ n, n = E.length := ⟨_, rfl⟩
  rw [← hn] at HV hlV ⊢
  rw [← hne] at HE hlE ⊢
  have HN := Lib.hid hn
  have HR := Lib.hid hr
  have HNE := Lib.hid hne
  clear hr hn hne
  go_enter Tryz.func50, Tryz.ntmps50
  go_wp2_with fail
  have hz0 : (w.alloc (.cells #[.slice Av n cv, .slice Ae ne ce] 25)).heap.size = w.heap.size + 1 := by simp
  have HE1 : Hid (RE (w.alloc (.cells #[.slice Av n cv, .slice Ae ne ce] 25)) (w.alloc (.cells #[.slice Av n cv, .slice Ae ne ce] 25)).heap.size (.slice Ae ne ce) E) := Lib.hid ((HE.out.alloc (Nat.le_refl _) _).more (by omega))
  refine (sorted_any _ E _ HE1.out (by have := HNE.out; omega)).mono ?_
  rintro e Wo ⟨x, rfl, hx, hb⟩
  rw [sortL_eq HR.out.eup] at hx
  have HNb : Hid (Blk Wo w.heap.size 25 #[.slice Av n cv, .slice Ae ne ce]) := Lib.hid ((Blk.new w 25 #[.slice Av n cv, .slice Ae ne ce]).below hb (by omega))
  have HBo : Hid (Below w.heap.size w Wo) := Lib.hid (((Below.refl _ _).alloc (Nat.le_refl _) _).trans (hb.mono (by omega)))
  have hzo := HNb.out.lt
  obtain ⟨S, hS⟩ : ∃ S, S = sortE E := ⟨_, rfl⟩
  rw [← hS] at hx
  have HSS := Lib.hid hS
  obtain ⟨As, cs, rfl, -, -, -, HD⟩ := (hx.rk (B' := Wo.heap.size) encE_len (Nat.le_refl _)).open_
  obtain ⟨m, hm⟩ : ∃ m, m = S.length := ⟨_, rfl⟩
  rw [← hm]
  have hmn : m ≤ 2048 := by rw [hm, hS, (sortE_perm E).length_eq]; have := HNE.out; omega
  have HM := Lib.hid hm
  have HVo := Lib.hid ((HV.out.below HBo.out).more (B' := Wo.heap.size) (by omega))
  have HIN : Hid (∀ e ∈ S, e.u ∈ V ∧ e.v ∈ V) := Lib.hid fun e he => by
    rw [hS] at he
    have he := (sortE_perm E).mem_iff.1 he
    exact ⟨HR.out.eu e he, HR.out.ev e he⟩
  have HVU := Lib.hid HR.out.vup
  clear hx hb hS hm HE1 hz0
  go_wp2_with fail
  go_loopw [4, 5] (fun t i wr => ∃ k : Nat, k ≤ n ∧ i = .int .i64 k ∧ Hid (Below Wo.heap.size Wo wr) ∧ Hid (OK encI 1 3 wr Wo.heap.size t (natsI (List.range k)))) (fun _ i _ => n - (intOf i).toNat)
  case atStart => exact ⟨0, Nat.zero_le _, rfl, Lib.hid ((Below.refl _ _).alloc (Nat.le_refl _) _), Lib.hid ⟨by simp [natsI], World.ownsRow_lit Wo #[] 0 (by omega) (by decide) rfl⟩⟩
  case round =>
    obtain ⟨k, hk, rfl, HB, HO⟩ := hrel
    have hz := HB.out.size
    have HLo := Lib.hid HO.out.lt
    have hnb := HNb.out.below HB.out hzo
    have d0 := hnb.cell 0
    have d1 := hnb.cell 1
    by_cases hlt : k < n
    · have hkd : (k : Int) < (n : Int) := by omega
      have HLN : Hid ((natsI (List.range k)).length = k) := Lib.hid (by simp [natsI])
      have HSX := Lib.hid (natsI_range_succ k)
      clear hnb
      go_wp2_with (at_builtin; refine wpList_app1 etInts encI_len encI_one (y := (k : Int)) rfl (.tmp 22) (.tmp 24) rfl rfl (HO.out.alloc _) wr.heap.size rfl (oneI wr _ _) (by have := HLN.out; omega) (by simp; omega) ?_; intro v' w5 ho5 hg5 hb5; have HO5 := Lib.hid ho5; have HG5 := Lib.hid hg5; clear ho5 hg5 hb5)
      go_roundw
      case rel =>
        refine ⟨k + 1, by omega, by go_num, Lib.hid ((HB.out.alloc (by omega) _).grown HG5.out (by simp; omega) (fun q hq => (HLo.out q hq).1)), Lib.hid ?_⟩
        rw [HSX.out]; exact HO5.out
      case measure => simp [intOf]; omega
    · obtain rfl : k = n := by omega
      obtain ⟨At, ct, ht, -, -, -, -⟩ := (HO.out.rk encI_len (Nat.le_refl _)).open_
      have hln : (natsI (List.range k)).length = k := by simp [natsI]
      rw [hln] at ht
      subst ht
      clear HLo hln hnb hk hlt
      obtain ⟨W1, hW1⟩ : ∃ W, W = wr := ⟨_, rfl⟩
      rw [← hW1] at HB HO hz d0 d1 ⊢
      clear hW1 wr
      have hkd : decide ((k : Int) < (k : Int)) = false := by simp
      have HST : Hid (OK encE 4 47 (W1.alloc (.cells #[] 47)) Wo.heap.size (.slice (some ⟨W1.heap.size, 0, none⟩) 0 0) []) := Lib.hid ((show OK encE 4 47 (W1.alloc (.cells #[] 47)) W1.heap.size (.slice (some ⟨W1.heap.size, 0, none⟩) 0 0) [] from ⟨by simp, World.ownsRow_lit W1 #[] 0 (by omega) (by decide) rfl⟩).base hz)
      go_wp2_with fail
      go_loopw [6, 7] (fun t i wr => ∃ (A6 : Option Addr) (m6 c6 j : Nat) (M : List Nat) (out : List Ed), j ≤ m ∧ t = .slice A6 m6 c6 ∧ i = .int .i64 j ∧ Hid (Took V S j M out) ∧ Hid (Below Wo.heap.size Wo wr) ∧ Hid (OK encI 1 3 wr Wo.heap.size (.slice At k ct) (natsI M)) ∧ Hid (OK encE 4 47 wr Wo.heap.size (.slice A6 m6 c6) out)) (fun _ i _ => m - (intOf i).toNat)
      case atStart => exact ⟨_, _, _, 0, List.range V.length, [], Nat.zero_le _, rfl, rfl, Lib.hid (Took.start V S), Lib.hid (HB.out.alloc hz _), Lib.hid (by rw [← HN.out]; exact HO.out.alloc _), HST⟩
      case round =>
        clear HB HO hz d0 d1 HST
        obtain ⟨A6, m6, c6, j, M, out, hj, rfl, rfl, HT, HB, HO, HP⟩ := hrel
        have hz := HB.out.size
        have hnb := HNb.out.below HB.out hzo
        have d0 := hnb.cell 0
        have d1 := hnb.cell 1
        by_cases hjm : j < m
        · have hjv : j < S.length := by have := HM.out; omega
          obtain ⟨b2, o2, rfl, hb2, hx⟩ := HD.out j hjv
          obtain ⟨⟨id, p, q, wt⟩, hy⟩ : ∃ y, y = S[j] := ⟨_, rfl⟩
          have HYE : Hid (∃ h : j < S.length, S[j] = ⟨id, p, q, wt⟩) := Lib.hid ⟨hjv, hy.symm⟩
          have HY := Lib.hid (HIN.out _ (List.getElem_mem hjv))
          rw [← hy] at hx HY
          have HXX : Hid (∀ W', Below Wo.heap.size Wo W' → W'.cell? ⟨b2, o2 + j * 4, none⟩ = some (.int .i64 id) ∧ W'.cell? ⟨b2, o2 + j * 4 + 1, none⟩ = some (.int .i64 p) ∧ W'.cell? ⟨b2, o2 + j * 4 + 2, none⟩ = some (.int .i64 q) ∧ W'.cell? ⟨b2, o2 + j * 4 + 3, none⟩ = some (.int .i64 wt)) := Lib.hid (by
            obtain ⟨z0, z1, z2, z3⟩ := cellE hx
            exact fun W' hb => ⟨(hb.cell (p := ⟨b2, o2 + j * 4, none⟩) hb2).trans z0, (hb.cell (p := ⟨b2, o2 + j * 4 + 1, none⟩) hb2).trans z1, (hb.cell (p := ⟨b2, o2 + j * 4 + 2, none⟩) hb2).trans z2, (hb.cell (p := ⟨b2, o2 + j * 4 + 3, none⟩) hb2).trans z3⟩)
          obtain ⟨hp, hq⟩ := HY.out
          dsimp only at hp hq
          obtain ⟨pi, hpi⟩ : ∃ k, k = pl V p := ⟨_, rfl⟩
          obtain ⟨qi, hqi⟩ : ∃ k, k = pl V q := ⟨_, rfl⟩
          have hpn : pi < k := by have := pl_lt HVU.out hp; have := HN.out; omega
          have hqn : qi < k := by have := pl_lt HVU.out hq; have := HN.out; omega
          have HLEN : Hid (M.length = k) := Lib.hid (by rw [HT.out.len]; exact HN.out.symm)
          obtain ⟨b5, c5, hsh, -, -⟩ := HO.out.shape (by rw [natsI_len, HLEN.out]; omega)
          injection hsh with hs1 hs2 hs3
          subst hs1 hs3
          obtain ⟨la, hla⟩ : ∃ a : Int, a = (lab M pi : Nat) := ⟨_, rfl⟩
          obtain ⟨lb, hlb⟩ : ∃ b : Int, b = (lab M qi : Nat) := ⟨_, rfl⟩
          have y1 : wr.cell? ⟨b5, pi, none⟩ = some (.int .i64 la) := by
            have := HO.out.cellK encI_len (i := pi) (j := 0) (x := la) (by rw [hla]; exact natsI_at (by rw [HLEN.out]; exact hpn)) rfl
            simpa using this
          have y2 : wr.cell? ⟨b5, qi, none⟩ = some (.int .i64 lb) := by
            have := HO.out.cellK encI_len (i := qi) (j := 0) (x := lb) (by rw [hlb]; exact natsI_at (by rw [HLEN.out]; exact hqn)) rfl
            simpa using this
          have HVR := Lib.hid (HVo.out.below HB.out)
          have HP1 : Hid (∀ n, _) := Lib.hid fun n => Calls.quiet_of_same (w := wr) (n := n) (place_q _ V p _ _ (HVR.out.drewN n) HVU.out hp)
          have HP2 : Hid (∀ n, _) := Lib.hid fun n => Calls.quiet_of_same (w := wr) (n := n) (place_q _ V q _ _ (HVR.out.drewN n) HVU.out hq)
          rw [← hpi] at HP1
          rw [← hqi] at HP2
          have HPLE : Hid (plE V ⟨id, p, q, wt⟩ = (pi, qi)) := Lib.hid (by rw [hpi, hqi]; rfl)
          have HLA := Lib.hid hla
          have HLB := Lib.hid hlb
          obtain ⟨x0, x1, x2, x3⟩ := HXX.out _ HB.out
          have hpd : (pi : Int) < (k : Int) := by omega
          have hqd : (qi : Int) < (k : Int) := by omega
          have hjd : (j : Int) < (m : Int) := by omega
          have HPN := Lib.hid hpn
          have HQN := Lib.hid hqn
          clear hla hlb hx hy hp hq hpi hqi hs2 hnb hpn hqn
          go_wp2_with fail
          go_quiet (first
            | (go_at_call 46; with_reducible exact HP1.out _)
            | (go_at_call 46; with_reducible exact HP2.out _))
          have HBd : Hid (Below Wo.heap.size Wo (wr.drewN nq)) := Lib.hid (below_drewN HB.out nq)
          have HOd : Hid (OK encI 1 3 (wr.drewN nq) Wo.heap.size (.slice (some ⟨b5, 0, none⟩) k ct) (natsI M)) := Lib.hid (HO.out.drewN nq)
          have HPd : Hid (OK encE 4 47 (wr.drewN nq) Wo.heap.size (.slice A6 m6 c6) out) := Lib.hid (HP.out.drewN nq)
          obtain ⟨wd, hwd⟩ : ∃ wd, wd = wr.drewN nq := ⟨_, rfl⟩
          rw [← hwd] at HBd HOd HPd ⊢
          clear hwd y1 y2 x0 x1 x2 x3 HB HO HP HVR HP1 HP2 hpd hqd d0 d1 hz
          have hzd := HBd.out.size
          have HBX : Hid ((plE V (⟨id, p, q, wt⟩ : Ed)).1 < V.length ∧ (plE V (⟨id, p, q, wt⟩ : Ed)).2 < V.length) := Lib.hid (by rw [HPLE.out]; have := HPN.out; have := HQN.out; have := HN.out; dsimp only; omega)
          by_cases hab : la = lb
          · have HTS : Hid (Took V S (j + 1) M out) := Lib.hid (by
              obtain ⟨h1, h2⟩ := HYE.out
              refine HT.out.skip h1 (by rw [h2]; exact HBX.out) ?_
              rw [h2, HPLE.out]
              have := HLA.out; have := HLB.out
              show lab M pi = lab M qi
              omega)
            subst hab
            have hne : (la != la) = false := by simp
            go_wp2_with fail
            go_roundw
            case rel => exact ⟨A6, m6, c6, j + 1, M, out, by omega, rfl, by go_num, HTS, HBd, HOd, HPd⟩
            case measure => simp [intOf]; omega
          · have HTS : Hid (Took V S (j + 1) (M.map (relN (lab M pi) (lab M qi))) (out ++ [⟨id, p, q, wt⟩])) := Lib.hid (by
              obtain ⟨h1, h2⟩ := HYE.out
              have := HT.out.take h1 (by rw [h2]; exact HBX.out) (by
                rw [h2, HPLE.out]
                have := HLA.out; have := HLB.out
                show lab M pi ≠ lab M qi
                omega)
              rw [h2, HPLE.out] at this
              exact this)
            have hne : (la != lb) = true := by simpa using hab
            have HOL := Lib.hid HT.out.outLen
            obtain ⟨x0, x1, x2, x3⟩ := HXX.out _ HBd.out
            have HG1 : Hid (∀ (ob : Obj) w5, (wd.alloc ob).grownBy w5 (Value.slice A6 m6 c6).ownBlock → Below Wo.heap.size Wo w5 ∧ OK encI 1 3 w5 Wo.heap.size (.slice (some ⟨b5, 0, none⟩) k ct) (natsI M)) := Lib.hid fun ob w5 hg =>
              ⟨(HBd.out.alloc hzd _).grown hg (by simp; omega) (fun q hq => (HPd.out.lt q hq).1), (HOd.out.alloc ob).kept hg (own_ne (HOd.out.alloc ob) (HPd.out.alloc ob) (by decide))⟩
            go_wp2_with (at_builtin; refine wpList_app1 etEdges encE_len encE_one (y := (⟨id, p, q, wt⟩ : Ed)) rfl (.tmp 58) (.tmp 63) rfl rfl (HPd.out.alloc _) wd.heap.size rfl (oneE wd ⟨id, p, q, wt⟩ _) (by have := HOL.out; omega) (by simp; omega) ?_; intro v5 w5 ho5 hg5 hb5; have HO5 := Lib.hid ho5; have HB5 := Lib.hid (HG1.out _ _ hg5).1; have HS5 := Lib.hid (HG1.out _ _ hg5).2; clear ho5 hg5 hb5)
            obtain ⟨A7, c7, hu⟩ := HO5.out.slice
            obtain ⟨m7, hm7⟩ : ∃ n, n = (out ++ [(⟨id, p, q, wt⟩ : Ed)]).length := ⟨_, rfl⟩
            rw [← hm7] at hu
            subst hu
            clear hm7 x0 x1 x2 x3 HBd HOd HPd hzd HG1
            go_wp2_with fail
            go_loopw [10] (fun i wr => ∃ i2 : Nat, i2 ≤ k ∧ i = .int .i64 i2 ∧ Hid (Below Wo.heap.size Wo wr) ∧ Hid (OK encI 1 3 wr Wo.heap.size (.slice (some ⟨b5, 0, none⟩) k ct) (natsI (mapTo (relN (lab M pi) (lab M qi)) M i2))) ∧ Hid (OK encE 4 47 wr Wo.heap.size (.slice A7 m7 c7) (out ++ [⟨id, p, q, wt⟩]))) (fun i _ => k - (intOf i).toNat)
            case atStart => exact ⟨0, Nat.zero_le _, rfl, HB5, Lib.hid (by rw [mapTo_zero]; exact HS5.out), HO5⟩
            case round =>
              clear HB5 HS5 HO5
              obtain ⟨i2, hi2, rfl, HB, HO, HP⟩ := hrel
              by_cases hik : i2 < k
              · have hiv : i2 < M.length := by have := HLEN.out; omega
                obtain ⟨xl, hxl⟩ : ∃ x, x = M[i2] := ⟨_, rfl⟩
                have HAT : Hid ((mapTo (relN (lab M pi) (lab M qi)) M i2)[i2]? = some xl) := Lib.hid (by rw [mapTo_at hiv, hxl])
                have HXL : Hid (∃ h : i2 < M.length, M[i2] = xl) := Lib.hid ⟨hiv, hxl.symm⟩
                clear hxl
                obtain ⟨lx, hlx⟩ : ∃ l : Int, l = (xl : Nat) := ⟨_, rfl⟩
                have y3 : wr.cell? ⟨b5, i2, none⟩ = some (.int .i64 lx) := by
                  have := HO.out.cellK encI_len (i := i2) (j := 0) (x := lx) (by rw [hlx]; exact natsI_get HAT.out) rfl
                  simpa using this
                have y4 : wr.frozen? ⟨b5, i2, none⟩ = false := HO.out.frozenK i2
                have HLX := Lib.hid hlx
                have HLO := Lib.hid ((HO.out.lt b5 rfl).1)
                clear hlx
                have hik2 : (i2 : Int) < (k : Int) := by omega
                by_cases hxb : lx = lb
                · have hxd : (lx == lb) = true := by simpa using hxb
                  have HHIT : Hid (natsI (mapTo (relN (lab M pi) (lab M qi)) M (i2 + 1)) = (natsI (mapTo (relN (lab M pi) (lab M qi)) M i2)).set i2 la) := Lib.hid (by
                    obtain ⟨h1, h2⟩ := HXL.out
                    rw [mapTo_succ h1, h2, natsI_set, relN_hit (by have := HLX.out; have := HLB.out; omega), HLA.out])
                  go_wp2_with fail
                  go_roundw
                  case rel =>
                    refine ⟨i2 + 1, by omega, by go_num, Lib.hid (HB.out.setCell (p := ⟨b5, i2, none⟩) HLO.out _), Lib.hid ?_, Lib.hid (HP.out.farCell (own_ne HP.out HO.out (by decide)) _)⟩
                    rw [HHIT.out]
                    have := HO.out.setK encI_len (i := i2) (j := 0) (x := (xl : Int)) (x' := la) (u := .int .i64 la) (natsI_get HAT.out) (by omega) rfl
                    simpa using this
                  case measure => simp [intOf]; omega
                · have hxd : (lx == lb) = false := by simpa using hxb
                  have HSKIP : Hid (mapTo (relN (lab M pi) (lab M qi)) M (i2 + 1) = mapTo (relN (lab M pi) (lab M qi)) M i2) := Lib.hid (by
                    obtain ⟨h1, h2⟩ := HXL.out
                    exact mapTo_skip h1 (by rw [h2]; exact relN_skip (by have := HLX.out; have := HLB.out; omega)))
                  go_wp2_with fail
                  go_roundw
                  case rel =>
                    refine ⟨i2 + 1, by omega, by go_num, HB, Lib.hid ?_, HP⟩
                    rw [HSKIP.out]
                    exact HO.out
                  case measure => simp [intOf]; omega
              · have hkd2 : decide ((i2 : Int) < (k : Int)) = false := by simp; omega
                go_wp2_with fail
                go_roundw
                case rel =>
                  refine ⟨A7, m7, c7, j + 1, _, _, by omega, rfl, by go_num, HTS, HB, Lib.hid ?_, HP⟩
                  have := HO.out
                  rw [mapTo_all (by have := HLEN.out; omega)] at this
                  exact this
                case measure => simp [intOf]; omega
        · obtain rfl : j = m := by omega
          have hjd : decide ((j : Int) < (j : Int)) = false := by simp
          go_wp2_with fail
          go_ret
          refine ⟨_, rfl, ?_, HBo.out.trans (HB.out.mono HBo.out.size)⟩
          have h1 := HT.out
          rw [HM.out] at h1
          have h2 := h1.done
          rw [HSS.out] at h2
          have h3 : out = forE V E := h2
          rw [← h3]
          exact HP.out.base HBo.out.size

end Go.Proofs.YtghacfhpafbdmaaGreat
