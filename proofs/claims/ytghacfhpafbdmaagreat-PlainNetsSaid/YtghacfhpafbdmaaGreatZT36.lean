/-
  The walk of skeinref06.Distances.
-/
import Derived.Test.YtghacfhpafbdmaaGreatZT34
namespace Go.Proofs.YtghacfhpafbdmaaGreat
open Go.RowKit
set_option linter.unusedVariables false

theorem etI64s : ElemT 114 2 1 8 := elemT_of (z := .int .i64 0) Tryz.underlying114 (by kernel_rfl) (by kernel_rfl) (by decide) (by decide) (by decide)

theorem getD_some {D : List Int} {i : Nat} (h : i < D.length) : D[i]? = some (D.getD i (-1)) := by
  simp [List.getD, List.getElem?_eq_getElem h]

/-- What a pass over the first j edges has done. -/
def Pas (f : Ed → Nat × Nat) (T : List Ed) (D0 : List Int) (j : Nat) : Bool → List Int → Prop
  | true, D => unk D < unk D0
  | false, D => D = D0 ∧ Closed f (T.take j) D

theorem pas_start (f : Ed → Nat × Nat) (T : List Ed) (D : List Int) : Pas f T D 0 false D := ⟨rfl, fun e he => by simp at he⟩

section
variable {f : Ed → Nat × Nat} {T : List Ed} {D0 D : List Int} {j : Nat} {ag : Bool}

theorem Pas.hit {b : Nat} {x : Int} (h : Pas f T D0 j ag D) (hb : b < D.length) (h1 : D.getD b (-1) < 0) (hx : 0 ≤ x) : Pas f T D0 (j + 1) true (D.set b x) := by
  have := countP_set h1 hb hx
  cases ag with
  | true => have h2 : unk D < unk D0 := h; show unk _ < _; omega
  | false => have h2 : D = D0 := h.1; subst h2; show unk _ < _; omega

theorem Pas.pass (h : Pas f T D0 j ag D) (hj : j < T.length) (hc : 0 ≤ D.getD (f T[j]).1 (-1) ↔ 0 ≤ D.getD (f T[j]).2 (-1)) : Pas f T D0 (j + 1) ag D := by
  cases ag with
  | true => exact h
  | false =>
    refine ⟨h.1, fun e he => ?_⟩
    rw [List.take_succ_eq_append_getElem hj] at he
    rcases List.mem_append.1 he with he | he
    · exact h.2 e he
    · rw [List.mem_singleton.1 he]; exact hc

theorem Pas.last (h : Pas f T D0 T.length ag D) : (ag = true ∧ unk D < unk D0) ∨ (ag = false ∧ D = D0 ∧ Closed f T D) := by
  cases ag with
  | true => exact .inl ⟨rfl, h⟩
  | false => have := h.2; rw [List.take_length] at this; exact .inr ⟨rfl, h.1, this⟩
end

theorem disStart_succ {n s k : Nat} (hk : k < n) : (disStart n s).take (k + 1) = (disStart n s).take k ++ [if k = s then 0 else -1] := by
  have hl : k < (disStart n s).length := by simp [disStart]; omega
  rw [List.take_succ_eq_append_getElem hl]
  simp [disStart]

/-- What Distances keeps between passes. -/
def AgOk (f : Ed → Nat × Nat) (T : List Ed) (D : List Int) (ag : Bool) : Prop := ag = true ∨ Closed f T D

def b2n : Bool → Nat
  | true => 1
  | false => 0

set_option maxRecDepth 100000 in
set_option maxHeartbeats 8000000 in
theorem Distances_any (v ve : Value) (V : List Int) (T : List Ed) (u : Int) (w : World) (hv : RI w w.heap.size v V) (he : RE w w.heap.size ve T) (hs : V.Pairwise (· < ·)) (hin : ∀ e ∈ T, e.u ∈ V ∧ e.v ∈ V) (hu : u ∈ V) (hw : ∀ e ∈ T, 0 ≤ e.w ∧ e.w ≤ 1099511627776) (hl : V.length ≤ 100000) (hle : T.length ≤ 2048) :
    Calls Tryz.prog 60 #[v, ve, .int .i64 u] w fun e w' => ∃ x D, e = .returned x ∧ OK encI 1 2 w' w.heap.size x D ∧ Told (plE V) T (pl V u) V.length D ∧ Below w.heap.size w w' := by
  have HV := Lib.hid hv
  obtain ⟨A, c, rfl, -, hc2, -, HC⟩ := hv.open_
  obtain ⟨A2, c2, rfl, -, hd2, -, HD⟩ := he.open_
  clear hv he
  obtain ⟨n, hnn⟩ : ∃ n, n = V.length := ⟨_, rfl⟩
  obtain ⟨m, hmm⟩ : ∃ m, m = T.length := ⟨_, rfl⟩
  obtain ⟨si, hsi⟩ : ∃ k, k = pl V u := ⟨_, rfl⟩
  have hsn : si < n := by rw [hsi, hnn]; exact pl_lt hs hu
  have HU : Hid (∀ k, (h : k < V.length) → (V[k] = u ↔ k = si)) := Lib.hid fun k h => by
    constructor
    · intro e; rw [hsi, ← e, pl_get V hs k V[k] (List.getElem?_eq_getElem h)]
    · intro e
      have h1 := pl_mem hs hu
      rw [← hsi, ← e] at h1
      exact (List.getElem?_eq_some_iff.1 h1).2
  rw [← hnn] at hl HV ⊢
  rw [← hmm] at hle ⊢
  rw [← hsi]
  have HN := Lib.hid hnn
  have HM := Lib.hid hmm
  have HS := Lib.hid hs
  have HIN := Lib.hid hin
  have HW := Lib.hid hw
  have HLT : Hid (∀ e ∈ T, (plE V e).1 < n ∧ (plE V e).2 < n) := Lib.hid fun e he => by rw [hnn]; exact ⟨pl_lt hs (hin e he).1, pl_lt hs (hin e he).2⟩
  clear hs hnn hmm hin hw hsi hu
  go_enter Tryz.func60, Tryz.ntmps60
  go_wp2_with fail
  go_loopw [7, 8] (fun t i wr => ∃ (A7 : Option Addr) (m7 c7 k : Nat), k ≤ n ∧ t = .slice A7 m7 c7 ∧ i = .int .i64 k ∧ Hid (Below w.heap.size w wr) ∧ Hid (OK encI 1 2 wr w.heap.size (.slice A7 m7 c7) ((disStart n si).take k))) (fun _ i _ => n - (intOf i).toNat)
  case atStart => exact ⟨_, _, _, 0, Nat.zero_le _, rfl, rfl, Lib.hid ((Below.refl _ _).alloc (Nat.le_refl _) _), Lib.hid ⟨by simp, World.ownsRow_lit w #[] 0 (by omega) (by decide) rfl⟩⟩
  case round =>
    obtain ⟨A7, m7, c7, k, hk, rfl, rfl, HB, HO⟩ := hrel
    have hz := HB.out.size
    have HLo := Lib.hid HO.out.lt
    by_cases hlt : k < n
    · have hkd : (k : Int) < (n : Int) := by omega
      obtain ⟨b, o, hbe, hb, hx⟩ := HC.out k (by have := HN.out; omega)
      obtain ⟨y, hy⟩ : ∃ y, y = V[k]'(by have := HN.out; omega) := ⟨_, rfl⟩
      have HYU : Hid (y = u ↔ k = si) := Lib.hid (by rw [hy]; exact HU.out k (by have := HN.out; omega))
      rw [← hy] at hx
      have x0 := (HB.out.cell (p := ⟨b, o + k, none⟩) hb).trans (cellI hx)
      have HSX := Lib.hid (disStart_succ (n := n) (s := si) hlt)
      have HLN : Hid (((disStart n si).take k).length ≤ k) := Lib.hid (by simp; omega)
      clear hx hy
      by_cases hyu : y = u
      · have HSX2 : Hid ((disStart n si).take (k + 1) = (disStart n si).take k ++ [0]) := Lib.hid (by rw [HSX.out, if_pos (HYU.out.1 hyu)])
        have hyd : (y == u) = true := by simpa using hyu
        subst hbe
        clear hyu
        go_wp2_with (at_builtin; refine wpList_app1 etI64s encI_len encI_one (y := (0 : Int)) rfl (.tmp 26) (.tmp 27) rfl rfl (HO.out.alloc _) wr.heap.size rfl (oneI wr _ _) (by have := HLN.out; omega) (by simp; omega) ?_; intro v5 w5 ho5 hg5 hb5; have HO5 := Lib.hid ho5; have HG5 := Lib.hid hg5; clear ho5 hg5 hb5)
        obtain ⟨A9, m9, c9, rfl⟩ := HO5.out.slice3
        go_wp2_with fail
        go_roundw
        case rel => exact ⟨A9, m9, c9, k + 1, by omega, rfl, by go_num, Lib.hid ((HB.out.alloc (by omega) _).grown HG5.out (by simp; omega) (fun q hq => (HLo.out q hq).1)), Lib.hid (by rw [HSX2.out]; exact HO5.out)⟩
        case measure => simp [intOf]; omega
      · have HSX2 : Hid ((disStart n si).take (k + 1) = (disStart n si).take k ++ [-1]) := Lib.hid (by rw [HSX.out, if_neg (fun e => hyu (HYU.out.2 e))])
        have hyd : (y == u) = false := by simpa using hyu
        subst hbe
        clear hyu
        go_wp2_with (at_builtin; refine wpList_app1 etI64s encI_len encI_one (y := (-1 : Int)) rfl (.tmp 29) (.tmp 30) rfl rfl (HO.out.alloc _) wr.heap.size rfl (oneI wr _ _) (by have := HLN.out; omega) (by simp; omega) ?_; intro v5 w5 ho5 hg5 hb5; have HO5 := Lib.hid ho5; have HG5 := Lib.hid hg5; clear ho5 hg5 hb5)
        obtain ⟨A9, m9, c9, rfl⟩ := HO5.out.slice3
        go_wp2_with fail
        go_roundw
        case rel => exact ⟨A9, m9, c9, k + 1, by omega, rfl, by go_num, Lib.hid ((HB.out.alloc (by omega) _).grown HG5.out (by simp; omega) (fun q hq => (HLo.out q hq).1)), Lib.hid (by rw [HSX2.out]; exact HO5.out)⟩
        case measure => simp [intOf]; omega
    · obtain rfl : k = n := by omega
      have hkd : decide ((k : Int) < (k : Int)) = false := by simp
      have HO2 : Hid (OK encI 1 2 wr w.heap.size (.slice A7 m7 c7) (disStart k si)) := Lib.hid (by have := HO.out; rwa [List.take_of_length_le (by simp [disStart])] at this)
      obtain ⟨b5, c5, hsh, -, -⟩ := HO2.out.shape (by simp [disStart]; omega)
      have hdl : (disStart k si).length = k := by simp [disStart]
      rw [hdl] at hsh
      injection hsh with hs1 hs2 hs3
      subst hs1 hs2 hs3
      have HDS : Hid (Dis (plE V) T si m7 (disStart m7 si)) := Lib.hid (dis_start hsn)
      clear HO HLo hdl
      go_wp2_with fail
      go_loopg [9] (2 * unk (disStart m7 si) + 1) (fun g s9 wr => ∃ (ag : Bool) (D : List Int), s9 = .bool ag ∧ Hid (g = 2 * unk D + b2n ag) ∧ Hid (Dis (plE V) T si m7 D) ∧ Hid (AgOk (plE V) T D ag) ∧ Hid (Below w.heap.size w wr) ∧ Hid (OK encI 1 2 wr w.heap.size (.slice (some ⟨b5, 0, none⟩) m7 c7) D))
      case atStart => exact ⟨true, _, rfl, Lib.hid rfl, HDS, Lib.hid (.inl rfl), HB, HO2⟩
      case round =>
        clear HDS HB HO2 hz
        obtain ⟨ag, D0, rfl, HGK, HD0, HAG, HB, HO⟩ := hrel
        cases ag with
        | false =>
          have HCL : Hid (Closed (plE V) T D0) := Lib.hid (HAG.out.resolve_left (by decide))
          go_wp2_with fail
          go_ret
          refine ⟨_, D0, rfl, HO.out, ?_, HB.out⟩
          exact HD0.out.told HLT.out hsn HCL.out
        | true =>
          go_wp2_with fail
          go_loopw [9, 10] (fun a i wr => ∃ (ag : Bool) (j : Nat) (D : List Int), j ≤ m ∧ a = .bool ag ∧ i = .int .i64 j ∧ Hid (Pas (plE V) T D0 j ag D) ∧ Hid (Dis (plE V) T si m7 D) ∧ Hid (Below w.heap.size w wr) ∧ Hid (OK encI 1 2 wr w.heap.size (.slice (some ⟨b5, 0, none⟩) m7 c7) D)) (fun _ i _ => m - (intOf i).toNat)
          case atStart => exact ⟨false, 0, D0, Nat.zero_le _, rfl, rfl, Lib.hid (pas_start _ _ _), HD0, HB, HO⟩
          case round =>
            clear HB HO
            obtain ⟨ag, j, D, hj, rfl, rfl, HP, HDD, HB, HO⟩ := hrel
            have hz := HB.out.size
            by_cases hjm : j < m
            · have hje : j < T.length := by have := HM.out; omega
              obtain ⟨b2, o2, hb2e, hb2, hx⟩ := HD.out j hje
              obtain ⟨⟨id, p, q, wt⟩, hy⟩ : ∃ y, y = T[j] := ⟨_, rfl⟩
              have HYE : Hid (∃ h : j < T.length, T[j] = ⟨id, p, q, wt⟩) := Lib.hid ⟨hje, hy.symm⟩
              have hmem : T[j] ∈ T := List.getElem_mem hje
              have HY := Lib.hid (HIN.out _ hmem)
              have hww := HW.out _ hmem
              have HBD := Lib.hid fun x hx => HDD.out.bound HW.out (by have := HM.out; omega) (x := x) hx
              have HTE : Hid ((⟨id, p, q, wt⟩ : Ed) ∈ T) := Lib.hid (by rw [hy]; exact hmem)
              rw [← hy] at hx HY hww
              obtain ⟨hw0, hw1⟩ := hww
              dsimp only at hw0 hw1
              obtain ⟨-, x1, x2, x3⟩ := cellE hx
              dsimp only at x1 x2 x3
              have x1 := (HB.out.cell (p := ⟨b2, o2 + j * 4 + 1, none⟩) hb2).trans x1
              have x2 := (HB.out.cell (p := ⟨b2, o2 + j * 4 + 2, none⟩) hb2).trans x2
              have HX3 : Hid (wr.cell? ⟨b2, o2 + j * 4 + 3, none⟩ = some (.int .i64 wt)) := Lib.hid ((HB.out.cell (p := ⟨b2, o2 + j * 4 + 3, none⟩) hb2).trans x3)
              obtain ⟨hp, hq⟩ := HY.out
              dsimp only at hp hq
              obtain ⟨pi, hpi⟩ : ∃ k, k = pl V p := ⟨_, rfl⟩
              obtain ⟨qi, hqi⟩ : ∃ k, k = pl V q := ⟨_, rfl⟩
              have hpn : pi < m7 := by have := pl_lt HS.out hp; have := HN.out; omega
              have hqn : qi < m7 := by have := pl_lt HS.out hq; have := HN.out; omega
              have HVR := Lib.hid (HV.out.below HB.out)
              have HP1 : Hid (∀ n, _) := Lib.hid fun n => Calls.quiet_of_same (w := wr) (n := n) (place_q _ V p _ _ (HVR.out.drewN n) HS.out hp)
              have HP2 : Hid (∀ n, _) := Lib.hid fun n => Calls.quiet_of_same (w := wr) (n := n) (place_q _ V q _ _ (HVR.out.drewN n) HS.out hq)
              rw [← hpi] at HP1
              rw [← hqi] at HP2
              have HPLE : Hid (plE V ⟨id, p, q, wt⟩ = (pi, qi)) := Lib.hid (by rw [hpi, hqi]; rfl)
              have HPE2 : Hid (∀ h : j < T.length, plE V T[j] = (pi, qi)) := Lib.hid fun h => by rw [← hy]; exact HPLE.out
              obtain ⟨da, hda⟩ : ∃ d, d = D.getD pi (-1) := ⟨_, rfl⟩
              obtain ⟨db, hdb⟩ : ∃ d, d = D.getD qi (-1) := ⟨_, rfl⟩
              have hbda := HBD.out pi hpn
              have hbdb := HBD.out qi hqn
              rw [← hda] at hbda
              rw [← hdb] at hbdb
              obtain ⟨hda0, hda1⟩ := hbda
              obtain ⟨hdb0, hdb1⟩ := hbdb
              have HDA := Lib.hid hda
              have HDB := Lib.hid hdb
              have HGA : Hid (D[pi]? = some da) := Lib.hid (by rw [hda]; exact getD_some (by rw [HDD.out.len]; exact hpn))
              have HGB : Hid (D[qi]? = some db) := Lib.hid (by rw [hdb]; exact getD_some (by rw [HDD.out.len]; exact hqn))
              have hjn : (j : Int) < (m : Int) := by omega
              have hpd : (pi : Int) < (m7 : Int) := by omega
              have hqd : (qi : Int) < (m7 : Int) := by omega
              subst hb2e
              clear hy hmem hx x3 hp hq hpi hqi hda hdb
              go_wp2_with fail
              go_quiet (first
                | (go_at_call 46; with_reducible exact HP1.out _)
                | (go_at_call 46; with_reducible exact HP2.out _))
              have HBd : Hid (Below w.heap.size w (wr.drewN nq)) := Lib.hid (below_drewN HB.out nq)
              have HOd : Hid (OK encI 1 2 (wr.drewN nq) w.heap.size (.slice (some ⟨b5, 0, none⟩) m7 c7) D) := Lib.hid (HO.out.drewN nq)
              have x3 : (wr.drewN nq).cell? ⟨b2, o2 + j * 4 + 3, none⟩ = some (.int .i64 wt) := HX3.out
              obtain ⟨wd, hwd⟩ : ∃ wd, wd = wr.drewN nq := ⟨_, rfl⟩
              rw [← hwd] at HBd HOd x3 ⊢
              clear hwd x1 x2 HX3 HB HO HVR HP1 HP2 hz
              have y1 : wd.cell? ⟨b5, pi, none⟩ = some (.int .i64 da) := by
                have := HOd.out.cellK encI_len (i := pi) (j := 0) HGA.out rfl
                simpa using this
              have y2 : wd.cell? ⟨b5, qi, none⟩ = some (.int .i64 db) := by
                have := HOd.out.cellK encI_len (i := qi) (j := 0) HGB.out rfl
                simpa using this
              have f1 : wd.frozen? ⟨b5, pi, none⟩ = false := HOd.out.frozenK pi
              have f2 : wd.frozen? ⟨b5, qi, none⟩ = false := HOd.out.frozenK qi
              have HLO := Lib.hid ((HOd.out.lt b5 rfl).1)
              by_cases ha : 0 ≤ da <;> by_cases hb : 0 ≤ db
              · have ga : decide (da ≥ 0) = true := by simpa using ha
                have la : decide (da < 0) = false := by simp; omega
                have gb : decide (db ≥ 0) = true := by simpa using hb
                have lb : decide (db < 0) = false := by simp; omega
                have HNX : Hid (Pas (plE V) T D0 (j + 1) ag D) := Lib.hid (by
                  obtain ⟨h, -⟩ := HYE.out
                  have h0 := HPE2.out h
                  refine HP.out.pass h ?_
                  rw [h0]
                  have h1 := HDA.out
                  have h2 := HDB.out
                  show 0 ≤ D.getD pi (-1) ↔ 0 ≤ D.getD qi (-1)
                  rw [← h1, ← h2]
                  exact ⟨fun h => by omega, fun h => by omega⟩)
                go_wp2_with fail
                go_roundw
                case rel => exact ⟨ag, j + 1, D, by omega, rfl, by go_num, HNX, HDD, HBd, HOd⟩
                case measure => simp [intOf]; omega
              · have ga : decide (da ≥ 0) = true := by simpa using ha
                have la : decide (da < 0) = false := by simp; omega
                have gb : decide (db ≥ 0) = false := by simp; omega
                have lb : decide (db < 0) = true := by simp; omega
                have hwr : IntKind.i64.wrap (da + wt) = da + wt := by rw [IntKind.wrap_i64]; omega
                have hne : ¬ pi = qi := by intro e; have h1 := HDA.out; have h2 := HDB.out; rw [e] at *; omega
                have hne2 : ¬ qi = pi := fun e => hne e.symm
                have HDX : Hid (Dis (plE V) T si m7 (D.set qi (da + wt))) := Lib.hid (by
                  have := HDD.out.step (fun e he => (HW.out e he).1) HTE.out (a := pi) (b := qi) (.inl ⟨by rw [HPLE.out], by rw [HPLE.out]⟩) hpn hqn (by rw [← HDA.out]; omega) (by rw [← HDB.out]; omega)
                  rw [← HDA.out] at this
                  exact this)
                have HNX : Hid (Pas (plE V) T D0 (j + 1) true (D.set qi (da + wt))) := Lib.hid (HP.out.hit (by rw [HDD.out.len]; omega) (by rw [← HDB.out]; omega) (by omega))
                have HSX : Hid (OK encI 1 2 (wd.setCell ⟨b5, qi, none⟩ (.int .i64 (da + wt))) w.heap.size (.slice (some ⟨b5, 0, none⟩) m7 c7) (D.set qi (da + wt))) := Lib.hid (by
                  have := HOd.out.setK encI_len (i := qi) (j := 0) (x := db) (x' := da + wt) (u := .int .i64 (da + wt)) HGB.out (by omega) rfl
                  simpa using this)
                have HBX : Hid (Below w.heap.size w (wd.setCell ⟨b5, qi, none⟩ (.int .i64 (da + wt)))) := Lib.hid (HBd.out.setCell (p := ⟨b5, qi, none⟩) HLO.out _)
                go_wp2_with fail
                go_region
                go_wp2_with fail
                go_roundw
                case rel => exact ⟨true, j + 1, _, by omega, rfl, by go_num, HNX, HDX, Lib.hid HBX.out.drew, Lib.hid HSX.out.drew⟩
                case measure => simp [intOf]; omega
              · have ga : decide (da ≥ 0) = false := by simp; omega
                have la : decide (da < 0) = true := by simp; omega
                have gb : decide (db ≥ 0) = true := by simpa using hb
                have lb : decide (db < 0) = false := by simp; omega
                have hwr : IntKind.i64.wrap (db + wt) = db + wt := by rw [IntKind.wrap_i64]; omega
                have hne : ¬ qi = pi := by intro e; have h1 := HDA.out; have h2 := HDB.out; rw [e] at *; omega
                have hne2 : ¬ pi = qi := fun e => hne e.symm
                have HDX : Hid (Dis (plE V) T si m7 (D.set pi (db + wt))) := Lib.hid (by
                  have := HDD.out.step (fun e he => (HW.out e he).1) HTE.out (a := qi) (b := pi) (.inr ⟨by rw [HPLE.out], by rw [HPLE.out]⟩) hqn hpn (by rw [← HDB.out]; omega) (by rw [← HDA.out]; omega)
                  rw [← HDB.out] at this
                  exact this)
                have HNX : Hid (Pas (plE V) T D0 (j + 1) true (D.set pi (db + wt))) := Lib.hid (HP.out.hit (by rw [HDD.out.len]; omega) (by rw [← HDA.out]; omega) (by omega))
                have HSX : Hid (OK encI 1 2 (wd.setCell ⟨b5, pi, none⟩ (.int .i64 (db + wt))) w.heap.size (.slice (some ⟨b5, 0, none⟩) m7 c7) (D.set pi (db + wt))) := Lib.hid (by
                  have := HOd.out.setK encI_len (i := pi) (j := 0) (x := da) (x' := db + wt) (u := .int .i64 (db + wt)) HGA.out (by omega) rfl
                  simpa using this)
                have HBX : Hid (Below w.heap.size w (wd.setCell ⟨b5, pi, none⟩ (.int .i64 (db + wt)))) := Lib.hid (HBd.out.setCell (p := ⟨b5, pi, none⟩) HLO.out _)
                go_wp2_with fail
                go_region
                go_wp2_with fail
                go_roundw
                case rel => exact ⟨true, j + 1, _, by omega, rfl, by go_num, HNX, HDX, Lib.hid HBX.out.drew, Lib.hid HSX.out.drew⟩
                case measure => simp [intOf]; omega
              · have ga : decide (da ≥ 0) = false := by simp; omega
                have la : decide (da < 0) = true := by simp; omega
                have gb : decide (db ≥ 0) = false := by simp; omega
                have lb : decide (db < 0) = true := by simp; omega
                have HNX : Hid (Pas (plE V) T D0 (j + 1) ag D) := Lib.hid (by
                  obtain ⟨h, -⟩ := HYE.out
                  have h0 := HPE2.out h
                  refine HP.out.pass h ?_
                  rw [h0]
                  have h1 := HDA.out
                  have h2 := HDB.out
                  show 0 ≤ D.getD pi (-1) ↔ 0 ≤ D.getD qi (-1)
                  rw [← h1, ← h2]
                  exact ⟨fun h => by omega, fun h => by omega⟩)
                go_wp2_with fail
                go_roundw
                case rel => exact ⟨ag, j + 1, D, by omega, rfl, by go_num, HNX, HDD, HBd, HOd⟩
                case measure => simp [intOf]; omega
            · obtain rfl : j = m := by omega
              have hjd : decide ((j : Int) < (j : Int)) = false := by simp
              have HLS : Hid ((ag = true ∧ unk D < unk D0) ∨ (ag = false ∧ D = D0 ∧ Closed (plE V) T D)) := Lib.hid (by have := HP.out; rw [HM.out] at this; exact this.last)
              go_wp2_with fail
              go_roundg (2 * unk D + b2n ag)
              case measure =>
                have h1 := HGK.out
                simp only [b2n] at h1
                rcases HLS.out with ⟨rfl, h2⟩ | ⟨rfl, rfl, -⟩
                · simp only [b2n]; omega
                · simp only [b2n]; omega
              case rel =>
                refine ⟨ag, D, rfl, Lib.hid rfl, HDD, Lib.hid ?_, HB, HO⟩
                rcases HLS.out with ⟨h1, -⟩ | ⟨-, -, h2⟩
                · exact .inl h1
                · exact .inr h2

end Go.Proofs.YtghacfhpafbdmaaGreat

/-
  The walk of skeinref06.Span.
-/
namespace Go.Proofs.YtghacfhpafbdmaaGreat
open Go.RowKit
set_option linter.unusedVariables false

theorem refSpan_no (sv se : Value) (V : List Int) (E : List Ed) (u c : Int) (w : World) (B : Nat) (hv : RI w B sv V) (he : RE w B se E) (hB : B ≤ w.heap.size) (hc : chkV V E [u] = c) (h0 : c ≠ 0) :
    Calls Tryz.prog 24 #[netV sv se, .int .i64 u] w fun e w' => e = .returned (.tuple #[.int .i64 0, .int .i64 c]) ∧ Below w.heap.size w w' := by
  have HC := Lib.hid hc
  have HV := Lib.hid hv
  have HE := Lib.hid he
  clear hc hv he
  go_enter Tryz.func24, Tryz.ntmps24
  go_wp2_with fail
  refine (ask_chk _ _ _ V E [u] _ (w.heap.size + 2) (((HV.out.alloc hB _).alloc (by simp; omega) _).more (by omega)) (((HE.out.alloc hB _).alloc (by simp; omega) _).more (by omega)) (RI.lit _ _ _ _ _ [u] 1 1 (by simp) rfl rfl (by simp) (by simp) (by simp) (by omega)) (by simp)).mono ?_
  rw [HC.out]
  rintro e w1 ⟨rfl, hb⟩
  have HB1 : Hid (Below w.heap.size w w1) := Lib.hid ((((Below.refl _ _).alloc (Nat.le_refl _) _).alloc (by simp) _).trans (hb.mono (by simp; omega)))
  clear hb
  have hcd : (c != 0) = true := by simpa using h0
  go_wp2_with fail
  go_ret2
  exact ⟨rfl, HB1.out⟩

set_option maxRecDepth 100000 in
set_option maxHeartbeats 8000000 in
theorem refSpan_ok (sv se : Value) (V : List Int) (E : List Ed) (u : Int) (w : World) (B : Nat) (hv : RI w B sv V) (he : RE w B se E) (hB : B ≤ w.heap.size) (hc : chkV V E [u] = 0) :
    Calls Tryz.prog 24 #[netV sv se, .int .i64 u] w fun e w' => e = .returned (toldT (spanV V E u)) ∧ Below w.heap.size w w' := by
  obtain ⟨hn, hm⟩ := chk_zero hc
  have HR := Lib.hid (right_of hn)
  have HU := Lib.hid (hm u (by simp))
  have HC := Lib.hid hc
  have HV := Lib.hid (hv.more hB)
  have HE := Lib.hid (he.more hB)
  obtain ⟨Av, cv, rfl, -, -, -, -⟩ := HV.out.open_
  obtain ⟨Ae, ce, rfl, -, -, -, -⟩ := HE.out.open_
  clear hv he hc hn hm
  have hlV : V.length ≤ 2048 := HR.out.vlen
  obtain ⟨n, hn⟩ : ∃ n, n = V.length := ⟨_, rfl⟩
  obtain ⟨ne, hne⟩ : ∃ n, n = E.length := ⟨_, rfl⟩
  rw [← hn] at HV hlV ⊢
  rw [← hne] at HE ⊢
  have HN := Lib.hid hn
  have HFL := Lib.hid (forE_len V E)
  have HEL := Lib.hid HR.out.elen
  have HIN : Hid (∀ e ∈ forE V E, e.u ∈ V ∧ e.v ∈ V) := Lib.hid fun e he => ⟨HR.out.eu e (forE_sub V E e he), HR.out.ev e (forE_sub V E e he)⟩
  have HWW : Hid (∀ e ∈ forE V E, 0 ≤ e.w ∧ e.w ≤ 1099511627776) := Lib.hid fun e he => HR.out.ew e (forE_sub V E e he)
  obtain ⟨sp, hsp⟩ : ∃ s, s = spanV V E u := ⟨_, rfl⟩
  rw [← hsp]
  have HSP := Lib.hid hsp
  clear hn hne hsp
  go_enter Tryz.func24, Tryz.ntmps24
  go_wp2_with fail
  refine (ask_chk _ _ _ V E [u] _ (w.heap.size + 2) (((HV.out.alloc (Nat.le_refl _) _).alloc (by simp) _).more (by omega)) (((HE.out.alloc (Nat.le_refl _) _).alloc (by simp) _).more (by omega)) (RI.lit _ _ _ _ _ [u] 1 1 (by simp) rfl rfl (by simp) (by simp) (by simp) (by omega)) (by simp)).mono ?_
  rw [HC.out]
  rintro e w1 ⟨rfl, hb⟩
  have HN1 : Hid (Blk w1 w.heap.size 25 #[.slice Av n cv, .slice Ae ne ce]) := Lib.hid (((Blk.new w 25 #[.slice Av n cv, .slice Ae ne ce]).alloc _).below hb (by simp; omega))
  have HB1 : Hid (Below w.heap.size w w1) := Lib.hid ((((Below.refl _ _).alloc (Nat.le_refl _) _).alloc (by simp) _).trans (hb.mono (by simp; omega)))
  clear hb
  have hz1 := HN1.out.lt
  have c0 := HN1.out.cell 0
  have c1 := HN1.out.cell 1
  go_wp2_with fail
  refine (Taken_any _ _ V E _ w.heap.size (HV.out.below HB1.out) (HE.out.below HB1.out) (by omega) HR.out).mono ?_
  rintro e w2 ⟨x, rfl, ho2, hb2⟩
  have HN2 : Hid (Blk w2 w.heap.size 25 #[.slice Av n cv, .slice Ae ne ce]) := Lib.hid (HN1.out.below hb2 hz1)
  have HB2 : Hid (Below w.heap.size w w2) := Lib.hid (HB1.out.trans (hb2.mono (by omega)))
  have HF2 := Lib.hid (ho2.rk (B' := w2.heap.size) encE_len (Nat.le_refl _))
  have hz2 := HN2.out.lt
  have c0 := HN2.out.cell 0
  have c1 := HN2.out.cell 1
  clear ho2 hb2
  go_wp2_with fail
  refine (Distances_any _ _ V (forE V E) u _ ((HV.out.below HB2.out).more (by omega)) HF2.out HR.out.vup HIN.out HU.out HWW.out (by have := HR.out.vlen; omega) (by have := HFL.out; have := HEL.out; omega)).mono ?_
  rintro e Wo ⟨xm, D0, rfl, hom, ht0, hb3⟩
  rw [← HN.out] at ht0
  have HNo : Hid (Blk Wo w.heap.size 25 #[.slice Av n cv, .slice Ae ne ce]) := Lib.hid (HN2.out.below hb3 hz2)
  have HBo : Hid (Below w.heap.size w Wo) := Lib.hid (HB2.out.trans (hb3.mono (by omega)))
  have HFo : Hid (RE Wo Wo.heap.size x (forE V E)) := Lib.hid ((HF2.out.below hb3).more hb3.size)
  have HVo : Hid (RI Wo Wo.heap.size (.slice Av n cv) V) := Lib.hid ((HV.out.below HBo.out).more HBo.out.size)
  obtain ⟨Am, cm, hxm, -, -, -, HDM⟩ := (hom.rk (B' := Wo.heap.size) encI_len (Nat.le_refl _)).open_
  rw [ht0.len] at hxm
  subst hxm
  obtain ⟨Ax, cx, hx, -, -, -, -⟩ := HFo.out.open_
  obtain ⟨nf, hnf⟩ : ∃ k, k = (forE V E).length := ⟨_, rfl⟩
  rw [← hnf] at hx
  subst hx
  have HT0 := Lib.hid ht0
  have hzo := HNo.out.lt
  clear ht0 hom hb3 c0 c1 hnf
  obtain ⟨Av2, cv2, hav, -, -, -, HCV⟩ := HVo.out.open_
  rw [← HN.out] at hav
  injection hav with hav1 _ hav2
  subst hav1 hav2
  go_wp2_with fail
  go_loopw [9, 10] (fun t i wr => ∃ (mo : Int) (k : Nat), k ≤ n ∧ t = .int .i64 mo ∧ i = .int .i64 k ∧ Hid (Mst V E u k 0 mo) ∧ Hid (Below Wo.heap.size Wo wr)) (fun _ i _ => n - (intOf i).toNat)
  case atStart => exact ⟨0, 0, Nat.zero_le _, rfl, rfl, Lib.hid (mst_start HR.out HU.out), Lib.hid (Below.refl _ _)⟩
  case round =>
    obtain ⟨mo, k, hk, rfl, rfl, HM, HB⟩ := hrel
    obtain ⟨Wi, hWi⟩ : ∃ W, W = wr := ⟨_, rfl⟩
    rw [← hWi] at HB ⊢
    clear hWi wr
    have hz := HB.out.size
    have hnb := HNo.out.below HB.out hzo
    have d0 := hnb.cell 0
    have d1 := hnb.cell 1
    by_cases hkn : k < n
    · have hkd : (k : Int) < (n : Int) := by omega
      obtain ⟨bm, om, hme, hbm, hxm⟩ := HDM k (by rw [HT0.out.len]; exact hkn)
      obtain ⟨dm, hdm⟩ : ∃ d, d = D0[k]'(by rw [HT0.out.len]; exact hkn) := ⟨_, rfl⟩
      rw [← hdm] at hxm
      have xm := (HB.out.cell (p := ⟨bm, om + k, none⟩) hbm).trans (cellI hxm)
      have HKN : Hid (0 ≤ dm ↔ Cn (plE V) (forE V E) (pl V u) k) := Lib.hid (by
        have h1 := HT0.out.known k hkn
        have h2 : D0.getD k (-1) = dm := by rw [hdm]; simp [List.getD, List.getElem?_eq_getElem (show k < D0.length by rw [HT0.out.len]; exact hkn)]
        rw [h2] at h1
        exact h1)
      have HME := Lib.hid hme
      clear hxm hdm hme hnb
      by_cases hd : 0 ≤ dm
      · have HCN : Hid (Cn (plE V) (forE V E) (pl V u) k) := Lib.hid (HKN.out.1 hd)
        have hdd : decide (dm ≥ 0) = true := by simpa using hd
        obtain ⟨bv, ov, hve, hbv, hxv⟩ := HCV k (by have := HN.out; omega)
        obtain ⟨y, hy⟩ : ∃ y, y = V[k]'(by have := HN.out; omega) := ⟨_, rfl⟩
        have HYM : Hid (y ∈ V ∧ pl V y = k) := Lib.hid (by rw [hy]; exact ⟨List.getElem_mem _, pl_at HR.out (by have := HN.out; omega)⟩)
        rw [← hy] at hxv
        have HXV : Hid (∀ W', Below Wi.heap.size Wi W' → W'.cell? ⟨w.heap.size, 0, none⟩ = some (.slice Av n cv) ∧ W'.cell? ⟨bv, ov + k, none⟩ = some (.int .i64 y)) := Lib.hid fun W' hb' => by
          have hbb := HB.out.trans (hb'.mono hz)
          exact ⟨(HNo.out.below hbb hzo).cell 0, (hbb.cell (p := ⟨bv, ov + k, none⟩) hbv).trans (cellI hxv)⟩
        have HVi : Hid (RI Wi.drew Wi.drew.heap.size (.slice Av n cv) V) := Lib.hid (show RI Wi Wi.heap.size _ V from (HVo.out.below HB.out).more hz)
        have HFi : Hid (RE Wi.drew Wi.drew.heap.size (.slice Ax nf cx) (forE V E)) := Lib.hid (show RE Wi Wi.heap.size _ _ from (HFo.out.below HB.out).more hz)
        have hmE := HME.out
        subst hmE
        subst hve
        clear hy hxv hd
        go_wp2_with fail
        have HBW : Hid (Below Wi.heap.size Wi Wi.drew) := Lib.hid ((Below.refl _ _).drew)
        have HD2 := Lib.hid (HXV.out _ HBW.out)
        obtain ⟨v0, v1⟩ := HD2.out
        clear d0
        go_region_held3 (fun w' => w'.cell? ⟨w.heap.size, 0, none⟩ = some (.slice (some ⟨bv, ov, none⟩) n cv) ∧ w'.cell? ⟨bv, ov + k, none⟩ = some (.int .i64 y)) (first | with_reducible exact HD2.out | with_reducible exact HC2.out | fail)
          ((go_at_call 60; refine (Distances_any _ _ V (forE V E) y _ HVi.out HFi.out HR.out.vup HIN.out HYM.out.1 HWW.out (by have := HR.out.vlen; omega) (by have := HFL.out; have := HEL.out; omega)).mono ?_; rintro e w3 ⟨xd, D, rfl, ho3, ht3, t3⟩; have HO3 := Lib.hid ho3; have HT3 := Lib.hid ht3; have HB3 := Lib.hid (HBW.out.trans (t3.mono HBW.out.size)); have HC2 := Lib.hid (HXV.out _ HB3.out); clear ho3 ht3 t3))
        clear v0 v1
        have HTD : Hid (Told (plE V) (forE V E) k n D) := Lib.hid (by have := HT3.out; rwa [HYM.out.2, ← HN.out] at this)
        obtain ⟨Ad, cd, hxd, -, -, -, HDD⟩ := (HO3.out.rk (B' := w3.heap.size) encI_len (Nat.le_refl _)).open_
        rw [HTD.out.len] at hxd
        subst hxd
        have HBB : Hid (Below Wo.heap.size Wo w3) := Lib.hid (HB.out.trans (HB3.out.mono hz))
        clear d1 xm
        go_wp2_with fail
        go_loopw [9, 12] (fun t i wr => ∃ (mo : Int) (j : Nat), j ≤ n ∧ t = .int .i64 mo ∧ i = .int .i64 j ∧ Hid (Mst V E u k j mo) ∧ Hid (wr = w3)) (fun _ i _ => n - (intOf i).toNat)
        case atStart => exact ⟨mo, 0, Nat.zero_le _, rfl, rfl, HM, Lib.hid rfl⟩
        case round =>
          clear HM
          obtain ⟨mo, j, hj, rfl, rfl, HM, HW3⟩ := hrel
          by_cases hjn : j < n
          · have hjd : (j : Int) < (n : Int) := by omega
            obtain ⟨bd, od, hde, hbd, hxd⟩ := HDD j (by rw [HTD.out.len]; exact hjn)
            obtain ⟨dd, hdd2⟩ : ∃ d, d = D[j]'(by rw [HTD.out.len]; exact hjn) := ⟨_, rfl⟩
            have HGD : Hid (D.getD j (-1) = dd) := Lib.hid (by rw [hdd2]; simp [List.getD, List.getElem?_eq_getElem (show j < D.length by rw [HTD.out.len]; exact hjn)])
            rw [← hdd2] at hxd
            have x7 : wr.cell? ⟨bd, od + j, none⟩ = some (.int .i64 dd) := by rw [HW3.out]; exact cellI hxd
            have HDST : Hid (0 ≤ dd → dd = dst (plE V) (forE V E).reverse k j) := Lib.hid fun h => by
              rw [← HGD.out]
              have := HTD.out
              rw [HN.out] at this
              exact this.dst HR.out (by have := HN.out; omega) (by rw [HGD.out]; exact h)
            subst hde
            clear hdd2 hxd
            by_cases hgt : mo < dd
            · have hgd : decide (dd > mo) = true := by simpa using hgt
              have HNX : Hid (Mst V E u k (j + 1) dd) := Lib.hid (by
                have h0 := HM.out.lo
                have h1 : 0 ≤ dd := by omega
                exact HM.out.up HR.out HU.out HCN.out ((HTD.out.known j hjn).1 (by rw [HGD.out]; exact h1)) (HDST.out h1) (by omega))
              go_wp2_with fail
              go_roundw
              case rel => exact ⟨dd, j + 1, by omega, by go_num, by go_num, HNX, HW3⟩
              case measure => simp [intOf]; omega
            · have hgd : decide (dd > mo) = false := by simpa using hgt
              have HNX : Hid (Mst V E u k (j + 1) mo) := Lib.hid (HM.out.pass fun _ h2 => by
                have h1 : 0 ≤ dd := by rw [← HGD.out]; exact (HTD.out.known j hjn).2 h2
                rw [← HDST.out h1]; omega)
              go_wp2_with fail
              go_roundw
              case rel => exact ⟨mo, j + 1, by omega, by go_num, by go_num, HNX, HW3⟩
              case measure => simp [intOf]; omega
          · obtain rfl : j = n := by omega
            have hjd : decide ((j : Int) < (j : Int)) = false := by simp
            have HNX : Hid (Mst V E u (k + 1) 0 mo) := Lib.hid (by have := HM.out; rw [HN.out] at this; exact this.leave HR.out (by have := HN.out; omega))
            go_wp2_with fail
            go_roundw
            case rel => exact ⟨mo, k + 1, by omega, by go_num, by go_num, HNX, by rw [HW3.out]; exact HBB⟩
            case measure => simp [intOf]; omega
      · have hdd : decide (dm ≥ 0) = false := by simp; omega
        have HNX : Hid (Mst V E u (k + 1) 0 mo) := Lib.hid (HM.out.skip fun h => hd (HKN.out.2 h))
        have hmE := HME.out
        subst hmE
        go_wp2_with fail
        go_roundw
        case rel => exact ⟨mo, k + 1, by omega, by go_num, by go_num, HNX, HB⟩
        case measure => simp [intOf]; omega
    · obtain rfl : k = n := by omega
      have hkd : decide ((k : Int) < (k : Int)) = false := by simp
      have HF : Hid (sp = mo) := Lib.hid (by have := HM.out; rw [HN.out] at this; rw [HSP.out]; exact (this.end_ HR.out HU.out).symm)
      by_cases hbig : 70368744177664 < mo
      · go_wp2_with fail
        go_ret2
        exact ⟨by rw [HF.out, toldT_hi hbig]; rfl, HBo.out.trans (HB.out.mono HBo.out.size)⟩
      · go_wp2_with fail
        go_ret2
        exact ⟨by rw [HF.out, toldT_lo (by omega)]; rfl, HBo.out.trans (HB.out.mono HBo.out.size)⟩

end Go.Proofs.YtghacfhpafbdmaaGreat
