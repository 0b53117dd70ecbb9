/-
  The walk of plain's Along.
-/
import Derived.Test.YtghacfhpafbdmaaGreatG32
import Derived.Test.YtghacfhpafbdmaaGreatG33
import Derived.Laws.ResultCell
namespace Go.Proofs.YtghacfhpafbdmaaGreat
open Go.RowKit Go.Sort
set_option linter.unusedVariables false

/-- The greatest edge of a path. -/
def most2 (m : Option Ed) (e : Ed) : Option Ed := match m with
  | none => some e
  | some m => if 0 < cfW e m then some e else some m
def mostL (p : List Ed) : Ed := (p.foldl most2 none).getD default
def sumN (p : List Ed) : Nat := (sumW p).toNat
/-- What is told of a path; what of none. -/
def aggV (m : Ed) (c : Value) : Array Value := #[.int .i64 m.id, .int .i64 m.u, .int .i64 m.v, .int .i64 m.w, c]
def aggCs (m : Ed) (s l : Nat) : Array Value := aggV m (.complex .f64 (fl s) (fl l))
theorem aggV_set (m : Ed) (c d : Value) (i u v x : Int) : (((((aggV m c).setIfInBounds 0 (.int .i64 i)).setIfInBounds 1 (.int .i64 u)).setIfInBounds 2 (.int .i64 v)).setIfInBounds 3 (.int .i64 x)).setIfInBounds 4 d = aggV ⟨i, u, v, x⟩ d := by simp [aggV]
theorem aggV_set4 (m : Ed) (c d : Value) : (aggV m c).setIfInBounds 4 d = aggV m d := by simp [aggV]
def aggZ : Array Value := #[.int .i64 0, .int .i64 0, .int .i64 0, .int .i64 0, .complex .f64 0 0]
theorem fl_zero : fl 0 = 0 := by rw [fl_nearest]; rfl
theorem fl_one : fl 1 = 4607182418800017408 := by decide
theorem aggZ_eq : aggZ = aggCs default 0 0 := by unfold aggZ aggCs aggV; rw [fl_zero]; rfl

section
variable {P : Program}
theorem add_run (a b c d : Nat) (h1 : a + c < 2 ^ 53) (h2 : b + d < 2 ^ 53) (t : TypeId) (w : World) : (binOp .add t (.complex .f64 (fl a) (fl b)) (.complex .f64 (fl c) (fl d))).run P w = .ok (.complex .f64 (fl (a + c)) (fl (b + d))) w :=
  run_complex_sum w .add (.inl rfl) t .f64 _ _ _ _ _ _ (by unfold cSumBits; rw [fl_add h1, fl_add h2]; rfl)
theorem gtr_val (a : Nat) (h : a < 2 ^ 53) : (FloatKind.f64.format.order (fl a) 4814348001659060224 == some .gt) = decide (70368744177664 < a) := by
  have e : (4814348001659060224 : Nat) = fl 70368744177664 := by decide
  have h2 := fl_order h (show 70368744177664 < 2 ^ 53 by decide)
  rw [e]
  show (Ieee.double.order (fl a) (fl 70368744177664) == some Ordering.gt) = _
  rw [h2, Bool.eq_iff_iff]
  simp [Nat.compare_eq_gt]
end
theorem conv_fl (x : Int) (h : 0 ≤ x) : floatOfInt .f64 x = fl x.toNat := by
  unfold fl; rw [Int.toNat_of_nonneg h]

theorem sumN_snoc (p : List Ed) (e : Ed) (hp : 0 ≤ sumW p) (he : 0 ≤ e.w) : sumN (p ++ [e]) = sumN p + e.w.toNat := by
  unfold sumN; rw [sumW_snoc]; omega
theorem mostL_snoc (p : List Ed) (e : Ed) (h : p ≠ []) : mostL (p ++ [e]) = if 0 < cfW e (mostL p) then e else mostL p := by
  unfold mostL
  rw [List.foldl_append]
  have : ∃ m, p.foldl most2 none = some m := by
    have key : ∀ (l : List Ed) (m : Ed), ∃ m', l.foldl most2 (some m) = some m' := by
      intro l
      induction l with
      | nil => exact fun m => ⟨m, rfl⟩
      | cons a r ih => intro m; rw [List.foldl_cons]; unfold most2; dsimp only; split <;> exact ih _
    match p, h with
    | a :: r, _ => exact key r a
  obtain ⟨m, hm⟩ := this
  rw [hm]
  simp only [List.foldl_cons, List.foldl_nil, most2, Option.getD_some]
  split <;> rfl
theorem mostL_one (e : Ed) : mostL [e] = e := rfl

/-- What holds at the head of Along's loop. -/
def AlRel (w w1 : World) (p : List Ed) (n ga gr : Nat) (i : Value) (wr : World) : Prop :=
  ∃ k : Nat, k ≤ n ∧ i = .int .i64 k ∧ Below w1.heap.size w1 wr ∧ Blk wr gr 50 aggZ ∧ Blk wr ga 50 (aggCs (mostL (p.take k)) (sumN (p.take k)) k)

theorem pathL_sub {V : List Int} {E : List Ed} {u v : Int} (h : pathErr V E u v = 0) : ∀ e ∈ pathL V E u v, e ∈ forE V E := by
  obtain ⟨h1, h2⟩ := pathErr_zero h
  obtain ⟨hrn, hmem⟩ := chk_zero h1
  have HR := right_of hrn
  have hw := goneF_went (E := E) HR (hmem v (by simp))
  have hu := pl_lt HR.vup (hmem u (by simp))
  obtain ⟨k, hk⟩ := List.getElem?_of_mem ((hw.known (pl V u)).2 ⟨hu, h2⟩)
  have hkl := (List.getElem?_eq_some_iff.1 hk).1
  have := hw.len
  exact (hw.back V.length k (pl V u) hk (by omega)).1.sub

theorem below_grown (W : World) (q : Nat) (os : Array Obj) : Below W.heap.size W (grow (W.drewN q) os) :=
  ⟨rfl, rfl, rfl, by simp [grow], fun i hi => heap_grow_old _ _ hi⟩
theorem al_grown {wr w' : World} {x0 x1 x2 x3 : Value} {t : TypeId} (h : ∃ q os', w' = grow ((wr.alloc (.cells #[x0, x1, x2, x3] t)).drewN q) os') :
    Below wr.heap.size wr w' ∧ w'.cell? ⟨wr.heap.size, 0, none⟩ = some x0 ∧ w'.cell? ⟨wr.heap.size, 1, none⟩ = some x1 ∧ w'.cell? ⟨wr.heap.size, 2, none⟩ = some x2 ∧ w'.cell? ⟨wr.heap.size, 3, none⟩ = some x3 ∧ wr.heap.size < w'.heap.size := by
  obtain ⟨q, os, rfl⟩ := h
  have hb := below_grown (wr.alloc (.cells #[x0, x1, x2, x3] t)) q os
  have hk : Blk (grow ((wr.alloc (.cells #[x0, x1, x2, x3] t)).drewN q) os) wr.heap.size t #[x0, x1, x2, x3] := (Blk.new wr t #[x0, x1, x2, x3]).below hb (by simp)
  exact ⟨((Below.refl _ _).alloc (Nat.le_refl _) _).trans (hb.mono (by simp)), hk.cell 0, hk.cell 1, hk.cell 2, hk.cell 3, hk.lt⟩
theorem run_storeC (P : Program) (w : World) (a : Addr) (m : Mode) (k : FloatKind) (x y : Nat) : (store a (.complex k x y) m).run P w = stored P w a (.complex k x y) m := run_store P w a _ m rfl
attribute [local go_sem] run_storeC
theorem load_agg {w : World} {g : Nat} {m : Ed} {re im : Nat} (h : Blk w g 50 (aggV m (.complex .f64 re im))) : (loadVar 50 ⟨g, 0, none⟩).run Tryz.prog w = .ok (.agg (aggV m (.complex .f64 re im))) w := by
  have c0 : w.cell? ⟨g, 0, none⟩ = some (.int .i64 m.id) := h.cell 0
  have c1 : w.cell? ⟨g, 1, none⟩ = some (.int .i64 m.u) := h.cell 1
  have c2 : w.cell? ⟨g, 2, none⟩ = some (.int .i64 m.v) := h.cell 2
  have c3 : w.cell? ⟨g, 3, none⟩ = some (.int .i64 m.w) := h.cell 3
  have c4 : w.cell? ⟨g, 4, none⟩ = some (.complex .f64 re im) := h.cell 4
  unfold aggV
  go_simp
/-- The end of a call whose first result lies in a cell. -/
theorem ret_cell_tmp {fn : Func} {p u : Tmp} {ty : TypeId} {a : Act} {w : World} {post : Ending → World → Prop} {A : Addr} {v x : Value} (hr : fn.results = #[.cell p ty, .tmp u]) (hp : a.tmps.getD p undef = .pointer (some A)) (hu : a.tmps.getD u undef = x)
    (hl : (loadVar ty A).run Tryz.prog w = .ok v w) (hd : a.defers = []) (h : post (.returned (.tuple #[v, x])) w) : bodyPost Tryz.prog fn post .ret a w := by
  refine bodyPost_ret (v := .tuple #[v, x]) ?_ hd h
  rw [results_cell_tmp hr, hp, hu]
  simp [asAddr, hl]
/-- What Along answers of a path. -/
def alongT (p : List Ed) : Value := if 70368744177664 < sumN p then .tuple #[.agg aggZ, .int .i64 62] else .tuple #[.agg (aggCs (mostL p) (sumN p) p.length), .int .i64 0]

set_option maxRecDepth 100000 in
set_option maxHeartbeats 4000000 in
theorem Along_ok (sv se : Value) (V : List Int) (E : List Ed) (u v : Int) (w : World) (B : Nat) (hv : RI w B sv V) (he : RE w B se E) (hB : B ≤ w.heap.size) (hc : pathErr V E u v = 0) :
    Calls Tryz.prog 21 #[netV sv se, .int .i64 u, .int .i64 v] w fun e w' => e = .returned (alongT (pathL V E u v)) ∧ Below w.heap.size w w' := by
  have HR := Lib.hid (right_of (chk_zero (pathErr_zero hc).1).1)
  have hvl := HR.out.vlen
  have hpl : (pathL V E u v).length ≤ V.length := Went.back_len (f := plE V) (T := []) (n := 0) _ _
  have hpe : ∀ e ∈ pathL V E u v, 0 ≤ e.w ∧ e.w ≤ 1099511627776 := fun e he => HR.out.ew e (forE_sub V E e (pathL_sub hc e he))
  have HC := Lib.hid hc
  have HV := Lib.hid hv
  have HE := Lib.hid he
  clear hc hv he
  go_enter Tryz.func21, Tryz.ntmps21
  go_wp2_with fail
  refine (pathOf_ok _ _ V E u v _ B ((HV.out.alloc hB _).alloc (by simp; omega) _) ((HE.out.alloc hB _).alloc (by simp; omega) _) (by simp; omega) HC.out).mono ?_
  obtain ⟨p, hp⟩ : ∃ p, p = pathL V E u v := ⟨_, rfl⟩
  rw [← hp] at hpl hpe ⊢
  have HP := Lib.hid hp
  have HPE := Lib.hid hpe
  rintro e w1 ⟨lv, rfl, ho, hb⟩
  have hgr : Blk w1 (w.heap.size + 1) 50 aggZ := by
    have h0 : Blk ((w.alloc (.cells #[sv, se] 25)).alloc (.cells aggZ 50)) (w.heap.size + 1) 50 aggZ := by
      have := Blk.new (w.alloc (.cells #[sv, se] 25)) 50 aggZ
      simpa using this
    exact h0.below hb h0.lt
  have HGR := Lib.hid hgr
  have HB1 : Hid (Below w.heap.size w w1) := (((Below.refl _ _).alloc (Nat.le_refl _) _).alloc (by simp) _).trans (hb.mono (by simp; omega))
  have hre : RE w1 w1.heap.size lv p := ho.rk encE_len (Nat.le_refl _)
  have hz1 := hb.size
  simp only [World.alloc, Array.size_push] at hz1
  clear ho hb hp hpe hgr
  obtain ⟨A, c, rfl, hc1, hc2, hc3, HC2⟩ := hre.open_
  clear hre
  obtain ⟨n, hn⟩ : ∃ n, n = p.length := ⟨_, rfl⟩
  rw [← hn] at hc1 hc3 hpl
  have HN := Lib.hid hn
  rw [← hn]
  clear hn
  go_wp2_with fail
  go_loopw [26] (fun i wr => AlRel w w1 p n w1.heap.size (w.heap.size + 1) i wr) (fun i wr => n - (intOf i).toNat)
  case atStart =>
    refine ⟨0, Nat.zero_le _, rfl, (Below.refl _ _).alloc (Nat.le_refl _) _, HGR.out.alloc _, ?_⟩
    have := Blk.new w1 50 aggZ
    rw [List.take_zero]
    show Blk _ _ _ (aggCs default 0 0)
    rw [← aggZ_eq]
    exact this
  case round =>
    obtain ⟨k, hk, rfl, hbel, hgr, hga⟩ := hrel
    have HB := Lib.hid hbel
    have HA := Lib.hid hga
    have HG := Lib.hid hgr
    have hz := hbel.size
    have hsb : ∀ k, 0 ≤ sumW (p.take k) ∧ sumW (p.take k) ≤ 1099511627776 * 2048 := by
      intro k
      have h1 := sumW_bd (p.take k) fun e he => HPE.out e (List.mem_of_mem_take he)
      have h2 := List.length_take_le' k p
      have := HN.out
      omega
    have HSB := Lib.hid hsb
    obtain ⟨⟨mi, mu, mv, mw⟩, hmo⟩ : ∃ m, m = mostL (p.take k) := ⟨_, rfl⟩
    obtain ⟨S, hS⟩ : ∃ S, S = sumN (p.take k) := ⟨_, rfl⟩
    have hSb : S ≤ 1099511627776 * 2048 := by
      have := hsb k
      rw [hS]; unfold sumN; omega
    rw [← hmo, ← hS] at hga
    have a0 : wr.cell? ⟨w1.heap.size, 0, none⟩ = some (.int .i64 mi) := hga.cell 0
    have a1 : wr.cell? ⟨w1.heap.size, 1, none⟩ = some (.int .i64 mu) := hga.cell 1
    have a2 : wr.cell? ⟨w1.heap.size, 2, none⟩ = some (.int .i64 mv) := hga.cell 2
    have a3 : wr.cell? ⟨w1.heap.size, 3, none⟩ = some (.int .i64 mw) := hga.cell 3
    have a4 : wr.cell? ⟨w1.heap.size, 4, none⟩ = some (.complex .f64 (fl S) (fl k)) := hga.cell 4
    have f0 := hga.frozen 0
    have f1 := hga.frozen 1
    have f2 := hga.frozen 2
    have f3 := hga.frozen 3
    have f4 := hga.frozen 4
    have HMo := Lib.hid hmo
    have HS := Lib.hid hS
    have hgl := hga.lt
    clear hbel hgr hsb hmo hS
    by_cases hlt : k < n
    · obtain ⟨b, o, rfl, hb, hx⟩ := HC2.out k (by have := HN.out; omega)
      obtain ⟨e, hy⟩ : ∃ e, e = p[k]'(by have := HN.out; omega) := ⟨_, rfl⟩
      have hT : p.take (k + 1) = p.take k ++ [e] := by
        rw [List.take_succ_eq_append_getElem (by have := HN.out; omega), ← hy]
      have hew := HPE.out e (by rw [hy]; exact List.getElem_mem _)
      rw [← hy] at hx
      obtain ⟨x0, x1, x2, x3⟩ := cellE hx
      have HT := Lib.hid hT
      clear hx hy hT
      have x0 := (HB.out.cell (p := ⟨b, o + k * 4, none⟩) (by show b < _; omega)).trans x0
      have x1 := (HB.out.cell (p := ⟨b, o + k * 4 + 1, none⟩) (by show b < _; omega)).trans x1
      have x2 := (HB.out.cell (p := ⟨b, o + k * 4 + 2, none⟩) (by show b < _; omega)).trans x2
      have x3 := (HB.out.cell (p := ⟨b, o + k * 4 + 3, none⟩) (by show b < _; omega)).trans x3
      obtain ⟨eid, eu, ev, ew⟩ := e
      dsimp only at *
      obtain ⟨r, hr⟩ : ∃ r, r = ew.toNat := ⟨_, rfl⟩
      have hrb : r ≤ 1099511627776 := by omega
      have hcv : floatOfInt .f64 ew = fl r := by rw [conv_fl ew hew.1, ← hr]
      have h53 : (2 : Nat) ^ 53 = 9007199254740992 := by decide
      have had := fun (w : World) => add_run (P := Tryz.prog) S k r 1 (by omega) (by omega) 48 w
      clear h53
      rw [fl_one] at had
      have HR2 := Lib.hid hr
      clear hr hga
      have hne : w.heap.size + 1 ≠ w1.heap.size := by omega
      have hsum : sumN (p.take (k + 1)) = S + r := by
        rw [HT.out, sumN_snoc _ _ (HSB.out k).1 hew.1, HS.out, HR2.out]
      have HSum := Lib.hid hsum
      clear hsum
      by_cases hk0 : k = 0
      · subst hk0
        simp only [Nat.zero_mul, Nat.add_zero] at x0 x1 x2 x3
        go_wp2_with fail
        go_roundw
        case measure => simp only [intOf]; omega
        case rel =>
          refine ⟨1, by omega, rfl, (((((HB.out.setCell (Nat.le_refl _) _).setCell (Nat.le_refl _) _).setCell (Nat.le_refl _) _).setCell (Nat.le_refl _) _).setCell (Nat.le_refl _) _).alloc (by simp; omega) _, (((((HG.out.far (p := ⟨w1.heap.size, 0, none⟩) hne _).far (p := ⟨w1.heap.size, 1, none⟩) hne _).far (p := ⟨w1.heap.size, 2, none⟩) hne _).far (p := ⟨w1.heap.size, 3, none⟩) hne _).far (p := ⟨w1.heap.size, 4, none⟩) hne _).alloc _, ?_⟩
          have hm1 : mostL (p.take 1) = ⟨eid, eu, ev, ew⟩ := by
            have := HT.out
            rw [Nat.zero_add, List.take_zero, List.nil_append] at this
            rw [this]; rfl
          rw [HSum.out, hm1]
          have hb := (((((HA.out.set_ 0 (.int .i64 eid)).set_ 1 (.int .i64 eu)).set_ 2 (.int .i64 ev)).set_ 3 (.int .i64 ew)).set_ 4 (.complex .f64 (fl (S + r)) (fl 1)))
          unfold aggCs at hb
          rw [aggV_set] at hb
          exact hb.alloc _
      · have hk0i : (k : Int) ≠ 0 := by omega
        have hms : mostL (p.take (k + 1)) = if 0 < cfW ⟨eid, eu, ev, ew⟩ ⟨mi, mu, mv, mw⟩ then ⟨eid, eu, ev, ew⟩ else ⟨mi, mu, mv, mw⟩ := by
          rw [HT.out, mostL_snoc _ _ (by intro e; have := congrArg List.length e; rw [List.length_take_of_le (by have := HN.out; omega)] at this; simp at this; omega), HMo.out]
        have HMs := Lib.hid hms
        clear hk0 hms
        go_wp2_with (go_at_call 55; refine (byWeight_any ⟨eid, eu, ev, ew⟩ ⟨mi, mu, mv, mw⟩ _).mono ?_; rintro e w' ⟨rfl, hq⟩; obtain ⟨hb5, hb50, hb51, hb52, hb53, hb5z⟩ := al_grown hq; have a0 := (hb5.cell (p := ⟨w1.heap.size, 0, none⟩) hgl).trans a0; have a1 := (hb5.cell (p := ⟨w1.heap.size, 1, none⟩) hgl).trans a1; have a2 := (hb5.cell (p := ⟨w1.heap.size, 2, none⟩) hgl).trans a2; have a3 := (hb5.cell (p := ⟨w1.heap.size, 3, none⟩) hgl).trans a3; have a4 := (hb5.cell (p := ⟨w1.heap.size, 4, none⟩) hgl).trans a4; have hbk := (HA.out.below hb5 hgl); have hf0 := hbk.frozen 0; have hf1 := hbk.frozen 1; have hf2 := hbk.frozen 2; have hf3 := hbk.frozen 3; have hf4 := hbk.frozen 4; have HB5 := Lib.hid hb5; clear hq hb5 hbk)
        · go_roundw
          case measure => simp only [intOf]; omega
          case rel =>
            rename_i hor
            have hcf : 0 < cfW ⟨eid, eu, ev, ew⟩ ⟨mi, mu, mv, mw⟩ := by
              rcases hor with h' | h'
              · simp at h'; omega
              · exact h'
            refine ⟨k + 1, by omega, by go_num, (((((HB.out.trans (HB5.out.mono hz)).setCell (Nat.le_refl _) _).setCell (Nat.le_refl _) _).setCell (Nat.le_refl _) _).setCell (Nat.le_refl _) _).setCell (Nat.le_refl _) _, (((((HG.out.below HB5.out HG.out.lt).far (p := ⟨w1.heap.size, 0, none⟩) hne _).far (p := ⟨w1.heap.size, 1, none⟩) hne _).far (p := ⟨w1.heap.size, 2, none⟩) hne _).far (p := ⟨w1.heap.size, 3, none⟩) hne _).far (p := ⟨w1.heap.size, 4, none⟩) hne _, ?_⟩
            rw [HSum.out, HMs.out, if_pos hcf]
            have hb := ((((((HA.out.below HB5.out hgl).set_ 0 (.int .i64 eid)).set_ 1 (.int .i64 eu)).set_ 2 (.int .i64 ev)).set_ 3 (.int .i64 ew)).set_ 4 (.complex .f64 (fl (S + r)) (fl (k + 1))))
            unfold aggCs at hb
            rw [aggV_set] at hb
            exact hb
        · rename_i hor
          refine ⟨⟨k + 1, by omega, by go_num, (HB.out.trans (HB5.out.mono hz)).setCell (Nat.le_refl _) _, (HG.out.below HB5.out HG.out.lt).far (p := ⟨w1.heap.size, 4, none⟩) hne _, ?_⟩, by simp only [intOf]; omega⟩
          rw [HSum.out, HMs.out, if_neg (by have := hor.2; omega)]
          have hb := ((HA.out.below HB5.out hgl).set_ 4 (.complex .f64 (fl (S + r)) (fl (k + 1))))
          unfold aggCs at hb
          rw [← HMo.out, aggV_set4] at hb
          exact hb
    · obtain rfl : k = n := by omega
      have hpt : p.take k = p := by rw [HN.out, List.take_length]
      have h53 : (2 : Nat) ^ 53 = 9007199254740992 := by decide
      have hgv := gtr_val S (by omega)
      have g0 : wr.cell? ⟨w.heap.size + 1, 0, none⟩ = some (.int .i64 0) := HG.out.cell 0
      have g1 : wr.cell? ⟨w.heap.size + 1, 1, none⟩ = some (.int .i64 0) := HG.out.cell 1
      have g2 : wr.cell? ⟨w.heap.size + 1, 2, none⟩ = some (.int .i64 0) := HG.out.cell 2
      have g3 : wr.cell? ⟨w.heap.size + 1, 3, none⟩ = some (.int .i64 0) := HG.out.cell 3
      have g4 : wr.cell? ⟨w.heap.size + 1, 4, none⟩ = some (.complex .f64 0 0) := HG.out.cell 4
      have j0 := HG.out.frozen 0
      have j1 := HG.out.frozen 1
      have j2 := HG.out.frozen 2
      have j3 := HG.out.frozen 3
      have j4 := HG.out.frozen 4
      have HPT := Lib.hid hpt
      clear hpt h53 hga
      by_cases hbig : 70368744177664 < S
      · rw [decide_eq_true hbig] at hgv
        have HBig := Lib.hid hbig
        clear hbig
        go_wp2_with fail
        have hfin := (((((HG.out.set_ 0 (.int .i64 0)).set_ 1 (.int .i64 0)).set_ 2 (.int .i64 0)).set_ 3 (.int .i64 0)).set_ 4 (.complex .f64 0 0))
        rw [show aggZ = aggV default (.complex .f64 0 0) from rfl, aggV_set] at hfin
        refine ret_cell_tmp (p := 6) (u := 7) rfl rfl rfl (load_agg hfin) rfl ⟨?_, ?_⟩
        · rw [← HP.out]
          unfold alongT
          rw [if_pos (by have h1 := HS.out; rw [HPT.out] at h1; have := HBig.out; omega)]
          rfl
        · exact (((((HB1.out.trans (HB.out.mono (by omega))).setCell (by show w.heap.size ≤ w.heap.size + 1; omega) _).setCell (by show w.heap.size ≤ w.heap.size + 1; omega) _).setCell (by show w.heap.size ≤ w.heap.size + 1; omega) _).setCell (by show w.heap.size ≤ w.heap.size + 1; omega) _).setCell (by show w.heap.size ≤ w.heap.size + 1; omega) _
      · rw [decide_eq_false hbig] at hgv
        have HBig := Lib.hid hbig
        clear hbig
        go_wp2_with fail
        have hfin := (((((HG.out.set_ 0 (.int .i64 mi)).set_ 1 (.int .i64 mu)).set_ 2 (.int .i64 mv)).set_ 3 (.int .i64 mw)).set_ 4 (.complex .f64 (fl S) (fl k)))
        rw [show aggZ = aggV default (.complex .f64 0 0) from rfl, aggV_set] at hfin
        refine ret_cell_tmp (p := 6) (u := 7) rfl rfl rfl (load_agg hfin) rfl ⟨?_, ?_⟩
        · rw [← HP.out]
          unfold alongT aggCs
          rw [if_neg (by have h1 := HS.out; rw [HPT.out] at h1; have := HBig.out; omega)]
          have h1 := HMo.out
          have h2 := HS.out
          rw [HPT.out] at h1 h2
          rw [← h1, ← h2, ← HN.out]
          rfl
        · exact (((((HB1.out.trans (HB.out.mono (by omega))).setCell (by show w.heap.size ≤ w.heap.size + 1; omega) _).setCell (by show w.heap.size ≤ w.heap.size + 1; omega) _).setCell (by show w.heap.size ≤ w.heap.size + 1; omega) _).setCell (by show w.heap.size ≤ w.heap.size + 1; omega) _).setCell (by show w.heap.size ≤ w.heap.size + 1; omega) _

set_option maxHeartbeats 1000000 in
theorem Along_no (sv se : Value) (V : List Int) (E : List Ed) (u v c : Int) (w : World) (B : Nat) (hv : RI w B sv V) (he : RE w B se E) (hB : B ≤ w.heap.size) (hc : pathErr V E u v = c) (h0 : c ≠ 0) :
    Calls Tryz.prog 21 #[netV sv se, .int .i64 u, .int .i64 v] w fun e w' => e = .returned (.tuple #[.agg aggZ, .int .i64 c]) ∧ Below w.heap.size w w' := by
  have HC := Lib.hid hc
  have HV := Lib.hid hv
  have HE := Lib.hid he
  clear hc hv he
  go_enter Tryz.func21, Tryz.ntmps21
  go_wp2_with fail
  refine (pathOf_no _ _ V E u v c _ B ((HV.out.alloc hB _).alloc (by simp; omega) _) ((HE.out.alloc hB _).alloc (by simp; omega) _) (by simp; omega) HC.out h0).mono ?_
  rintro e w1 ⟨rfl, hb⟩
  have hgr : Blk w1 (w.heap.size + 1) 50 aggZ := by
    have h0 : Blk ((w.alloc (.cells #[sv, se] 25)).alloc (.cells aggZ 50)) (w.heap.size + 1) 50 aggZ := by
      have := Blk.new (w.alloc (.cells #[sv, se] 25)) 50 aggZ
      simpa using this
    exact h0.below hb h0.lt
  have HGR := Lib.hid hgr
  have HB1 : Hid (Below w.heap.size w w1) := (((Below.refl _ _).alloc (Nat.le_refl _) _).alloc (by simp) _).trans (hb.mono (by simp; omega))
  have hz1 := hb.size
  simp only [World.alloc, Array.size_push] at hz1
  have g0 : w1.cell? ⟨w.heap.size + 1, 0, none⟩ = some (.int .i64 0) := hgr.cell 0
  have g1 : w1.cell? ⟨w.heap.size + 1, 1, none⟩ = some (.int .i64 0) := hgr.cell 1
  have g2 : w1.cell? ⟨w.heap.size + 1, 2, none⟩ = some (.int .i64 0) := hgr.cell 2
  have g3 : w1.cell? ⟨w.heap.size + 1, 3, none⟩ = some (.int .i64 0) := hgr.cell 3
  have g4 : w1.cell? ⟨w.heap.size + 1, 4, none⟩ = some (.complex .f64 0 0) := hgr.cell 4
  have j0 := hgr.frozen 0
  have j1 := hgr.frozen 1
  have j2 := hgr.frozen 2
  have j3 := hgr.frozen 3
  have j4 := hgr.frozen 4
  clear hb hgr
  go_wp2_with fail
  have hfin := (((((HGR.out.set_ 0 (.int .i64 0)).set_ 1 (.int .i64 0)).set_ 2 (.int .i64 0)).set_ 3 (.int .i64 0)).set_ 4 (.complex .f64 0 0))
  rw [show aggZ = aggV default (.complex .f64 0 0) from rfl, aggV_set] at hfin
  refine ret_cell_tmp (p := 6) (u := 7) rfl rfl rfl (load_agg hfin) rfl ⟨rfl, ?_⟩
  exact ((((HB1.out.setCell (by show w.heap.size ≤ w.heap.size + 1; omega) _).setCell (by show w.heap.size ≤ w.heap.size + 1; omega) _).setCell (by show w.heap.size ≤ w.heap.size + 1; omega) _).setCell (by show w.heap.size ≤ w.heap.size + 1; omega) _).setCell (by show w.heap.size ≤ w.heap.size + 1; omega) _
end Go.Proofs.YtghacfhpafbdmaaGreat
