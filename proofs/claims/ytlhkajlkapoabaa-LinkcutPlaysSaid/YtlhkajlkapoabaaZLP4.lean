/-
  Layer 6's Ahead and Most.
-/
import Derived.Test.YtlhkajlkapoabaaZLN14
namespace Go.Proofs.Ytlhkajlkapoabaa
open Go.RowKit Go.Maps
set_option linter.unusedVariables false

set_option maxRecDepth 100000 in
set_option maxHeartbeats 2000000 in
theorem ahead06_any (w : World) (x y : Eg) :
    Calls Try.prog 45 #[edV x, edV y] w fun r w' => r = .returned (.bool (y.above x)) ∧ Below w.heap.size w w' := by
  have e : y.above x = decide (((x.w : Int) < (y.w : Int)) ∨ ((x.w : Int) = (y.w : Int) ∧ x.id < y.id)) := by
    unfold Eg.above
    rw [Bool.eq_iff_iff]
    simp
    omega
  rw [e]
  clear e
  obtain ⟨aid, au, av, cw⟩ := x
  obtain ⟨bid, bu, bv, dw⟩ := y
  unfold edV
  dsimp only
  obtain ⟨aw, ha⟩ : ∃ a : Int, a = (cw : Int) := ⟨_, rfl⟩
  obtain ⟨bw, hb⟩ : ∃ a : Int, a = (dw : Int) := ⟨_, rfl⟩
  rw [← ha, ← hb]
  clear ha hb
  by_cases h1 : aw < bw
  · rw [decide_eq_true (.inl h1)]
    go_enter Try.func45, Try.ntmps45
    go_wp2_with fail
    go_ret
    exact ⟨rfl, ((Below.refl _ _).alloc (Nat.le_refl _) _).alloc (by simp) _⟩
  · by_cases h2 : aw = bw
    · by_cases h3 : aid < bid
      · rw [decide_eq_true (.inr ⟨h2, h3⟩)]
        go_enter Try.func45, Try.ntmps45
        go_wp2_with fail
        go_ret
        exact ⟨rfl, ((Below.refl _ _).alloc (Nat.le_refl _) _).alloc (by simp) _⟩
      · rw [decide_eq_false (by omega)]
        go_enter Try.func45, Try.ntmps45
        go_wp2_with fail
        go_ret
        exact ⟨rfl, ((Below.refl _ _).alloc (Nat.le_refl _) _).alloc (by simp) _⟩
    · rw [decide_eq_false (by omega)]
      go_enter Try.func45, Try.ntmps45
      go_wp2_with fail
      go_ret
      exact ⟨rfl, ((Below.refl _ _).alloc (Nat.le_refl _) _).alloc (by simp) _⟩

/-- An edge's cells. -/
def edC (e : Eg) : Array Value := #[.int .i64 e.id, .int .i64 e.u, .int .i64 e.v, .int .i64 (e.w : Int)]

/-- The greatest so far. -/
def MostI (L : List Eg) (m : Eg) : Prop := (L = [] ∧ m = Eg.zero) ∨ IsMax m L

theorem most_first {x : Eg} : MostI [x] x := .inr (isMax_one x)

theorem most_next {L : List Eg} {m x : Eg} (h : MostI L m) (hL : L ≠ []) : MostI (L ++ [x]) (if x.above m then x else m) := by
  rcases h with ⟨h, -⟩ | h
  · exact absurd h hL
  · exact .inr (isMax_pick h (isMax_one x))

theorem BoxE.put4 {w W : World} {p : Nat} {t t2 : TypeId} {cs : Array Value} {y0 y1 y2 y3 : Value} (h : BoxE w W p t cs t2 #[y0, y1, y2, y3]) (a b c d : Value) : BoxE w ((((W.setCell ⟨p + 1, 0, none⟩ a).setCell ⟨p + 1, 1, none⟩ b).setCell ⟨p + 1, 2, none⟩ c).setCell ⟨p + 1, 3, none⟩ d) p t cs t2 #[a, b, c, d] := by
  refine ⟨?_, by simpa using (((h.b1.set_ 0 a).set_ 1 b).set_ 2 c).set_ 3 d, h.set4 _ _ _ _, h.lo⟩
  have h0 := h.b0
  unfold Blk at h0 ⊢
  rw [heap4 (by omega)]
  exact h0

theorem ret_cell1 {fn : Func} {p : Tmp} {ty : TypeId} {a : Act} {w : World} {post : Ending → World → Prop} {A : Addr} {v : Value} (hr : fn.results = #[.cell p ty]) (hp : a.tmps.getD p undef = .pointer (some A))
    (hl : (loadVar ty A).run Try.prog w = .ok v w) (hd : a.defers = []) (h : post (.returned v) w) : bodyPost Try.prog fn post .ret a w := by
  refine bodyPost_ret (v := v) ?_ hd h
  have hp' : a.tmps[p]?.getD undef = .pointer (some A) := by simpa using hp
  simp only [results, hr]
  simp [hp', asAddr, hl]
/-- .. behind a store of what the cell holds. -/
theorem setRow_same {w : World} {g : Nat} {t : TypeId} {cs : Array Value} (h : Blk w g t cs) : w.setRow g cs = w := setRow_self w g cs t (0, 0) h
theorem run_storeCx (P : Program) (w : World) (a : Addr) (m : Mode) (k : FloatKind) (x y : Nat) : (store a (.complex k x y) m).run P w = stored P w a (.complex k x y) m := run_store P w a _ m rfl
attribute [local go_sem] run_storeCx

set_option maxRecDepth 100000 in
set_option maxHeartbeats 8000000 in
theorem most06_any (w : World) (b : Value) (es : List Eg) (hb : RK encD 4 w w.heap.size b es) (hl : es.length ≤ 100000) :
    Calls Try.prog 38 #[b] w fun r w' => ∃ m, r = .returned (edV m) ∧ MostI es m ∧ Below w.heap.size w w' := by
  obtain ⟨A, ca, rfl, -, -, -, HC⟩ := hb.open_
  obtain ⟨n, hnn⟩ : ∃ n, n = es.length := ⟨_, rfl⟩
  rw [← hnn] at hl ⊢
  have HN := Lib.hid hnn
  clear hb hnn
  obtain ⟨W, hW⟩ : ∃ W, W = (w.alloc (.cells zEd 33)).alloc (.cells zEd 33) := ⟨_, rfl⟩
  obtain ⟨q, hq⟩ : ∃ q, q = w.heap.size := ⟨_, rfl⟩
  have hbx := boxE w 33 zEd 33 zEd
  rw [← hW, ← hq] at hbx
  unfold zEd at hW hbx
  have HW := Lib.hid hW
  have HQ := Lib.hid hq
  have BX := Lib.hid hbx
  clear hW hq hbx
  go_enter Try.func38, Try.ntmps38
  go_upto_region 1 with fail
  go_wp2_with fail
  rw [← HW.out]
  try simp only [← HQ.out]
  go_loopw [4] (fun i wr => ∃ (k : Nat) (m : Eg), k ≤ n ∧ i = .int .i64 k ∧ Hid (BoxE w wr q 33 #[.int .i64 0, .int .i64 0, .int .i64 0, .int .i64 0] 33 #[.int .i64 m.id, .int .i64 m.u, .int .i64 m.v, .int .i64 (m.w : Int)]) ∧ Hid (MostI (es.take k) m)) (fun i _ => n - (intOf i).toNat)
  case atStart => exact ⟨0, Eg.zero, Nat.zero_le _, rfl, BX, Lib.hid (.inl ⟨by simp, rfl⟩)⟩
  case round =>
    obtain ⟨k, m, hk, rfl, HB, HM⟩ := hrel
    have hz := HB.out.b1.lt
    by_cases hkn : k < n
    · have hkv : k < es.length := by have := HN.out; omega
      obtain ⟨b1, o1, rfl, hb1, hx⟩ := HC.out k hkv
      obtain ⟨⟨id, p1, p2, p3⟩, hy⟩ : ∃ y, y = es[k] := ⟨_, rfl⟩
      have HTK := Lib.hid (List.take_succ_eq_append_getElem hkv)
      rw [← hy] at hx HTK
      have HTL : Hid (k = 0 ∨ es.take k ≠ []) := Lib.hid (by
        by_cases h : k = 0
        · exact .inl h
        · refine .inr fun e => ?_
          have h2 : (es.take k).length = k := by rw [List.length_take]; omega
          rw [e] at h2
          exact h h2.symm)
      have HXS : Hid (∀ W', Below w.heap.size w W' → W'.cell? ⟨b1, o1 + k * 4, none⟩ = some (.int .i64 id) ∧ W'.cell? ⟨b1, o1 + k * 4 + 1, none⟩ = some (.int .i64 p1) ∧ W'.cell? ⟨b1, o1 + k * 4 + 2, none⟩ = some (.int .i64 p2) ∧ W'.cell? ⟨b1, o1 + k * 4 + 3, none⟩ = some (.int .i64 (p3 : Int))) := Lib.hid (by
        obtain ⟨z0, z1, z2, z3⟩ := cellD hx
        exact fun W' hb => ⟨(hb.cell (p := ⟨b1, o1 + k * 4, none⟩) hb1).trans z0, (hb.cell (p := ⟨b1, o1 + k * 4 + 1, none⟩) hb1).trans z1, (hb.cell (p := ⟨b1, o1 + k * 4 + 2, none⟩) hb1).trans z2, (hb.cell (p := ⟨b1, o1 + k * 4 + 3, none⟩) hb1).trans z3⟩)
      obtain ⟨⟨ni, nu, nv, nw⟩, hmm⟩ : ∃ y, y = m := ⟨_, rfl⟩
      subst hmm
      dsimp only at HB
      have hkd : decide ((k : Int) < (n : Int)) = true := by simpa using hkn
      have hk2 : (k : Int) < (n : Int) := by omega
      clear hx hy
      by_cases hk0 : k = 0
      · have hid : ((k : Int) == 0) = true := by simpa using hk0
        have HK0 := Lib.hid hk0
        clear hk0
        go_wp2_with fail
        go_quiet (fail)
        obtain ⟨wd, hwd⟩ : ∃ wd, wd = wr.drewN nq := ⟨_, rfl⟩
        have HB2 := Lib.hid (HB.out.after (below_drewN (Below.refl _ wr) nq))
        rw [← hwd] at HB2 ⊢
        clear hwd HB
        obtain ⟨x0, x1, x2, x3⟩ := HXS.out _ HB2.out.below
        have f0 := HB2.out.b1.frozen 0
        have f1 := HB2.out.b1.frozen 1
        have f2 := HB2.out.b1.frozen 2
        have f3 := HB2.out.b1.frozen 3
        have d0 := HB2.out.b1.cell 0
        have d1 := HB2.out.b1.cell 1
        have d2 := HB2.out.b1.cell 2
        have d3 := HB2.out.b1.cell 3
        go_wp2_with fail
        go_roundw
        case rel =>
          refine ⟨k + 1, ⟨id, p1, p2, p3⟩, by omega, by go_num, Lib.hid (HB2.out.put4 _ _ _ _), Lib.hid ?_⟩
          rw [HTK.out, HK0.out]
          exact most_first
        case measure => simp [intOf]; omega
      · have hid : ((k : Int) == 0) = false := by simpa using hk0
        have HNE : Hid (es.take k ≠ []) := Lib.hid (HTL.out.resolve_left hk0)
        clear hk0
        have HS2 : Hid (∀ W', Below wr.heap.size wr W' → (W'.cell? ⟨b1, o1 + k * 4, none⟩ = some (.int .i64 id) ∧ W'.cell? ⟨b1, o1 + k * 4 + 1, none⟩ = some (.int .i64 p1) ∧ W'.cell? ⟨b1, o1 + k * 4 + 2, none⟩ = some (.int .i64 p2) ∧ W'.cell? ⟨b1, o1 + k * 4 + 3, none⟩ = some (.int .i64 (p3 : Int))) ∧ W'.cell? ⟨q + 1, 0, none⟩ = some (.int .i64 ni) ∧ W'.cell? ⟨q + 1, 1, none⟩ = some (.int .i64 nu) ∧ W'.cell? ⟨q + 1, 2, none⟩ = some (.int .i64 nv) ∧ W'.cell? ⟨q + 1, 3, none⟩ = some (.int .i64 (nw : Int))) := Lib.hid fun W' hb => by
          have h2 := HB.out.after hb
          exact ⟨HXS.out _ h2.below, h2.b1.cell 0, h2.b1.cell 1, h2.b1.cell 2, h2.b1.cell 3⟩
        obtain ⟨ab, hab⟩ : ∃ c, c = Eg.above ⟨id, p1, p2, p3⟩ ⟨ni, nu, nv, nw⟩ := ⟨_, rfl⟩
        have HAB := Lib.hid hab
        clear hab
        go_wp2_with fail
        have HBW : Hid (Below wr.heap.size wr wr.drew) := Lib.hid ((Below.refl _ _).drew)
        have HD2 := Lib.hid (HS2.out _ HBW.out)
        obtain ⟨⟨x0, x1, x2, x3⟩, d0, d1, d2, d3⟩ := HD2.out
        go_region_held3 (fun w' => (w'.cell? ⟨b1, o1 + k * 4, none⟩ = some (.int .i64 id) ∧ w'.cell? ⟨b1, o1 + k * 4 + 1, none⟩ = some (.int .i64 p1) ∧ w'.cell? ⟨b1, o1 + k * 4 + 2, none⟩ = some (.int .i64 p2) ∧ w'.cell? ⟨b1, o1 + k * 4 + 3, none⟩ = some (.int .i64 (p3 : Int))) ∧ w'.cell? ⟨q + 1, 0, none⟩ = some (.int .i64 ni) ∧ w'.cell? ⟨q + 1, 1, none⟩ = some (.int .i64 nu) ∧ w'.cell? ⟨q + 1, 2, none⟩ = some (.int .i64 nv) ∧ w'.cell? ⟨q + 1, 3, none⟩ = some (.int .i64 (nw : Int))) (first | with_reducible exact HD2.out | with_reducible exact HC2.out | fail)
          ((go_at_call 45; refine (ahead06_any _ ⟨ni, nu, nv, nw⟩ ⟨id, p1, p2, p3⟩).mono ?_; rw [← HAB.out]; rintro e w3 ⟨rfl, t3⟩; have T3 := Lib.hid (HBW.out.trans t3); have HC2 := Lib.hid (HS2.out _ T3.out); clear t3))
        have HB3 := Lib.hid (HB.out.after T3.out)
        clear x0 x1 x2 x3 d0 d1 d2 d3
        obtain ⟨x0, x1, x2, x3⟩ := HXS.out _ HB3.out.below
        have f0 := HB3.out.b1.frozen 0
        have f1 := HB3.out.b1.frozen 1
        have f2 := HB3.out.b1.frozen 2
        have f3 := HB3.out.b1.frozen 3
        have d0 := HB3.out.b1.cell 0
        have d1 := HB3.out.b1.cell 1
        have d2 := HB3.out.b1.cell 2
        have d3 := HB3.out.b1.cell 3
        have HNX := Lib.hid (most_next (x := ⟨id, p1, p2, p3⟩) HM.out HNE.out)
        cases ab with
        | true =>
          go_wp2_with fail
          go_roundw
          case rel =>
            refine ⟨k + 1, ⟨id, p1, p2, p3⟩, by omega, by go_num, Lib.hid (HB3.out.put4 _ _ _ _), Lib.hid ?_⟩
            have := HNX.out
            rwa [← HAB.out, if_pos rfl, ← HTK.out] at this
          case measure => simp [intOf]; omega
        | false =>
          go_wp2_with fail
          go_roundw
          case rel =>
            refine ⟨k + 1, ⟨ni, nu, nv, nw⟩, by omega, by go_num, HB3, Lib.hid ?_⟩
            have := HNX.out
            rwa [← HAB.out, if_neg (by decide), ← HTK.out] at this
          case measure => simp [intOf]; omega
    · obtain rfl : k = n := by omega
      have hkd : decide ((k : Int) < (k : Int)) = false := by simp
      have d0 := HB.out.b1.cell 0
      have d1 := HB.out.b1.cell 1
      have d2 := HB.out.b1.cell 2
      have d3 := HB.out.b1.cell 3
      have e0 := HB.out.b0.cell 0
      have e1 := HB.out.b0.cell 1
      have e2 := HB.out.b0.cell 2
      have e3 := HB.out.b0.cell 3
      have f0 := HB.out.b0.frozen 0
      have f1 := HB.out.b0.frozen 1
      have f2 := HB.out.b0.frozen 2
      have f3 := HB.out.b0.frozen 3
      have HMM : Hid (MostI es m) := Lib.hid (by
        have := HM.out
        rwa [List.take_of_length_le (by have := HN.out; omega)] at this)
      go_wp2_with fail
      refine ret_cell1 (p := 2) (v := edV m) rfl rfl (by unfold edV; go_simp) rfl ⟨m, rfl, HMM.out, ?_⟩
      have hq : w.heap.size ≤ q := HB.out.lo
      exact (((HB.out.below.setCell (p := ⟨q, 0, none⟩) hq _).setCell (p := ⟨q, 1, none⟩) hq _).setCell (p := ⟨q, 2, none⟩) hq _).setCell (p := ⟨q, 3, none⟩) hq _

end Go.Proofs.Ytlhkajlkapoabaa

/-
  Layer 6's Sum and layer 17's Along of the document.
-/
namespace Go.Proofs.Ytlhkajlkapoabaa
open Go.RowKit Go.Maps
set_option linter.unusedVariables false

theorem wsum_le : ∀ {L : List Eg}, (∀ e ∈ L, e.w ≤ 1099511627776) → (L.map Eg.w).sum ≤ L.length * 1099511627776
  | [], _ => Nat.zero_le _
  | e :: L, h => by
    have h1 := h e List.mem_cons_self
    have h2 := wsum_le fun x hx => h x (List.mem_cons_of_mem e hx)
    simp only [List.map_cons, List.sum_cons, List.length_cons]
    omega

set_option maxRecDepth 100000 in
set_option maxHeartbeats 2000000 in
theorem sum06_any (w : World) (b : Value) (es : List Eg) (hb : RK encD 4 w w.heap.size b es) (hw : ∀ e ∈ es, e.w ≤ 1099511627776) (hl : es.length ≤ 2048) :
    Calls Try.prog 39 #[b] w fun r w' => r = .returned (.int .i64 (((es.map Eg.w).sum : Nat) : Int)) ∧ w' = w := by
  obtain ⟨A, ca, rfl, -, -, -, HC⟩ := hb.open_
  obtain ⟨n, hnn⟩ : ∃ n, n = es.length := ⟨_, rfl⟩
  rw [← hnn] at hl ⊢
  have HN := Lib.hid hnn
  have HW := Lib.hid hw
  clear hb hnn hw
  go_enter Try.func39, Try.ntmps39
  go_wp2_with fail
  go_loopw [3, 4] (fun s i wr => ∃ k : Nat, k ≤ n ∧ i = .int .i64 k ∧ s = .int .i64 ((((es.take k).map Eg.w).sum : Nat) : Int) ∧ wr = w) (fun _ i _ => n - (intOf i).toNat)
  case atStart => exact ⟨0, Nat.zero_le _, rfl, rfl, rfl⟩
  case round =>
    obtain ⟨k, hk, rfl, rfl, hwr⟩ := hrel
    rw [hwr]
    clear hwr
    by_cases hkn : k < n
    · have hkv : k < es.length := by have := HN.out; omega
      obtain ⟨b1, o1, rfl, hb1, hx⟩ := HC.out k hkv
      obtain ⟨⟨id, p1, p2, p3⟩, hy⟩ : ∃ y, y = es[k] := ⟨_, rfl⟩
      have htk := List.take_succ_eq_append_getElem hkv
      have hmem := HW.out _ (List.getElem_mem hkv)
      rw [← hy] at hx htk hmem
      obtain ⟨-, -, -, x3⟩ := cellD hx
      dsimp only at x3 hmem
      have hs1 : ((es.take (k + 1)).map Eg.w).sum = ((es.take k).map Eg.w).sum + p3 := by rw [htk]; simp
      have hs2 := wsum_le (L := es.take k) fun e he => HW.out e (List.mem_of_mem_take he)
      have hs3 : (es.take k).length ≤ 2048 := by rw [List.length_take]; omega
      obtain ⟨s, hs⟩ : ∃ s, s = ((es.take k).map Eg.w).sum := ⟨_, rfl⟩
      rw [← hs] at hs1 hs2 ⊢
      have hs4 : s ≤ 2251799813685248 := by omega
      have HS := Lib.hid hs1
      have hkd : decide ((k : Int) < (n : Int)) = true := by simpa using hkn
      have hk2 : (k : Int) < (n : Int) := by omega
      have d1 : IntKind.i64.wrap ((s : Int) + (p3 : Int)) = (s : Int) + (p3 : Int) := by rw [IntKind.wrap_i64]; omega
      clear hx hy hs hs1 hs2 hs3 htk
      go_wp2_with fail
      go_roundw
      case rel => exact ⟨k + 1, by omega, by go_num, by rw [HS.out]; push_cast; rfl, by first | rfl | trivial⟩
      case measure => simp [intOf]; omega
    · obtain rfl : k = n := by omega
      have hkd : decide ((k : Int) < (k : Int)) = false := by simp
      have hte : es.take k = es := by rw [HN.out, List.take_length]
      rw [hte]
      clear hte
      go_wp2_with fail
      go_ret
      exact ⟨rfl, rfl⟩

theorem BoxE.set5 {w W : World} {p : Nat} {t t2 : TypeId} {cs cs2 : Array Value} (h : BoxE w W p t cs t2 cs2) (a b c d e : Value) : Below w.heap.size w (((((W.setCell ⟨p + 1, 0, none⟩ a).setCell ⟨p + 1, 1, none⟩ b).setCell ⟨p + 1, 2, none⟩ c).setCell ⟨p + 1, 3, none⟩ d).setCell ⟨p + 1, 4, none⟩ e) := by
  have hq : w.heap.size ≤ p + 1 := by have := h.lo; omega
  exact (h.set4 a b c d).setCell (p := ⟨p + 1, 4, none⟩) hq _

/-- What the document tells of a path. -/
theorem along_of {F : LF} {d : DF} (hF : F.Ok) (hd : BesL F d) {u v : Int} (hu : u ∈ d.vs) (hv : v ∈ d.vs) {p : List Eg} (h1 : Trl d.es u v p) (h2 : (ids p).Nodup) {m : Eg} (hm : MostI p m) :
    F.alongX u v = 0 ∧ F.alongV u v = .agg (agC m (fl (p.map Eg.w).sum) (fl p.length)) ∧ (∀ e ∈ p, e.w ≤ 1099511627776) ∧ p.length ≤ 2048 := by
  have hu' := (hd.vm u).1 hu
  have hv' := (hd.vm v).1 hv
  have ht := h1.mono (es' := F.es) fun e he => (hd.em e).1 he
  have hj := ht.join (F := F) fun _ h => h
  have hp := ht.path hF hu' hv' h2
  have hsub : ∀ e ∈ p, e ∈ F.es := ht.sub
  have hnz : ∀ e ∈ p, e ≠ Eg.zero := fun e he => hF.nz (hsub e he)
  obtain ⟨c1, c2⟩ := cnt_len hnz
  have c3 : cntE p = cntE (F.path u v) := by unfold cntE; exact (hp.map _).sum_nat
  have c4 : sumE p = sumE (F.path u v) := by unfold sumE; exact (hp.map _).sum_nat
  have hb : best (F.path u v) = m := by
    rcases hm with ⟨rfl, rfl⟩ | hm
    · rw [List.nil_perm.1 hp]; rfl
    · have h3 : IsMax m (Eg.zero :: F.path u v) := by
        refine ⟨List.mem_cons_of_mem _ (hp.mem_iff.1 hm.1), fun e he => ?_⟩
        rcases List.mem_cons.1 he with rfl | he
        · have := (hF.eids m (hsub m hm.1)).1
          unfold Eg.above Eg.zero
          simp
          omega
        · exact hm.2 e (hp.mem_iff.2 he)
      refine max_one (best_max _) h3 fun x hx y hy hxy => ?_
      have hz : ∀ z ∈ F.path u v, z.id ≠ Eg.zero.id := fun z hz h0 => by
        have := (hF.eids z ((F.path_sub u v).mem hz)).1
        rw [h0] at this
        exact absurd this (by decide)
      rcases List.mem_cons.1 hx with rfl | hx
      · rcases List.mem_cons.1 hy with rfl | hy
        · rfl
        · exact absurd hxy.symm (hz y hy)
      · rcases List.mem_cons.1 hy with rfl | hy
        · exact absurd hxy (hz x hx)
        · exact hF.one ((F.path_sub u v).mem hy) x ((F.path_sub u v).mem hx) hxy
  refine ⟨?_, ?_, fun e he => (hF.eids e (hsub e he)).2.2, ?_⟩
  · unfold LF.alongX
    rw [if_pos ⟨hu', hv'⟩, if_pos hj]
  · unfold LF.alongV
    rw [hb, ← c4, ← c3, c1, c2]
  · have := hp.length_eq
    have h4 := (F.path_sub u v).length_le
    have := hF.fewE
    omega

end Go.Proofs.Ytlhkajlkapoabaa

/-
  Layer 17's Along of the document, at any forest.
-/
namespace Go.Proofs.Ytlhkajlkapoabaa
open Go.RowKit Go.Maps
set_option linter.unusedVariables false

attribute [local go_sem] run_storeCx

set_option maxRecDepth 100000 in
set_option maxHeartbeats 8000000 in
theorem refAlong_any (w : World) (a b c e : Value) (d : DF) (F : LF) (u v : Int) (h : DocR w w.heap.size a b c e d) (hF : F.Ok) (hbs : BesL F d) :
    Calls Try.prog 27 #[.agg #[a, b, c, e], .int .i64 u, .int .i64 v] w fun r w' => r = .returned (.tuple #[F.alongV u v, .int .i64 (F.alongX u v)]) ∧ Below w.heap.size w w' := by
  obtain ⟨A1, y1, h1, -, -, -, -⟩ := h.vs.open_
  obtain ⟨A2, y2, h2, -, -, -, -⟩ := h.es.open_
  obtain ⟨n1, hn1⟩ : ∃ n, n = d.vs.length := ⟨_, rfl⟩
  obtain ⟨n2, hn2⟩ : ∃ n, n = d.es.length := ⟨_, rfl⟩
  rw [← hn1] at h1
  rw [← hn2] at h2
  subst h1 h2
  have HN2 := Lib.hid hn2
  clear hn1 hn2
  have HF := Lib.hid hF
  have HD := Lib.hid hbs
  have HFI := Lib.hid (hbs.fit hF).1
  obtain ⟨W, hW⟩ : ∃ W, W = (w.alloc (.cells #[.slice A1 n1 y1, .slice A2 n2 y2, c, e] 31)).alloc (.cells #[.int .i64 0, .int .i64 0, .int .i64 0, .int .i64 0, .complex .f64 0 0] 48) := ⟨_, rfl⟩
  obtain ⟨q, hq⟩ : ∃ q, q = w.heap.size := ⟨_, rfl⟩
  have hbx := boxE w 31 #[.slice A1 n1 y1, .slice A2 n2 y2, c, e] 48 #[.int .i64 0, .int .i64 0, .int .i64 0, .int .i64 0, .complex .f64 0 0]
  rw [← hW, ← hq] at hbx
  have HR := Lib.hid ((h.below hbx.below).more hbx.below.size)
  have HW := Lib.hid hW
  have HQ := Lib.hid hq
  have BX := Lib.hid hbx
  have AX : Hid (¬ (u ∈ d.vs ∧ v ∈ d.vs) → F.alongX u v = 51 ∧ F.alongV u v = .agg (agC Eg.zero 0 0)) := Lib.hid fun hn => by
    have hn' : ¬ (u ∈ F.vs ∧ v ∈ F.vs) := fun hh => hn ⟨(hbs.vm u).2 hh.1, (hbs.vm v).2 hh.2⟩
    refine ⟨by unfold LF.alongX; rw [if_neg hn'], LF.alongV_no fun hh => hn' ⟨hh.1, hh.2.1⟩⟩
  have AJ : Hid (u ∈ d.vs ∧ v ∈ d.vs → ¬ Conn d.es u v → F.alongX u v = 61 ∧ F.alongV u v = .agg (agC Eg.zero 0 0)) := Lib.hid fun hn hc => by
    have hn' : u ∈ F.vs ∧ v ∈ F.vs := ⟨(hbs.vm u).1 hn.1, (hbs.vm v).1 hn.2⟩
    have hj : ¬ F.Join u v := fun hj => hc ((hbs.conn u v).2 hj)
    refine ⟨by unfold LF.alongX; rw [if_pos hn', if_neg hj], LF.alongV_no fun hh => hj hh.2.2⟩
  have AL := Lib.hid fun (hu : u ∈ d.vs) (hv : v ∈ d.vs) (p : List Eg) (h1 : Trl d.es u v p) (h2 : (ids p).Nodup) (m : Eg) (hm : MostI p m) => along_of hF hbs hu hv h1 h2 hm
  obtain ⟨rv, hrv⟩ : ∃ x, x = F.alongV u v := ⟨_, rfl⟩
  obtain ⟨rx, hrx⟩ : ∃ x, x = F.alongX u v := ⟨_, rfl⟩
  rw [← hrv, ← hrx] at AX AJ AL ⊢
  clear hW hq hbx h hF hbs hrv hrx
  go_enter Try.func27, Try.ntmps27
  go_upto_region 1 with fail
  rw [← HW.out]
  try simp only [← HQ.out]
  have c0 := BX.out.b0.cell 0
  have c1 := BX.out.b0.cell 1
  have d0 := BX.out.b1.cell 0
  have d1 := BX.out.b1.cell 1
  have d2 := BX.out.b1.cell 2
  have d3 := BX.out.b1.cell 3
  have d4 := BX.out.b1.cell 4
  have f0 := BX.out.b1.frozen 0
  have f1 := BX.out.b1.frozen 1
  have f2 := BX.out.b1.frozen 2
  have f3 := BX.out.b1.frozen 3
  have f4 := BX.out.b1.frozen 4
  go_wp2_with fail
  refine (has_any _ d.vs W _ HR.out.vs u).mono ?_
  by_cases hu : u ∈ d.vs
  case neg =>
    rw [decide_eq_false hu]
    rintro r wx ⟨rfl, hwx⟩
    rw [hwx]
    clear hwx wx
    have HE := Lib.hid (AX.out fun hh => hu hh.1)
    go_wp2_with fail
    refine ret_cell_tmp2 (p := 6) (u := 7) (v := .agg (agC Eg.zero 0 0)) (x := .int .i64 51) rfl rfl rfl (by unfold agC Eg.zero; go_simp) rfl ⟨by rw [HE.out.1, HE.out.2], ?_⟩
    exact BX.out.set5 _ _ _ _ _
  rw [decide_eq_true hu]
  have HU := Lib.hid hu
  clear hu
  rintro r wx ⟨rfl, hwx⟩
  rw [hwx]
  clear hwx wx
  go_wp2_with fail
  refine (has_any _ d.vs W _ HR.out.vs v).mono ?_
  by_cases hv : v ∈ d.vs
  case neg =>
    rw [decide_eq_false hv]
    rintro r wx ⟨rfl, hwx⟩
    rw [hwx]
    clear hwx wx
    have HE := Lib.hid (AX.out fun hh => hv hh.2)
    go_wp2_with fail
    refine ret_cell_tmp2 (p := 6) (u := 7) (v := .agg (agC Eg.zero 0 0)) (x := .int .i64 51) rfl rfl rfl (by unfold agC Eg.zero; go_simp) rfl ⟨by rw [HE.out.1, HE.out.2], ?_⟩
    exact BX.out.set5 _ _ _ _ _
  rw [decide_eq_true hv]
  have HV := Lib.hid hv
  clear hv
  rintro r wx ⟨rfl, hwx⟩
  rw [hwx]
  clear hwx wx
  go_wp2_with fail
  refine (way06_any W _ d.es u v HR.out.es HD.out.idn (by have := HFI.out.ne; omega)).mono ?_
  rintro r w1 ⟨x, ok, p, rfl, b1, o1, hok⟩
  have BX1 := Lib.hid (BX.out.after b1)
  have O1 := Lib.hid (o1.rk encD_len (Nat.le_refl _))
  obtain ⟨Ap, cp, hx, -, -, -, -⟩ := (o1.rk encD_len (Nat.le_refl _)).open_
  obtain ⟨np, hnp⟩ : ∃ n, n = p.length := ⟨_, rfl⟩
  rw [← hnp] at hx
  have HNP := Lib.hid hnp
  subst hx
  clear hnp b1 o1 c0 c1 d0 d1 d2 d3 d4 f0 f1 f2 f3 f4
  have d0 := BX1.out.b1.cell 0
  have d1 := BX1.out.b1.cell 1
  have d2 := BX1.out.b1.cell 2
  have d3 := BX1.out.b1.cell 3
  have d4 := BX1.out.b1.cell 4
  have f0 := BX1.out.b1.frozen 0
  have f1 := BX1.out.b1.frozen 1
  have f2 := BX1.out.b1.frozen 2
  have f3 := BX1.out.b1.frozen 3
  have f4 := BX1.out.b1.frozen 4
  cases ok with
  | false =>
    rw [if_neg (by decide)] at hok
    have HE := Lib.hid (AJ.out ⟨HU.out, HV.out⟩ hok.2)
    clear hok
    go_wp2_with fail
    refine ret_cell_tmp2 (p := 6) (u := 7) (v := .agg (agC Eg.zero 0 0)) (x := .int .i64 61) rfl rfl rfl (by unfold agC Eg.zero; go_simp) rfl ⟨by rw [HE.out.1, HE.out.2], ?_⟩
    exact BX1.out.set5 _ _ _ _ _
  | true =>
    rw [if_pos rfl] at hok
    have HT := Lib.hid hok.1
    have HTN := Lib.hid hok.2.1
    have HTL := Lib.hid hok.2.2
    clear hok d0 d1 d2 d3 d4 f0 f1 f2 f3 f4
    go_wp2_with fail
    refine (most06_any w1 _ p O1.out (by have := HTL.out; have := HFI.out.ne; omega)).mono ?_
    rintro r w2 ⟨⟨m0, m1, m2, m3⟩, rfl, hm, b2⟩
    have HE := Lib.hid (AL.out HU.out HV.out p HT.out HTN.out _ hm)
    have BX2 := Lib.hid (BX1.out.after b2)
    have O2 := Lib.hid ((O1.out.below b2).more b2.size)
    clear hm b2
    unfold edV
    dsimp only
    go_wp2_with fail
    refine (sum06_any w2 _ p O2.out HE.out.2.2.1 HE.out.2.2.2).mono ?_
    rintro r wx ⟨rfl, hwx⟩
    rw [hwx]
    clear hwx wx
    have d0 := BX2.out.b1.cell 0
    have d1 := BX2.out.b1.cell 1
    have d2 := BX2.out.b1.cell 2
    have d3 := BX2.out.b1.cell 3
    have d4 := BX2.out.b1.cell 4
    have f0 := BX2.out.b1.frozen 0
    have f1 := BX2.out.b1.frozen 1
    have f2 := BX2.out.b1.frozen 2
    have f3 := BX2.out.b1.frozen 3
    have f4 := BX2.out.b1.frozen 4
    obtain ⟨s, hs⟩ : ∃ s, s = (p.map Eg.w).sum := ⟨_, rfl⟩
    rw [← hs] at HE ⊢
    clear hs
    go_wp2_with fail
    refine ret_cell_tmp2 (p := 6) (u := 7) (v := .agg (agC ⟨m0, m1, m2, m3⟩ (fl s) (fl np))) (x := .int .i64 0) rfl rfl rfl (by unfold agC fl; go_simp) rfl ⟨by rw [HE.out.1, HE.out.2.1, HNP.out], ?_⟩
    exact BX2.out.set5 _ _ _ _ _

end Go.Proofs.Ytlhkajlkapoabaa
