/-
  Rows of many cells appended one to the other; the walks of skeinref09's Alike at equal rows, of skeinlaw09's begins.
-/
import Derived.Test.YtplkdcegfpiofaaZV20
import Derived.Test.YtplkdcegfpiofaaZV26
namespace Go.Proofs.Ytplkdcegfpiofaa
open Go.RowKit Go.Maps
set_option linter.unusedVariables false

theorem same_q {w : World} {n B : Nat} {u v : Value} {a : List Nat} (hu : RB w B u a) (hv : RB w B v a) : Calls Try.prog 20 #[u, v] (w.drewN n) fun e w' => e = .returned (.bool true) ∧ ∃ m, w' = (w.drewN n).drewN m :=
  same_yes u v a _ B (hu.drewN n) (hv.drewN n)
section
variable {α : Type} {enc : α → List Value} {k bytes t E : Nat} {w : World} {base : Nat} {v u : Value} {xs ys : List α}
theorem flat_one (h1 : ∀ x, ∀ u ∈ enc x, u.oneCell' = true) : ∀ ys : List α, ∀ u ∈ ys.flatMap enc, u.oneCell' = true := by
  intro ys u hu
  obtain ⟨y, _, hu⟩ := List.mem_flatMap.1 hu
  exact h1 y u hu
theorem flat_cells (hk : ∀ x, (enc x).length = k) {b : Nat} : ∀ (ys : List α) (o : Nat), (∀ i x, ys[i]? = some x → ∀ (j : Nat) u, (enc x)[j]? = some u → w.cell? ⟨b, o + i * k + j, none⟩ = some u) → ∀ (j : Nat) u, (ys.flatMap enc)[j]? = some u → w.cell? ⟨b, o + j, none⟩ = some u
  | [], _, _, j, u, hu => by simp at hu
  | y :: r, o, h, j, u, hu => by
    rw [List.flatMap_cons] at hu
    by_cases hj : j < k
    · rw [List.getElem?_append_left (by rw [hk]; exact hj)] at hu
      have := h 0 y rfl j u hu
      rw [Nat.zero_mul, Nat.add_zero] at this
      exact this
    · rw [List.getElem?_append_right (by rw [hk]; omega), hk] at hu
      have := flat_cells hk r (o + k) (fun i x hx j u hu => by
        have := h (i + 1) x (by simpa using hx) j u hu
        rw [Nat.add_mul, Nat.one_mul] at this
        rw [show o + k + i * k + j = o + (i * k + k) + j by omega]
        exact this) (j - k) u hu
      rw [show o + k + (j - k) = o + j by omega] at this
      exact this
theorem run_appN (et : ElemT t E k bytes) (hk : ∀ x, (enc x).length = k) (h1 : ∀ x, ∀ u ∈ enc x, u.oneCell' = true) (ty : TypeId) (hown : OK enc k E w base v xs) {B : Nat} (hr : RK enc k w B u ys) (hlen : xs.length + ys.length ≤ 10000000) (hbase : base ≤ w.heap.size) :
    ∃ v' w', (Builtin.append_ #[t, t] ty #[v, u]).run Try.prog w = .ok v' w' ∧ OK enc k E w' base v' (xs ++ ys) ∧ w.grownBy w' v.ownBlock ∧ (v'.ownBlock = v.ownBlock ∨ v'.ownBlock = some w.heap.size) := by
  obtain ⟨i, z, hi, hz0, hz1, hz2, hz3⟩ := et.info
  obtain ⟨o1, o2⟩ := hown
  obtain ⟨r1, A, c, rfl, r3, r4, r5⟩ := hr
  have hb : (xs.length + ys.length) * bytes ≤ 10000000 * 1000 := Nat.mul_le_mul hlen et.small
  have hkk : (xs.length + ys.length) * k ≤ 10000000 * 1000 := Nat.mul_le_mul hlen et.ksmall
  by_cases hnil : A = none ∧ ys = []
  · obtain ⟨rfl, rfl⟩ := hnil
    refine ⟨v, w, ?_, ⟨by simpa using o1, by simpa using o2⟩, World.grownBy.refl w _, .inl rfl⟩
    rcases o2.2 with ⟨rfl, hn⟩ | ⟨g, cap, cur, rfl, _, _, hnc, _⟩
    · simp [Builtin.append_, run_underlying et.under, sizeOf, typeInfo, hi, Builtin.lenOf, Builtin.firstCells]
    · simp [Builtin.append_, run_underlying et.under, sizeOf, typeInfo, hi, Builtin.lenOf, Builtin.firstCells, hnc, storeCells]
  · obtain ⟨ad, rfl, hca⟩ : ∃ ad, A = some ad ∧ ∀ j u, (ys.flatMap enc)[j]? = some u → w.cell? (ad.add j) = some u := by
      rcases r5 with rfl | ⟨b, off, rfl, hb, hc⟩
      · cases A with
        | none => exact (hnil ⟨rfl, rfl⟩).elim
        | some ad => exact ⟨ad, rfl, by simp⟩
      · refine ⟨_, rfl, fun j u hu => ?_⟩
        have : (⟨b, off, none⟩ : Addr).add j = ⟨b, off + j, none⟩ := by unfold Addr.add; split <;> simp_all
        rw [this]
        exact flat_cells hk ys off hc j u hu
    obtain ⟨v', w', hrun, h2, h3, _, h5⟩ := run_append_own_at (P := Try.prog) w base t ty E i z k bytes et.under hi hz0 hz1 hz2 hz3 et.kpos v _ _ o2 ad ys.length c (ys.flatMap enc) (flat_len hk ys) hca (flat_one h1 ys) (by simp only [maxLen]; omega) (by omega) hbase
    exact ⟨v', w', hrun, ⟨by rw [List.length_append]; omega, by rw [List.length_append, List.flatMap_append]; exact h2⟩, h3, h5⟩
/-- 'append(out, ys...)'. -/
theorem wpList_appN {ops : Array Oper} {rest : List Oper} {o : Oper} {a : Act} {Q : Exit → Act → World → Prop} (et : ElemT t E k bytes) (hk : ∀ x, (enc x).length = k) (h1 : ∀ x, ∀ u ∈ enc x, u.oneCell' = true) (hgd : o.guard = none) (s x : Operand)
    (ho : o.op = .call { callee := .builtin .append, args := #[s, x], argTypes := #[t, t] })
    (hs : a.eval s = v) (hown : OK enc k E w base v xs) {B : Nat} (hx : a.eval x = u) (hr : RK enc k w B u ys) (hlen : xs.length + ys.length ≤ 10000000) (hbase : base ≤ w.heap.size)
    (hK : ∀ v' w', OK enc k E w' base v' (xs ++ ys) → w.grownBy w' v.ownBlock → (v'.ownBlock = v.ownBlock ∨ v'.ownBlock = some w.heap.size) → wpList Try.prog ops Q rest (a.put o.dst v') w') : wpList Try.prog ops Q (o :: rest) a w := by
  obtain ⟨v', w', hrun, h2, h3, h4⟩ := run_appN et hk h1 o.type hown hr hlen hbase
  refine wpList_plain hgd fun _ hK' => ?_
  unfold Oper.wp execOp
  simp only [ho, resolve, invoke, builtin, Sem.run_bind, Sem.run_pure, Result.andThen_ok, List.map_toArray, List.map_cons, List.map_nil, hs, hx, hrun]
  exact hK' _ _ (hK v' w' h2 h3 h4)
end

/-- A row of records whose bodies can be read. -/
def RecRow (w : World) (v : Value) (xs : List RecV) : Prop := RK encRec 3 w w.heap.size v xs ∧ ∀ x ∈ xs, RB w w.heap.size x.v x.body
theorem RecRow.below {w w' : World} {v : Value} {xs : List RecV} (h : RecRow w v xs) (hb : Below w.heap.size w w') : RecRow w' v xs := ⟨(h.1.below hb).more hb.size, fun x hx => ((h.2 x hx).below hb).more hb.size⟩
theorem rec_cells {w : World} {b off i : Nat} {x : RecV} (h : ∀ (j : Nat) u, (encRec x)[j]? = some u → w.cell? ⟨b, off + i * 3 + j, none⟩ = some u) : w.cell? ⟨b, off + i * 3, none⟩ = some (.int .i64 (x.lsn : Int)) ∧ w.cell? ⟨b, off + i * 3 + 1, none⟩ = some (.int .i64 (x.kind : Int)) ∧ w.cell? ⟨b, off + i * 3 + 2, none⟩ = some (.slice x.A x.n x.c) :=
  ⟨h 0 _ rfl, h 1 _ rfl, h 2 _ rfl⟩
set_option maxRecDepth 100000 in
set_option maxHeartbeats 1000000 in
theorem alike_yes (w : World) (v u : Value) (xs ys : List RecV) (hv : RecRow w v xs) (hu : RecRow w u ys) (heq : xs.map RecV.told = ys.map RecV.told) :
    Calls Try.prog 30 #[v, u] w fun e w' => e = .returned (.bool true) ∧ Below w.heap.size w w' := by
  have hl : xs.length = ys.length := by have := congrArg List.length heq; simpa using this
  obtain ⟨A, c, rfl, hc1, hc2, hc3, HC⟩ := hv.1.open_
  obtain ⟨A', c', rfl, hd1, hd2, hd3, HD⟩ := hu.1.open_
  rw [← hl] at hd1 ⊢
  obtain ⟨n, hn⟩ : ∃ n, n = xs.length := ⟨_, rfl⟩
  rw [← hn] at hc1 hd1 ⊢
  have HV := Lib.hid hv
  have HU := Lib.hid hu
  have HN := Lib.hid hn
  have HL := Lib.hid hl
  have HEQ := Lib.hid heq
  have hnb : n ≤ 46912496118442 := by omega
  clear hv hu hn hl heq hc3 hd3
  go_enter Try.func30, Try.ntmps30
  go_wp2_with fail
  go_loopw [5] (fun i wr => ∃ k : Nat, i = .int .i64 k ∧ k ≤ n ∧ Hid (Below w.heap.size w wr)) (fun i wr => n - (intOf i).toNat)
  case atStart => exact ⟨0, rfl, Nat.zero_le _, Lib.hid (Below.refl _ _)⟩
  case round =>
    obtain ⟨k, rfl, hk, HB⟩ := hrel
    by_cases hlt : k < n
    · have hkx : k < xs.length := by rw [← HN.out]; exact hlt
      have hky : k < ys.length := by rw [← HL.out]; exact hkx
      obtain ⟨b, off, rfl, hb, hcx⟩ := HC.out k hkx
      obtain ⟨b', off', rfl, hb', hcy⟩ := HD.out k hky
      obtain ⟨x0, x1, x2⟩ := rec_cells hcx
      obtain ⟨y0, y1, y2⟩ := rec_cells hcy
      have hxy : xs[k].told = ys[k].told := by
        have h1 : (xs.map RecV.told)[k]? = (ys.map RecV.told)[k]? := by rw [HEQ.out]
        rw [List.getElem?_map, List.getElem?_map, List.getElem?_eq_getElem hkx, List.getElem?_eq_getElem hky] at h1
        injection h1
      have hbx := HV.out.2 _ (List.getElem_mem hkx)
      have hby := HU.out.2 _ (List.getElem_mem hky)
      obtain ⟨x, hx⟩ : ∃ x, x = xs[k] := ⟨_, rfl⟩
      obtain ⟨y, hy⟩ : ∃ y, y = ys[k] := ⟨_, rfl⟩
      rw [← hx] at x0 x1 x2 hxy hbx
      rw [← hy] at y0 y1 y2 hxy hby
      obtain ⟨xl, xk, xA, xn, xc, xb⟩ := x
      obtain ⟨yl, yk, yA, yn, yc, yb⟩ := y
      simp only [RecV.told, Prod.mk.injEq] at hxy
      obtain ⟨rfl, rfl, rfl⟩ := hxy
      have hw : Below wr.heap.size wr wr := Below.refl _ _
      have z0 : wr.cell? ⟨b, off + k * 3, none⟩ = some (.int .i64 (xl : Int)) := (HB.out.cell (p := ⟨b, off + k * 3, none⟩) hb).trans x0
      have z1 : wr.cell? ⟨b, off + k * 3 + 1, none⟩ = some (.int .i64 (xk : Int)) := (HB.out.cell (p := ⟨b, off + k * 3 + 1, none⟩) hb).trans x1
      have z2 : wr.cell? ⟨b, off + k * 3 + 2, none⟩ = some (.slice xA xn xc) := (HB.out.cell (p := ⟨b, off + k * 3 + 2, none⟩) hb).trans x2
      have v0 : wr.cell? ⟨b', off' + k * 3, none⟩ = some (.int .i64 (xl : Int)) := (HB.out.cell (p := ⟨b', off' + k * 3, none⟩) hb').trans y0
      have v1 : wr.cell? ⟨b', off' + k * 3 + 1, none⟩ = some (.int .i64 (xk : Int)) := (HB.out.cell (p := ⟨b', off' + k * 3 + 1, none⟩) hb').trans y1
      have v2 : wr.cell? ⟨b', off' + k * 3 + 2, none⟩ = some (.slice yA yn yc) := (HB.out.cell (p := ⟨b', off' + k * 3 + 2, none⟩) hb').trans y2
      have HRX : Hid (RB wr wr.heap.size (.slice xA xn xc) xb) := Lib.hid ((hbx.below HB.out).more HB.out.size)
      have HRY : Hid (RB wr wr.heap.size (.slice yA yn yc) xb) := Lib.hid ((hby.below HB.out).more HB.out.size)
      clear hcx hcy x0 x1 x2 y0 y1 y2 hbx hby hx hy hkx hky hw
      go_wp2_with fail
      go_quiet ((go_at_call 20; refine Calls.quiet_of (same_q HRX.out HRY.out)))
      go_wp2_with fail
      go_roundw
      case rel => exact ⟨k + 1, by go_num, by omega, Lib.hid (below_drewN HB.out _)⟩
      case measure => simp [intOf]; omega
    · go_wp2_with fail
      go_ret
      exact ⟨rfl, HB.out⟩
theorem RK.cutTo {α : Type} {enc : α → List Value} {k : Nat} {w : World} {B n c : Nat} {A : Option Addr} {xs : List α} (h : RK enc k w B (.slice A n c) xs) (m : Nat) (hm : m ≤ n) : RK enc k w B (.slice A m c) (xs.take m) := by
  obtain ⟨h1, A', c', e, h3, h4, h5⟩ := h
  injection e with e1 e2 e3
  subst e1 e2 e3
  have hl : (xs.take m).length = m := by rw [List.length_take]; omega
  refine ⟨?_, A, c, by rw [hl], by rw [hl]; omega, h4, ?_⟩
  · rw [hl]
    exact Nat.le_trans (Nat.mul_le_mul_right _ hm) h1
  · rcases h5 with h5 | ⟨b, off, e, hb, hc⟩
    · left; rw [h5]; simp
    · refine .inr ⟨b, off, e, hb, fun i x hx j u hu => hc i x ?_ j u hu⟩
      rw [List.getElem?_take] at hx
      split at hx
      · exact hx
      · cases hx
theorem OK.some_ {α : Type} {enc : α → List Value} {k E : Nat} {w : World} {B g : Nat} {v : Value} {xs : List α} (h : OK enc k E w B v xs) (hg : v.ownBlock = some g) : ∃ cap, v = .slice (some ⟨g, 0, none⟩) xs.length cap ∧ xs.length ≤ cap ∧ cap ≤ 9223372036854775807 := by
  rcases h.2.2 with ⟨e, _⟩ | ⟨g', cap, cur, e, _, _, hn, hc, _⟩
  · rw [e] at hg; cases hg
  · rw [e] at hg
    simp only [Value.ownBlock] at hg
    injection hg with hg
    subst hg
    exact ⟨cap, e, hn, by simpa [maxLen] using hc⟩
theorem take_told {xs ws ts : List RecV} (h : xs.map RecV.told = ((ws ++ ts).map RecV.told).take xs.length) : xs.map RecV.told = ((ws ++ ts).take xs.length).map RecV.told := by rw [h, List.map_take]
end Go.Proofs.Ytplkdcegfpiofaa

/-
  A log that may meet a crash, in plain words. No walk.
-/
namespace Go.Proofs.Ytplkdcegfpiofaa
open Go.RowKit Go.Maps
set_option linter.unusedVariables false

/-- What is on the disk of a log whose first K records are safe. -/
structure Crash (s : DS) (m : LG) (rs : List RecT) (K : Nat) (maybe : Bool) : Prop where
  ok : m.Ok
  fit : m.first + m.count ≤ s.safe.length
  run : 1 ≤ m.run
  most : m.most < 274877906944
  recs : Recs m rs
  k : K ≤ rs.length
  safe : (strm (rs.take K)).length ≤ m.safe
  sec : EachSec (fun i b => SecAt m m.st m.safe i b ∨ (maybe = true ∧ i = m.first ∧ b = sect (m.most + 1) [] 0)) s
theorem Good.crash {s : DS} {m : LG} {rs : List RecT} {K : Nat} (h : Good s m rs) (hm : m.most < 274877906944) (hK : K ≤ rs.length) (hs : (strm (rs.take K)).length ≤ m.safe) (maybe : Bool) : Crash s m rs K maybe :=
  ⟨h.ok, h.fit, h.run, hm, h.recs, hK, hs, h.later.mono fun i b _ hb => .inl hb⟩
theorem Crash.planned {s : DS} {m : LG} {rs : List RecT} {K : Nat} {maybe : Bool} (h : Crash s m rs K maybe) (fs : List (Int × Int)) : Crash (s.planned fs) m rs K maybe := ⟨h.ok, h.fit, h.run, h.most, h.recs, h.k, h.safe, h.sec⟩
theorem toldOf_run {m m' : LG} {rs : List RecT} (h : m'.run = m.run) : toldOf m' rs = toldOf m rs := by unfold toldOf LG.lsn; rw [h]
theorem toldOf_snoc (m : LG) (rs : List RecT) (r : RecT) : toldOf m (rs ++ [r]) = toldOf m rs ++ [(m.lsn (strm rs).length, r.1, r.2)] := by
  unfold toldOf
  rw [List.length_append, List.length_singleton, List.range_succ, List.map_append, List.map_singleton]
  congr 1
  · refine List.map_congr_left fun i hi => ?_
    have hi := List.mem_range.1 hi
    rw [List.take_append_of_le_length (by omega)]
    have e : (rs ++ [r]).getD i (0, []) = rs.getD i (0, []) := by simp [List.getD, List.getElem?_append_left hi]
    rw [e]
  · rw [List.take_left' rfl]
    simp [List.getD]
theorem toldOf_len (m : LG) (rs : List RecT) : (toldOf m rs).length = rs.length := by unfold toldOf; simp
theorem toldOf_take {m m' : LG} {rs : List RecT} (h : m'.run = m.run) {i : Nat} (hi : i ≤ rs.length) : toldOf m' (rs.take i) = (toldOf m rs).take i := by
  rw [toldOf_run h]
  apply List.ext_getElem?
  intro j
  unfold toldOf
  rw [List.getElem?_take, List.getElem?_map, List.getElem?_map]
  by_cases hj : j < i
  · rw [if_pos hj, List.getElem?_range (by rw [List.length_take]; omega), List.getElem?_range (by omega)]
    simp only [Option.map_some]
    rw [List.take_take, Nat.min_eq_left (by omega)]
    simp [List.getD, hj]
  · rw [if_neg hj, List.getElem?_eq_none (by simp; omega)]
    rfl
theorem planned_nil_clean (s : DS) (K : List Int) : Clean ((s.planned []).on K) := ⟨fun k => by
  show (if k ≤ (s.steps : Int) then 0 else firstFate [] k) = 0
  split <;> rfl, rfl⟩
theorem on_pend (s : DS) (K : List Int) : (s.on K).pend = fun _ => none := rfl
set_option maxRecDepth 100000 in
/-- What Open finds behind a crash. -/
theorem Crash.open_ {s : DS} {m : LG} {rs : List RecT} {K : Nat} {maybe : Bool} (h : Crash s m rs K maybe) (ks : List Int) :
    isLog (((s.planned []).on ks).has m.first) ∧ Fits ((s.planned []).on ks) (LG.opened ((s.planned []).on ks) m.first m.count) ∧ (LG.opened ((s.planned []).on ks) m.first m.count).most ≤ m.most + 1 ∧ m.run ≤ (LG.opened ((s.planned []).on ks) m.first m.count).most ∧
      ((∃ i, K ≤ i ∧ i ≤ rs.length ∧ Recs (LG.opened ((s.planned []).on ks) m.first m.count) (rs.take i) ∧ (LG.opened ((s.planned []).on ks) m.first m.count).run = m.run) ∨ (maybe = true ∧ Recs (LG.opened ((s.planned []).on ks) m.first m.count) [])) := by
  obtain ⟨s', hs'⟩ : ∃ s', s' = (s.planned []).on ks := ⟨_, rfl⟩
  have hlen : s'.safe.length = s.safe.length := by rw [hs', len_on]; rfl
  have hpend : s'.pend = fun _ => none := by rw [hs']; rfl
  have hoff : s'.off = false := by rw [hs']; rfl
  have hsec : EachSec (fun i b => SecAt m m.st m.safe i b ∨ (maybe = true ∧ i = m.first ∧ b = sect (m.most + 1) [] 0)) s' := by rw [hs']; exact (h.planned []).sec.on ks
  rw [← hs']
  clear hs'
  have hc := h.ok.count
  have hst := h.ok.st
  have hfit := h.fit
  have hrm := h.ok.run
  have key : ∀ k, k < m.count → (Sec3 m.st m.safe m.run (s'.has (m.first + k)) k ∧ secRun (s'.has (m.first + k)) ≤ m.most) ∨ (maybe = true ∧ k = 0 ∧ s'.has (m.first + k) = sect (m.most + 1) [] 0) := by
    intro k hk
    rcases (hsec (m.first + k) (by omega)).2 with h1 | ⟨h1, h2, h3⟩
    · have := h1 (by omega) (by omega)
      rw [Nat.add_sub_cancel_left] at this
      exact .inl this
    · exact .inr ⟨h1, by omega, h3⟩
  have hla := sect_a (st := []) (run := m.most + 1) (by omega) (by have := h.most; omega) 0
  have hmost : (LG.opened s' m.first m.count).most ≤ m.most + 1 := (upto_most s' m.first m.count).2 _ (fun k hk => by
    rcases key k hk with h1 | ⟨_, _, h1⟩
    · have := h1.2; omega
    · rw [h1, hla.1]; exact Nat.le_refl _)
  have h0 := key 0 (by omega)
  rw [Nat.add_zero] at h0
  rcases h0 with h0 | ⟨hm, _, h0⟩
  · have hall : ∀ k, k < m.count → Sec3 (strm rs) m.safe m.run (s'.has (m.first + k)) k := by
      intro k hk
      rw [← h.recs.st]
      rcases key k hk with h1 | ⟨_, hk0, h1⟩
      · exact h1.1
      · subst hk0
        rw [Nat.add_zero]; exact h0.1
    obtain ⟨i, i1, i2, i3, i4⟩ := opened_recs (s := s') (first := m.first) (count := m.count) (f := m.safe) (R := m.run) (rs := rs) h.recs.ok (by rw [← h.recs.st]; exact h.ok.safe) (by rw [← h.recs.st]; exact hst) hc.1 hall
    have hft := opened_fits (s := s') hoff hpend (by rw [hlen]; exact hfit) h.ok.first hc (by rw [i4]; exact h.run)
    exact ⟨h0.1.log h.run, hft, hmost, by have := hft.ok.run.1; rw [i4] at this; exact this, .inl ⟨i, i2 K h.k h.safe, i1, i3, i4⟩⟩
  · have hall : ∀ k, k < m.count → Sec3 (strm []) 0 (m.most + 1) (s'.has (m.first + k)) k := by
      intro k hk
      by_cases hk0 : k = 0
      · subst hk0
        show Sec3 (strm []) 0 (m.most + 1) (s'.has m.first) 0
        rw [h0]
        exact Sec3.first hla.1 (by rw [hla.2, piece_empty])
      · rcases key k hk with h1 | ⟨_, h1, _⟩
        · exact Sec3.other (by have := h1.2; omega) (by omega)
        · exact absurd h1 hk0
    obtain ⟨i, i1, i2, i3, i4⟩ := opened_recs (s := s') (first := m.first) (count := m.count) (f := 0) (R := m.most + 1) (rs := []) (by simp) (Nat.zero_le _) (by simp [strm]) hc.1 hall
    have i0 : i = 0 := by simpa using i1
    subst i0
    have hft := opened_fits (s := s') hoff hpend (by rw [hlen]; exact hfit) h.ok.first hc (by rw [i4]; omega)
    refine ⟨?_, hft, hmost, by have := hft.ok.run.1; rw [i4] at this; omega, .inr ⟨hm, i3⟩⟩
    have := hall 0 (by omega)
    rw [Nat.add_zero] at this
    exact this.log (by omega)
/-- What a save may answer. -/
theorem save_code {run : Nat} {st : List Nat} (first : Int) : ∀ (n k : Nat) (s : DS), (DS.save run first st n k s).2 ≠ 91
  | 0, _, _ => by simp [DS.save]
  | n + 1, k, s => by
    have hcode : ∀ s : DS, s.code ≠ 91 := by
      intro s
      unfold DS.code
      repeat' split
      all_goals omega
    simp only [DS.save]
    split
    · split
      · dsimp only
        unfold DS.syncE
        split
        · omega
        · exact hcode _
      · exact save_code first n (k + 1) _
    · dsimp only
      unfold DS.writeE
      repeat' split
      all_goals first | omega | exact hcode _
/-- Behind a Flush: the log goes on, all being safe; or it is dead. -/
theorem Good.flush_cases {s : DS} {m : LG} {rs : List RecT} {K : Nat} (h : Good s m rs) (hm : m.most < 274877906944) (hK : K ≤ rs.length) (hs : (strm (rs.take K)).length ≤ m.safe) (maybe : Bool) :
    ((m.flush s).2.2 = 0 ∧ Good (m.flush s).1 (m.flush s).2.1 rs ∧ (m.flush s).2.1 = { m with safe := m.st.length }) ∨
    ((m.flush s).2.2 ≠ 0 ∧ (m.flush s).2.1 = { m with dead := true } ∧ Crash (m.flush s).1 { m with dead := true } rs K maybe) := by
  by_cases he : (m.flush s).2.2 = 0
  · obtain ⟨h1, h2, _⟩ := h.flush_ok he
    exact .inl ⟨he, h1, h2⟩
  · obtain ⟨h1, h2, h3⟩ := h.flush_any
    refine .inr ⟨he, ?_, ⟨⟨h.ok.first, h.ok.count, h.ok.run, h.ok.st, h.ok.safe, h.ok.begs⟩, by rw [h2]; exact h.fit, h.run, hm, ⟨h.recs.st, h.recs.begs, h.recs.ok⟩, hK, hs, h1.mono fun i b _ hb => .inl hb⟩⟩
    have hd : ¬ m.dead = true := by rw [h.dead]; simp
    unfold LG.flush at he ⊢
    rw [if_neg hd] at he ⊢
    split at he
    · exact absurd rfl he
    · rename_i h4
      rw [if_neg h4]
      split at he
      · exact absurd rfl he
      · rename_i h5
        rw [if_neg h5]
/-- Behind a Reset: a new run, or the log is dead. -/
theorem Good.reset_cases {s : DS} {m : LG} {rs : List RecT} {K : Nat} (h : Good s m rs) (hm : m.most < 274877906944) (hK : K ≤ rs.length) (hs : (strm (rs.take K)).length ≤ m.safe) :
    ((m.reset s).2.2 = 0 ∧ Good (m.reset s).1 m.anew [] ∧ (m.reset s).2.1 = m.anew) ∨
    ((m.reset s).2.2 ≠ 0 ∧ (m.reset s).2.2 ≠ 91 ∧ (m.reset s).2.1 = { m with dead := true } ∧ Crash (m.reset s).1 { m with dead := true } rs K true) := by
  by_cases he : (m.reset s).2.2 = 0
  · obtain ⟨h1, h2, _⟩ := h.fits_.reset_ok he
    exact .inl ⟨he, h1, h2⟩
  · obtain ⟨h1, h2, h3⟩ := h.fits_.reset_any h.later
    have hd : ¬ m.dead = true := by rw [h.dead]; simp
    have e : m.reset s = ((DS.save (m.most + 1) m.first [] 1 0 s).1, { m with dead := true }, (DS.save (m.most + 1) m.first [] 1 0 s).2) := by
      unfold LG.reset at he ⊢
      rw [if_neg hd] at he ⊢
      rw [if_neg (by omega)] at he ⊢
      split at he
      · exact absurd rfl he
      · rename_i h5
        rw [if_neg h5]
    refine .inr ⟨he, by rw [e]; exact save_code _ _ _ _, by rw [e], ⟨⟨h.ok.first, h.ok.count, h.ok.run, h.ok.st, h.ok.safe, h.ok.begs⟩, by rw [h2]; exact h.fit, h.run, hm, ⟨h.recs.st, h.recs.begs, h.recs.ok⟩, hK, hs, h1.mono fun i b _ hb => ?_⟩⟩
    rcases hb with hb | ⟨h4, h5, _⟩
    · exact .inl hb
    · exact .inr ⟨rfl, h4, h5⟩
end Go.Proofs.Ytplkdcegfpiofaa
