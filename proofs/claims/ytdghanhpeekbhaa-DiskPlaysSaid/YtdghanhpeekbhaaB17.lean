/-
  Rows of many cells appended, of any length; the walk of skeinlaw07's asks: Plan.
-/
import Derived.Test.YtdghanhpeekbhaaB13
namespace Go.Proofs.Ytdghanhpeekbhaa
open Go.RowKit Go.Maps
set_option linter.unusedVariables false

section
variable {α : Type} {enc : α → List Value} {k bytes t E : Nat} {w : World} {base : Nat} {v u : Value} {xs ys : List α}
theorem flat_oneW (h1 : ∀ x, ∀ u ∈ enc x, u.oneCell' = true) : ∀ ys : List α, ∀ u ∈ ys.flatMap enc, u.oneCell' = true := by
  intro ys u hu
  obtain ⟨y, _, hu⟩ := List.mem_flatMap.1 hu
  exact h1 y u hu
theorem flat_cellsW (hk : ∀ x, (enc x).length = k) {b : Nat} : ∀ (ys : List α) (o : Nat), (∀ i x, ys[i]? = some x → ∀ (j : Nat) u, (enc x)[j]? = some u → w.cell? ⟨b, o + i * k + j, none⟩ = some u) → ∀ (j : Nat) u, (ys.flatMap enc)[j]? = some u → w.cell? ⟨b, o + j, none⟩ = some u
  | [], _, _, j, u, hu => by simp at hu
  | y :: r, o, h, j, u, hu => by
    rw [List.flatMap_cons] at hu
    by_cases hj : j < k
    · rw [List.getElem?_append_left (by rw [hk]; exact hj)] at hu
      have := h 0 y rfl j u hu
      rw [Nat.zero_mul, Nat.add_zero] at this
      exact this
    · rw [List.getElem?_append_right (by rw [hk]; omega), hk] at hu
      have := flat_cellsW hk r (o + k) (fun i x hx j u hu => by
        have := h (i + 1) x (by simpa using hx) j u hu
        rw [Nat.add_mul, Nat.one_mul] at this
        rw [show o + k + i * k + j = o + (i * k + k) + j by omega]
        exact this) (j - k) u hu
      rw [show o + k + (j - k) = o + j by omega] at this
      exact this
theorem run_appW (et : ElemT t E k bytes) (hk : ∀ x, (enc x).length = k) (h1 : ∀ x, ∀ u ∈ enc x, u.oneCell' = true) (ty : TypeId) (hown : OK enc k E w base v xs) {B : Nat} (hr : RK enc k w B u ys) (hb : (xs.length + ys.length) * bytes ≤ 140737488355328) (hkk : (xs.length + ys.length) * k ≤ 140737488355328) (hlen : xs.length + ys.length ≤ 140737488355328) (hbase : base ≤ w.heap.size) :
    ∃ v' w', (Builtin.append_ #[t, t] ty #[v, u]).run Try.prog w = .ok v' w' ∧ OK enc k E w' base v' (xs ++ ys) ∧ w.grownBy w' v.ownBlock ∧ (v'.ownBlock = v.ownBlock ∨ v'.ownBlock = some w.heap.size) := by
  obtain ⟨i, z, hi, hz0, hz1, hz2, hz3⟩ := et.info
  obtain ⟨o1, o2⟩ := hown
  obtain ⟨r1, A, c, rfl, r3, r4, r5⟩ := hr
  by_cases hnil : A = none ∧ ys = []
  · obtain ⟨rfl, rfl⟩ := hnil
    refine ⟨v, w, ?_, ⟨by simpa using o1, by simpa using o2⟩, World.grownBy.refl w _, .inl rfl⟩
    rcases o2.2 with ⟨rfl, hn⟩ | ⟨g, cap, cur, rfl, _, _, hnc, _⟩
    · simp [Builtin.append_, run_underlying et.under, sizeOf, typeInfo, hi, Builtin.lenOf, Builtin.firstCells]
    · simp [Builtin.append_, run_underlying et.under, sizeOf, typeInfo, hi, Builtin.lenOf, Builtin.firstCells, hnc, storeCells]
  · obtain ⟨ad, rfl, hca⟩ : ∃ ad, A = some ad ∧ ∀ j u, (ys.flatMap enc)[j]? = some u → w.cell? (ad.add j) = some u := by
      rcases r5 with rfl | ⟨b, off, rfl, hb, hc⟩
      · cases A with
        | none => exact (hnil ⟨rfl, rfl⟩).elim
        | some ad => exact ⟨ad, rfl, by simp⟩
      · refine ⟨_, rfl, fun j u hu => ?_⟩
        have : (⟨b, off, none⟩ : Addr).add j = ⟨b, off + j, none⟩ := by unfold Addr.add; split <;> simp_all
        rw [this]
        exact flat_cellsW hk ys off hc j u hu
    obtain ⟨v', w', hrun, h2, h3, _, h5⟩ := run_append_own_at (P := Try.prog) w base t ty E i z k bytes et.under hi hz0 hz1 hz2 hz3 et.kpos v _ _ o2 ad ys.length c (ys.flatMap enc) (flat_len hk ys) hca (flat_oneW h1 ys) (by simp only [maxLen]; omega) (by omega) hbase
    exact ⟨v', w', hrun, ⟨by rw [List.length_append]; omega, by rw [List.length_append, List.flatMap_append]; exact h2⟩, h3, h5⟩
theorem wpList_appW {ops : Array Oper} {rest : List Oper} {o : Oper} {a : Act} {Q : Exit → Act → World → Prop} (et : ElemT t E k bytes) (hk : ∀ x, (enc x).length = k) (h1 : ∀ x, ∀ u ∈ enc x, u.oneCell' = true) (hgd : o.guard = none) (s x : Operand)
    (ho : o.op = .call { callee := .builtin .append, args := #[s, x], argTypes := #[t, t] })
    (hs : a.eval s = v) (hown : OK enc k E w base v xs) {B : Nat} (hx : a.eval x = u) (hr : RK enc k w B u ys) (hb : (xs.length + ys.length) * bytes ≤ 140737488355328) (hkk : (xs.length + ys.length) * k ≤ 140737488355328) (hlen : xs.length + ys.length ≤ 140737488355328) (hbase : base ≤ w.heap.size)
    (hK : ∀ v' w', OK enc k E w' base v' (xs ++ ys) → w.grownBy w' v.ownBlock → (v'.ownBlock = v.ownBlock ∨ v'.ownBlock = some w.heap.size) → wpList Try.prog ops Q rest (a.put o.dst v') w') : wpList Try.prog ops Q (o :: rest) a w := by
  obtain ⟨v', w', hrun, h2, h3, h4⟩ := run_appW et hk h1 o.type hown hr hb hkk hlen hbase
  refine wpList_plain hgd fun _ hK' => ?_
  unfold Oper.wp execOp
  simp only [ho, resolve, invoke, builtin, Sem.run_bind, Sem.run_pure, Result.andThen_ok, List.map_toArray, List.map_cons, List.map_nil, hs, hx, hrun]
  exact hK' _ _ (hK v' w' h2 h3 h4)
end
theorem etFates : ElemT 44 97 2 16 := elemT_of (z := .agg #[.int .i64 0, .int .i64 0]) Try.underlying44 (by kernel_rfl) (by kernel_rfl) (by decide) (by decide) (by decide)
theorem encF_one (f : Int × Int) : ∀ u ∈ encF f, u.oneCell' = true := by intro u hu; simp [encF] at hu; rcases hu with rfl | rfl <;> rfl
/-- The block of fates, whatever is written over them. -/
theorem fates_blk {w : World} {B : Nat} {v : Value} {fs : List (Int × Int)} (h : OK encF 2 97 w B v fs) : ∀ g, v.ownBlock = some g → ∃ cur, Blk w g 97 cur ∧ fs.length * 2 ≤ cur.size := by
  intro g hg
  rcases h.2.2 with ⟨rfl, _⟩ | ⟨g', cap, cur, rfl, hb, hh, hn, hc, hs, ht⟩
  · cases hg
  · have e : g' = g := by injection hg
    subst e
    exact ⟨cur, hh, by rw [hs]; exact Nat.mul_le_mul_right 2 hn⟩
theorem fates_own {w : World} {B : Nat} {A : Option Addr} {n c : Nat} {fs : List (Int × Int)} (h : OK encF 2 97 w B (.slice A n c) fs) (hn : n = fs.length) (h0 : 0 < n) : ∃ g, A = some ⟨g, 0, none⟩ := by
  rcases h.2.2 with ⟨e, h1⟩ | ⟨g', cap, cur, e, _⟩
  · omega
  · injection e with e
    exact ⟨g', e⟩

set_option maxRecDepth 100000 in
set_option maxHeartbeats 4000000 in
theorem asks_plan (w : World) (p sb mb : Nat) (pl : Option Nat) (s : DS) (B Bf : Nat) (A : Option Addr) (c : Nat) (P : Option Addr) (pn pc : Nat) (xs : List Spt) (fs : List (Int × Int)) (o : OpD) (dv kv fv : Value) (h : AskIn w p sb mb pl s B Bf A c P pn pc xs fs o dv kv fv) (hk : o.kind = 5) :
    Calls Try.prog 17 #[.pointer (some ⟨p, 0, none⟩), refV A c P pn pc s, .agg (opC o dv kv fv)] w (AskOut7 w p sb mb B Bf (s.run o)) := by
  obtain ⟨dA, dc, rfl, -, -, -, -⟩ := h.data.open_
  obtain ⟨kA, kc, rfl, -, -, -, -⟩ := h.keeps.open_
  obtain ⟨fA, fc, rfl, -, -, -, -⟩ := h.fates.open_
  obtain ⟨kind, oi, data, keeps, fates⟩ := o
  obtain ⟨n, hn⟩ : ∃ n, n = s.safe.length := ⟨_, rfl⟩
  obtain ⟨st, hs0⟩ : ∃ st, st = s.steps := ⟨_, rfl⟩
  obtain ⟨off, hoff⟩ : ∃ off, off = s.off := ⟨_, rfl⟩
  dsimp only at h hk ⊢
  obtain ⟨dn, hdn⟩ : ∃ dn, dn = data.length := ⟨_, rfl⟩
  obtain ⟨kn, hkn⟩ : ∃ kn, kn = keeps.length := ⟨_, rfl⟩
  obtain ⟨fn, hfn⟩ : ∃ fn, fn = fates.length := ⟨_, rfl⟩
  rw [← hdn, ← hkn, ← hfn] at h ⊢
  subst hk
  have HIN := Lib.hid h
  have hsp := h.sep
  have hpr : DiskAt w p sb mb pl s := h.disk
  obtain ⟨W0, hW0, hb1, hb2, hb3, hw0, hz0⟩ := boxes3s w #[.slice A n c, .slice P pn pc, .int .i64 (st : Int), .bool off] #[.int .i64 5, .int .i64 oi, .slice dA dn dc, .slice kA kn kc, .slice fA fn fc] #[.slice none 0 0, .slice none 0 0, .int .i64 0, .bool false] 46 50 46
  have HW0 := Lib.hid hW0
  have HBD := Lib.hid hb1
  have HBO := Lib.hid hb2
  have HBR := Lib.hid hb3
  have HB0 := Lib.hid hw0
  have HZ0 := Lib.hid hz0
  have HD := Lib.hid (h.disk.below hw0)
  have HREF := Lib.hid (h.ref.below hw0)
  have HN := Lib.hid hn
  have HS0 := Lib.hid hs0
  have HOFF := Lib.hid hoff
  have HDN := Lib.hid hdn
  have HKN := Lib.hid hkn
  have HFN := Lib.hid hfn
  have HRUN : Hid (AskOut7 w p sb mb B Bf (s.run ⟨5, oi, data, keeps, fates⟩) = AskOut7 w p sb mb B Bf (s.planned fates)) := Lib.hid (by unfold DS.run; rfl)
  rw [HRUN.out]
  have D0 : W0.cell? ⟨w.heap.size, 0, none⟩ = some (.slice A n c) := (HBD.out).cell 0
  have D1 : W0.cell? ⟨w.heap.size, 1, none⟩ = some (.slice P pn pc) := (HBD.out).cell 1
  have D2 : W0.cell? ⟨w.heap.size, 2, none⟩ = some (.int .i64 (st : Int)) := (HBD.out).cell 2
  have D3 : W0.cell? ⟨w.heap.size, 3, none⟩ = some (.bool off) := (HBD.out).cell 3
  have F1 : ∀ j, W0.frozen? ⟨w.heap.size, j, none⟩ = false := (HBD.out).frozen
  have O0 : W0.cell? ⟨w.heap.size + 1, 0, none⟩ = some (.int .i64 5) := (HBO.out).cell 0
  have O1 : W0.cell? ⟨w.heap.size + 1, 1, none⟩ = some (.int .i64 oi) := (HBO.out).cell 1
  have O2 : W0.cell? ⟨w.heap.size + 1, 2, none⟩ = some (.slice dA dn dc) := (HBO.out).cell 2
  have O3 : W0.cell? ⟨w.heap.size + 1, 3, none⟩ = some (.slice kA kn kc) := (HBO.out).cell 3
  have O4 : W0.cell? ⟨w.heap.size + 1, 4, none⟩ = some (.slice fA fn fc) := (HBO.out).cell 4
  have R0 : W0.cell? ⟨w.heap.size + 2, 0, none⟩ = some (.slice none 0 0) := (HBR.out).cell 0
  have R1 : W0.cell? ⟨w.heap.size + 2, 1, none⟩ = some (.slice none 0 0) := (HBR.out).cell 1
  have R2 : W0.cell? ⟨w.heap.size + 2, 2, none⟩ = some (.int .i64 0) := (HBR.out).cell 2
  have R3 : W0.cell? ⟨w.heap.size + 2, 3, none⟩ = some (.bool false) := (HBR.out).cell 3
  have F2 : ∀ j, W0.frozen? ⟨w.heap.size + 2, j, none⟩ = false := (HBR.out).frozen
  unfold refV dkV opC
  rw [← hn, ← hs0, ← hoff]
  clear h hn hs0 hoff hdn hkn hfn hW0 hb1 hb2 hb3 hw0 hz0 hpr HRUN
  have hbf : Bf ≤ w.heap.size := by omega
  have hzW : W0.heap.size = w.heap.size + 3 := HZ0.out
  have HFV0 : Hid (RF W0 W0.heap.size (.slice fA fn fc) fates) := Lib.hid ((HIN.out.fates.below (HB0.out.mono hbf)).more (by omega))
  have HFLEN := HIN.out.flen
  have HF64 : Hid (∀ f ∈ fates, I64 f.1) := Lib.hid HIN.out.f64
  dsimp only at HFLEN
  obtain ⟨W1, hW1⟩ : ∃ W1, W1 = W0.alloc (.cells #[] 97) := ⟨_, rfl⟩
  have hb1 : Below W0.heap.size W0 W1 := by rw [hW1]; exact (Below.refl _ _).alloc (Nat.le_refl _) _
  have HE1 : Hid (OK encF 2 97 W1 W0.heap.size (.slice (some ⟨W0.heap.size, 0, none⟩) 0 0) []) := Lib.hid (by rw [hW1]; exact OK.empty (Nat.le_refl _))
  have HBx1 := Lib.hid hb1
  have HFV1 : Hid (RF W1 W0.heap.size (.slice fA fn fc) fates) := Lib.hid (HFV0.out.below hb1)
  have HL1 : Hid (([] : List (Int × Int)).length + fates.length ≤ 140737488355328 ∧ (([] : List (Int × Int)).length + fates.length) * 2 ≤ 140737488355328 ∧ (([] : List (Int × Int)).length + fates.length) * 16 ≤ 140737488355328) := Lib.hid (by simp; omega)
  have HBD1 := Lib.hid (HBD.out.below hb1 HBD.out.lt)
  have HBO1 := Lib.hid (HBO.out.below hb1 HBO.out.lt)
  have HBR1 := Lib.hid (HBR.out.below hb1 HBR.out.lt)
  have HW1 := Lib.hid hW1
  have HSZ1 : Hid (W0.heap.size ≤ W1.heap.size) := Lib.hid hb1.size
  have HST := HIN.out.steps
  have HZW := Lib.hid hzW
  clear hb1 hW1 hzW
  go_enter Try.func17, Try.ntmps17
  go_upto_region 1 with fail
  rw [← HW0.out]
  go_upto_region 23 with fail
  rw [← HW1.out]
  clear D0 D1 D2 D3 F1 O0 O1 O2 O3 O4 R0 R1 R2 R3 F2
  have D0 : W1.cell? ⟨w.heap.size, 0, none⟩ = some (.slice A n c) := (HBD1.out).cell 0
  have D1 : W1.cell? ⟨w.heap.size, 1, none⟩ = some (.slice P pn pc) := (HBD1.out).cell 1
  have D2 : W1.cell? ⟨w.heap.size, 2, none⟩ = some (.int .i64 (st : Int)) := (HBD1.out).cell 2
  have D3 : W1.cell? ⟨w.heap.size, 3, none⟩ = some (.bool off) := (HBD1.out).cell 3
  have F1 : ∀ j, W1.frozen? ⟨w.heap.size, j, none⟩ = false := (HBD1.out).frozen
  have O0 : W1.cell? ⟨w.heap.size + 1, 0, none⟩ = some (.int .i64 5) := (HBO1.out).cell 0
  have O1 : W1.cell? ⟨w.heap.size + 1, 1, none⟩ = some (.int .i64 oi) := (HBO1.out).cell 1
  have O2 : W1.cell? ⟨w.heap.size + 1, 2, none⟩ = some (.slice dA dn dc) := (HBO1.out).cell 2
  have O3 : W1.cell? ⟨w.heap.size + 1, 3, none⟩ = some (.slice kA kn kc) := (HBO1.out).cell 3
  have O4 : W1.cell? ⟨w.heap.size + 1, 4, none⟩ = some (.slice fA fn fc) := (HBO1.out).cell 4
  have R0 : W1.cell? ⟨w.heap.size + 2, 0, none⟩ = some (.slice none 0 0) := (HBR1.out).cell 0
  have R1 : W1.cell? ⟨w.heap.size + 2, 1, none⟩ = some (.slice none 0 0) := (HBR1.out).cell 1
  have R2 : W1.cell? ⟨w.heap.size + 2, 2, none⟩ = some (.int .i64 0) := (HBR1.out).cell 2
  have R3 : W1.cell? ⟨w.heap.size + 2, 3, none⟩ = some (.bool false) := (HBR1.out).cell 3
  have F2 : ∀ j, W1.frozen? ⟨w.heap.size + 2, j, none⟩ = false := (HBR1.out).frozen
  go_wp2_with (at_builtin; go_must (refine wpList_appW etFates encF_len encF_one rfl (.tmp 121) (.tmp 123) rfl rfl HE1.out rfl HFV1.out HL1.out.2.2 HL1.out.2.1 HL1.out.1 HSZ1.out ?_); intro v2 w2 q1 q2 q3; rw [List.nil_append] at q1; obtain ⟨A2, c2, e2, -, -, -, -⟩ := (q1.rk encF_len (Nat.le_refl _)).open_; rw [← HFN.out] at e2; subst e2; have Q1 := Lib.hid q1; have Q2 : Hid (Mod (fun q => q = W0.heap.size) W1 w2) := Lib.hid ((Mod.of_grown q2).mono (fun q _ e => by injection e)); clear q1 q2 q3)
  have hlt := HD.out.lt
  have hzW := HZW.out
  have hz1 := HSZ1.out
  have hz2 := Q2.out.size
  have hm02 : Mod (fun q => W0.heap.size ≤ q) W0 w2 := (Mod.of_below HBx1.out _).trans Q2.out (fun q _ e => by omega)
  have HB02 : Hid (Below W0.heap.size W0 w2) := Lib.hid (hm02.below (Nat.le_refl _) (fun _ h => h))
  have HD2 := Lib.hid (HD.out.below HB02.out)
  have HRF2 : Hid (RF w2 w2.heap.size (.slice A2 fn c2) fates) := Lib.hid (Q1.out.rk encF_len (Nat.le_refl _))
  have HRO2 : Hid (Off (fun k => k = p) (.slice A2 fn c2) fates) := Lib.hid (.inr fun b hb e => by have := (Q1.out.lt b hb).1; omega)
  have HGE : Hid (∀ q, (Value.slice A2 fn c2).ownBlock = some q → W0.heap.size ≤ q ∧ q < w2.heap.size) := Lib.hid Q1.out.lt
  have HBLK2 := Lib.hid (fates_blk Q1.out)
  have HG0 : Hid (0 < fn → ∃ g, A2 = some ⟨g, 0, none⟩) := Lib.hid (fun h => fates_own Q1.out HFN.out h)
  have HBD2 := Lib.hid (HBD.out.below HB02.out HBD.out.lt)
  have HBO2 := Lib.hid (HBO.out.below HB02.out HBO.out.lt)
  have HBR2 := Lib.hid (HBR.out.below HB02.out HBR.out.lt)
  have hmul : fates.length * 2 = fn * 2 := by rw [HFN.out]
  have HMUL := Lib.hid hmul
  clear D0 D1 D2 D3 F1 O0 O1 O2 O3 O4 R0 R1 R2 R3 F2 hm02 hmul Q1 Q2
  have D0 : w2.cell? ⟨w.heap.size, 0, none⟩ = some (.slice A n c) := (HBD2.out).cell 0
  have D1 : w2.cell? ⟨w.heap.size, 1, none⟩ = some (.slice P pn pc) := (HBD2.out).cell 1
  have D2 : w2.cell? ⟨w.heap.size, 2, none⟩ = some (.int .i64 (st : Int)) := (HBD2.out).cell 2
  have D3 : w2.cell? ⟨w.heap.size, 3, none⟩ = some (.bool off) := (HBD2.out).cell 3
  have F1 : ∀ j, w2.frozen? ⟨w.heap.size, j, none⟩ = false := (HBD2.out).frozen
  have O0 : w2.cell? ⟨w.heap.size + 1, 0, none⟩ = some (.int .i64 5) := (HBO2.out).cell 0
  have O1 : w2.cell? ⟨w.heap.size + 1, 1, none⟩ = some (.int .i64 oi) := (HBO2.out).cell 1
  have O2 : w2.cell? ⟨w.heap.size + 1, 2, none⟩ = some (.slice dA dn dc) := (HBO2.out).cell 2
  have O3 : w2.cell? ⟨w.heap.size + 1, 3, none⟩ = some (.slice kA kn kc) := (HBO2.out).cell 3
  have O4 : w2.cell? ⟨w.heap.size + 1, 4, none⟩ = some (.slice fA fn fc) := (HBO2.out).cell 4
  have R0 : w2.cell? ⟨w.heap.size + 2, 0, none⟩ = some (.slice none 0 0) := (HBR2.out).cell 0
  have R1 : w2.cell? ⟨w.heap.size + 2, 1, none⟩ = some (.slice none 0 0) := (HBR2.out).cell 1
  have R2 : w2.cell? ⟨w.heap.size + 2, 2, none⟩ = some (.int .i64 0) := (HBR2.out).cell 2
  have R3 : w2.cell? ⟨w.heap.size + 2, 3, none⟩ = some (.bool false) := (HBR2.out).cell 3
  have F2 : ∀ j, w2.frozen? ⟨w.heap.size + 2, j, none⟩ = false := (HBR2.out).frozen
  go_wp2_with fail
  refine (Plan_any w2 p sb mb pl s _ fates HD2.out HRF2.out HF64.out HRO2.out HST).mono ?_
  rintro e w3 ⟨rfl, hd3, hm3⟩
  have hz3 := hm3.size
  have HD3 := Lib.hid hd3
  have HM3 := Lib.hid hm3
  have hwz : w.heap.size ≤ W0.heap.size := by omega
  have HBD3 := Lib.hid (HBD2.out.mod hm3 (fun e => by omega))
  have HBO3 := Lib.hid (HBO2.out.mod hm3 (fun e => by omega))
  have HBR3 := Lib.hid (HBR2.out.mod hm3 (fun e => by omega))
  have HBLK3 : Hid (∀ g, (Value.slice A2 fn c2).ownBlock = some g → ∃ cur, Blk w3 g 97 cur ∧ fn * 2 ≤ cur.size) := Lib.hid (fun g hg => by
    obtain ⟨cur, h1, h2⟩ := HBLK2.out g hg
    have h3 := (HGE.out g hg).1
    exact ⟨cur, h1.mod hm3 (fun e => by omega), by rw [← HMUL.out]; exact h2⟩)
  have hfn47 : fn ≤ 140737488355328 := by have := HFN.out; omega
  clear D0 D1 D2 D3 F1 O0 O1 O2 O3 O4 R0 R1 R2 R3 F2 hd3 hm3
  have D0 : w3.cell? ⟨w.heap.size, 0, none⟩ = some (.slice A n c) := (HBD3.out).cell 0
  have D1 : w3.cell? ⟨w.heap.size, 1, none⟩ = some (.slice P pn pc) := (HBD3.out).cell 1
  have D2 : w3.cell? ⟨w.heap.size, 2, none⟩ = some (.int .i64 (st : Int)) := (HBD3.out).cell 2
  have D3 : w3.cell? ⟨w.heap.size, 3, none⟩ = some (.bool off) := (HBD3.out).cell 3
  have F1 : ∀ j, w3.frozen? ⟨w.heap.size, j, none⟩ = false := (HBD3.out).frozen
  have O0 : w3.cell? ⟨w.heap.size + 1, 0, none⟩ = some (.int .i64 5) := (HBO3.out).cell 0
  have O1 : w3.cell? ⟨w.heap.size + 1, 1, none⟩ = some (.int .i64 oi) := (HBO3.out).cell 1
  have O2 : w3.cell? ⟨w.heap.size + 1, 2, none⟩ = some (.slice dA dn dc) := (HBO3.out).cell 2
  have O3 : w3.cell? ⟨w.heap.size + 1, 3, none⟩ = some (.slice kA kn kc) := (HBO3.out).cell 3
  have O4 : w3.cell? ⟨w.heap.size + 1, 4, none⟩ = some (.slice fA fn fc) := (HBO3.out).cell 4
  have R0 : w3.cell? ⟨w.heap.size + 2, 0, none⟩ = some (.slice none 0 0) := (HBR3.out).cell 0
  have R1 : w3.cell? ⟨w.heap.size + 2, 1, none⟩ = some (.slice none 0 0) := (HBR3.out).cell 1
  have R2 : w3.cell? ⟨w.heap.size + 2, 2, none⟩ = some (.int .i64 0) := (HBR3.out).cell 2
  have R3 : w3.cell? ⟨w.heap.size + 2, 3, none⟩ = some (.bool false) := (HBR3.out).cell 3
  have F2 : ∀ j, w3.frozen? ⟨w.heap.size + 2, j, none⟩ = false := (HBR3.out).frozen
  go_wp2_with fail
  go_loopw [130] (fun i wr => ∃ k : Nat, k ≤ fn ∧ i = .int .i64 (k : Int) ∧ Hid (∀ g, (Value.slice A2 fn c2).ownBlock = some g → ∃ cur, Blk wr g 97 cur ∧ fn * 2 ≤ cur.size) ∧ Hid (Mod (fun q => (Value.slice A2 fn c2).ownBlock = some q) w3 wr)) (fun i wr => fn - (intOf i).toNat)
  case atStart => exact ⟨0, Nat.zero_le _, rfl, HBLK3, Lib.hid (Mod.refl _ _)⟩
  case round =>
    obtain ⟨k, hk, rfl, HBL, HM⟩ := hrel
    by_cases hlt2 : k < fn
    · obtain ⟨g, hA⟩ := HG0.out (by omega)
      subst hA
      obtain ⟨cur, hc1, hc2⟩ := HBL.out g rfl
      obtain ⟨x, hx⟩ : ∃ x, wr.cell? ⟨g, k * 2 + 1, none⟩ = some x := ⟨_, by rw [hc1.cell]; exact Array.getElem?_eq_getElem (by omega)⟩
      have hf := hc1.frozen (k * 2 + 1)
      have HBL2 : Hid (∀ g', (Value.slice (some ⟨g, 0, none⟩) fn c2).ownBlock = some g' → ∃ cur, Blk (wr.setCell ⟨g, k * 2 + 1, none⟩ (.int .i64 9)) g' 97 cur ∧ fn * 2 ≤ cur.size) := Lib.hid (fun g' hg' => by
        have e : g = g' := by injection hg'
        subst e
        exact ⟨_, hc1.set_ (k * 2 + 1) (.int .i64 9), by simpa using hc2⟩)
      have HM2 : Hid (Mod (fun q => (Value.slice (some ⟨g, 0, none⟩) fn c2).ownBlock = some q) w3 (wr.setCell ⟨g, k * 2 + 1, none⟩ (.int .i64 9))) := Lib.hid (HM.out.setCell (p := ⟨g, k * 2 + 1, none⟩) (fun _ => rfl) _)
      clear hc1 hc2
      go_wp2_with fail
      go_roundw
      case rel => exact ⟨k + 1, by omega, by go_num, HBL2, HM2⟩
      case measure => simp [intOf]; omega
    · obtain rfl : k = fn := by omega
      have hz4 := HM.out.size
      have hno : ∀ q, q < W0.heap.size → ¬ (Value.slice A2 k c2).ownBlock = some q := fun q hq e => by have := (HGE.out q e).1; omega
      have hbd := HBD3.out.mod HM.out (hno _ (by omega))
      have hbo := HBO3.out.mod HM.out (hno _ (by omega))
      have hbr := HBR3.out.mod HM.out (hno _ (by omega))
      have hd4 : DiskAt wr p sb mb (some w2.heap.size) (s.planned fates) := HD3.out.mod HM.out (hno _ (by omega)) (hno _ (by omega)) (hno _ (by omega)) (fun b hb e => by injection hb with hb; have := (HGE.out b e).2; omega)
      have hm04 : Mod (fun q => q = p ∨ W0.heap.size ≤ q) W0 wr := ((Mod.of_below HB02.out (fun q => q = p ∨ W0.heap.size ≤ q)).trans HM3.out (fun q _ e => .inl e)).trans HM.out (fun q _ e => .inr (HGE.out q e).1)
      have hr4 := HREF.out.mod hm04 (fun q h1 h2 e => by rcases e with e | e <;> omega) (fun q e => by rcases e with e | e <;> omega)
      have hb4 : Below Bf w wr := ((Mod.of_below HB0.out (fun q => Bf ≤ q)).trans hm04 (fun q _ e => by rcases e with e | e <;> omega)).below hbf (fun _ h => h)
      obtain ⟨W5, hW5⟩ : ∃ W5, W5 = wr.setCell ⟨w.heap.size, 1, none⟩ (.slice fA k fc) := ⟨_, rfl⟩
      have hm5 : Mod (fun q => q = w.heap.size) wr W5 := by rw [hW5]; exact (Mod.refl (fun q => q = w.heap.size) wr).setCell (p := ⟨w.heap.size, 1, none⟩) (fun _ => rfl) _
      have hd5 := hd4.mod hm5 (fun e => by omega) (fun e => by omega) (fun e => by omega) (fun b hb e => by injection hb with hb; have := HBO2.out.lt; omega)
      have hb5 : Below Bf w W5 := hb4.trans (hm5.below (by omega) (fun q e => by omega))
      have hr5 : RefAt W5 B Bf A c fA k fc (s.planned fates) xs fates := by
        have h5 := hr4.modT hm5 (fun q e => by subst e; exact ⟨_, hbd⟩) (fun q e => by omega)
        refine ⟨h5.row, h5.len, HIN.out.fates.below hb5, h5.fb, fun q hq => ?_⟩
        show (if (q : Int) ≤ (s.steps : Int) then 0 else firstFate fates (q : Int)) = _
        have hq2 : s.steps < q := hq
        rw [if_neg (by omega)]
      have hbr5 : Blk W5 (w.heap.size + 2) 46 #[.slice none 0 0, .slice none 0 0, .int .i64 0, .bool false] := by rw [hW5]; exact hbr.far (p := ⟨w.heap.size, 1, none⟩) (by show w.heap.size + 2 ≠ w.heap.size; omega) _
      have hbd5 : Blk W5 w.heap.size 46 #[.slice A n c, .slice fA k fc, .int .i64 (st : Int), .bool off] := by rw [hW5]; exact hbd.set_ 1 _
      have hw5 := hm5.size
      have HE := Lib.hid (askOut_of (n := n) (st := st) (off := off) hd5 hr5 (((Mod.of_below HB0.out (AskS p sb mb w.heap.size)).trans hm04 (fun q _ e => by rcases e with e | e; exact .inl (.inl e); exact .inr (by omega))).trans hm5 (fun q _ e => .inr (by omega))) (by omega) (Nat.le_add_right _ 2) hbr5 (by omega) hbf (fun b e => hd5.ne_pl e hbr5) HN.out HS0.out HOFF.out)
      clear D0 D1 D2 D3 F1 O0 O1 O2 O3 O4 R0 R1 R2 R3 F2
      have D0 : wr.cell? ⟨w.heap.size, 0, none⟩ = some (.slice A n c) := (hbd).cell 0
      have D1 : wr.cell? ⟨w.heap.size, 1, none⟩ = some (.slice P pn pc) := (hbd).cell 1
      have D2 : wr.cell? ⟨w.heap.size, 2, none⟩ = some (.int .i64 (st : Int)) := (hbd).cell 2
      have D3 : wr.cell? ⟨w.heap.size, 3, none⟩ = some (.bool off) := (hbd).cell 3
      have F1 : ∀ j, wr.frozen? ⟨w.heap.size, j, none⟩ = false := (hbd).frozen
      have O0 : wr.cell? ⟨w.heap.size + 1, 0, none⟩ = some (.int .i64 5) := (hbo).cell 0
      have O1 : wr.cell? ⟨w.heap.size + 1, 1, none⟩ = some (.int .i64 oi) := (hbo).cell 1
      have O2 : wr.cell? ⟨w.heap.size + 1, 2, none⟩ = some (.slice dA dn dc) := (hbo).cell 2
      have O3 : wr.cell? ⟨w.heap.size + 1, 3, none⟩ = some (.slice kA kn kc) := (hbo).cell 3
      have O4 : wr.cell? ⟨w.heap.size + 1, 4, none⟩ = some (.slice fA k fc) := (hbo).cell 4
      have HW5 := Lib.hid hW5
      have E0 : W5.cell? ⟨w.heap.size, 0, none⟩ = some (.slice A n c) := hbd5.cell 0
      have E1 : W5.cell? ⟨w.heap.size, 1, none⟩ = some (.slice fA k fc) := hbd5.cell 1
      have E2 : W5.cell? ⟨w.heap.size, 2, none⟩ = some (.int .i64 (st : Int)) := hbd5.cell 2
      have E3 : W5.cell? ⟨w.heap.size, 3, none⟩ = some (.bool off) := hbd5.cell 3
      have R0 : W5.cell? ⟨w.heap.size + 2, 0, none⟩ = some (.slice none 0 0) := (hbr5).cell 0
      have R1 : W5.cell? ⟨w.heap.size + 2, 1, none⟩ = some (.slice none 0 0) := (hbr5).cell 1
      have R2 : W5.cell? ⟨w.heap.size + 2, 2, none⟩ = some (.int .i64 0) := (hbr5).cell 2
      have R3 : W5.cell? ⟨w.heap.size + 2, 3, none⟩ = some (.bool false) := (hbr5).cell 3
      have F2 : ∀ j, W5.frozen? ⟨w.heap.size + 2, j, none⟩ = false := (hbr5).frozen
      clear hbd hbo hbr hd4 hm04 hr4 hb4 hW5 hm5 hd5 hb5 hr5 hbr5 hbd5 hno
      go_upto_region 31 with fail
      rw [← HW5.out]
      go_wp2_with fail
      exact ret_dk2 (b := w.heap.size + 2) rfl rfl rfl HE.out.1 rfl HE.out.2
end Go.Proofs.Ytdghanhpeekbhaa
