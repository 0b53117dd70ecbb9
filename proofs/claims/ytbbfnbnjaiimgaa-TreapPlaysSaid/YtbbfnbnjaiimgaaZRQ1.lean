/-
  A rope of the document in memory; Has, Bad, Row.
-/
import Derived.Deep.RegionHeld3
import Derived.Test.YtbbfnbnjaiimgaaZPU
import Derived.Test.YtbbfnbnjaiimgaaRP38
namespace Go.Proofs.Ytbbfnbnjaiimgaa
open Go.RowKit
set_option linter.unusedVariables false

/-- Rows in memory of their own. -/
def RowsOf (w : World) (B : Nat) (xs : List (Option Addr × Nat × Nat)) (R : List (List Nat)) : Prop := xs.length = R.length ∧ ∀ (i : Nat) x r, xs[i]? = some x → R[i]? = some r → OK encI 1 3 w B (valR x) (r.map natI)

structure DocX (w : World) (B : Nat) (rA : Option Addr) (rn rc : Nat) (nA : Option Addr) (nn nc : Nat) (mA : Option Addr) (mn mc : Nat) (xs : List (Option Addr × Nat × Nat)) (M : RM SV) : Prop where
  rows : OK encR3 1 22 w B (.slice rA rn rc) xs
  each : RowsOf w B xs M.rows
  ns : OK encI 1 2 w B (.slice nA nn nc) (M.own.map SV.n)
  ms : OK encI 1 3 w B (.slice mA mn mc) (M.own.map SV.m)

def DocAt (w : World) (B : Nat) (v : Value) (M : RM SV) : Prop := ∃ rA rn rc nA nn nc mA mn mc xs, v = .agg #[.slice rA rn rc, .slice nA nn nc, .slice mA mn mc] ∧ DocX w B rA rn rc nA nn nc mA mn mc xs M

section

variable {w w' : World} {B B' : Nat} {rA nA mA : Option Addr} {rn rc nn nc mn mc : Nat} {xs : List (Option Addr × Nat × Nat)} {M : RM SV} {R : List (List Nat)}

theorem RowsOf.below (h : RowsOf w B xs R) (hb : Below w.heap.size w w') : RowsOf w' B xs R := ⟨h.1, fun i x r h1 h2 => (h.2 i x r h1 h2).below hb⟩

theorem RowsOf.base (h : RowsOf w B xs R) (hB : B' ≤ B) : RowsOf w B' xs R := ⟨h.1, fun i x r h1 h2 => (h.2 i x r h1 h2).base hB⟩

theorem RowsOf.nil (w : World) (B : Nat) : RowsOf w B [] [] := ⟨rfl, fun i x r h _ => by simp at h⟩

theorem RowsOf.snoc (h : RowsOf w B xs R) {x : Option Addr × Nat × Nat} {r : List Nat} (hx : OK encI 1 3 w B (valR x) (r.map natI)) : RowsOf w B (xs ++ [x]) (R ++ [r]) := by
  refine ⟨by simp [h.1], fun i y s h1 h2 => ?_⟩
  by_cases hi : i < xs.length
  · rw [List.getElem?_append_left hi] at h1
    rw [List.getElem?_append_left (by rw [← h.1]; exact hi)] at h2
    exact h.2 i y s h1 h2
  · have hi2 : i = xs.length := by
      have := (List.getElem?_eq_some_iff.1 h1).1
      rw [List.length_append, List.length_singleton] at this
      omega
    subst hi2
    rw [List.getElem?_append_right (Nat.le_refl _), Nat.sub_self, List.getElem?_cons_zero] at h1
    rw [h.1, List.getElem?_append_right (Nat.le_refl _), Nat.sub_self, List.getElem?_cons_zero] at h2
    injection h1 with h1
    injection h2 with h2
    subst h1 h2
    exact hx

/-- One row's slice. -/
theorem RowsOf.at_ (h : RowsOf w B xs R) {i : Nat} (hi : i < R.length) : ∃ x, xs[i]? = some x ∧ x.2.1 = R[i].length ∧ OK encI 1 3 w B (valR x) (R[i].map natI) := by
  have hx : i < xs.length := by rw [h.1]; exact hi
  refine ⟨xs[i], List.getElem?_eq_getElem hx, ?_, h.2 i _ _ (List.getElem?_eq_getElem hx) (List.getElem?_eq_getElem hi)⟩
  obtain ⟨A, c, e, _⟩ := ((h.2 i _ _ (List.getElem?_eq_getElem hx) (List.getElem?_eq_getElem hi)).rk encI_len (Nat.le_refl _)).open_
  unfold valR at e
  injection e with e1 e2 e3
  rw [e2, List.length_map]

theorem DocX.below (h : DocX w B rA rn rc nA nn nc mA mn mc xs M) (hb : Below w.heap.size w w') : DocX w' B rA rn rc nA nn nc mA mn mc xs M := ⟨h.rows.below hb, h.each.below hb, h.ns.below hb, h.ms.below hb⟩

theorem DocX.base (h : DocX w B rA rn rc nA nn nc mA mn mc xs M) (hB : B' ≤ B) : DocX w B' rA rn rc nA nn nc mA mn mc xs M := ⟨h.rows.base hB, h.each.base hB, h.ns.base hB, h.ms.base hB⟩

theorem DocX.lens (h : DocX w B rA rn rc nA nn nc mA mn mc xs M) : rn = M.rows.length ∧ nn = M.own.length ∧ mn = M.own.length := by
  obtain ⟨A, c, e, _⟩ := (h.rows.rk encR3_len (Nat.le_refl _)).open_
  obtain ⟨A2, c2, e2, _⟩ := (h.ns.rk encI_len (Nat.le_refl _)).open_
  obtain ⟨A3, c3, e3, _⟩ := (h.ms.rk encI_len (Nat.le_refl _)).open_
  injection e with e4 e5 e6
  injection e2 with e7 e8 e9
  injection e3 with f1 f2 f3
  rw [List.length_map] at e8 f2
  exact ⟨by rw [e5, h.each.1], e8, f2⟩

theorem DocAt.below {v : Value} (h : DocAt w B v M) (hb : Below w.heap.size w w') : DocAt w' B v M := by
  obtain ⟨rA, rn, rc, nA, nn, nc, mA, mn, mc, xs, e, h⟩ := h
  exact ⟨rA, rn, rc, nA, nn, nc, mA, mn, mc, xs, e, h.below hb⟩

theorem DocAt.base {v : Value} (h : DocAt w B v M) (hB : B' ≤ B) : DocAt w B' v M := by
  obtain ⟨rA, rn, rc, nA, nn, nc, mA, mn, mc, xs, e, h⟩ := h
  exact ⟨rA, rn, rc, nA, nn, nc, mA, mn, mc, xs, e, h.base hB⟩

/-- One row's cell. -/
theorem cellR {w : World} {B n c : Nat} {A : Option Addr} {xs : List (Option Addr × Nat × Nat)} (h : OK encR3 1 22 w B (.slice A n c) xs) {q : Nat} {x : Option Addr × Nat × Nat} (hq : xs[q]? = some x) : ∃ b o, A = some ⟨b, o, none⟩ ∧ w.cell? ⟨b, o + q, none⟩ = some (.slice x.1 x.2.1 x.2.2) := by
  obtain ⟨hlt, hx⟩ := List.getElem?_eq_some_iff.1 hq
  obtain ⟨A', c', e, _, _, _, HC⟩ := (h.rk encR3_len (Nat.le_refl _)).open_
  injection e with e1 e2 e3
  subst e1
  obtain ⟨b, o, e', _, hc⟩ := HC.out q hlt
  rw [hx] at hc
  have := hc 0 _ rfl
  exact ⟨b, o, e', by simpa using this⟩

end

/-- Which of the rows a node's row is. -/
def RM.rowIx (M : RM SV) (a : Nat) : Nat := M.rows.idxOf (M.rowOf a)

section

variable {M : RM SV}

theorem ix_of (h : M.Ok) {k a : Nat} (hk : k < M.rows.length) (ha : a ∈ M.rows[k]) : M.rowIx a = k := by
  unfold RM.rowIx
  rw [rowOf_of h (List.getElem_mem hk) ha]
  exact List.Nodup.idxOf_getElem (nodup_rows h) k hk

theorem ix_at (h : M.Ok) {a : Nat} (ha : 1 ≤ a ∧ a ≤ M.own.length) : ∃ hk : M.rowIx a < M.rows.length, M.rows[M.rowIx a] = M.rowOf a := by
  have hm := (row_mem h ha).1
  refine ⟨List.idxOf_lt_length_iff.2 hm, List.getElem_idxOf _⟩

theorem ix_iff (h : M.Ok) {a k : Nat} (ha : 1 ≤ a ∧ a ≤ M.own.length) (hk : k < M.rows.length) : k = M.rowIx a ↔ a ∈ M.rows[k] := by
  constructor
  · rintro rfl
    obtain ⟨h1, h2⟩ := ix_at h ha
    rw [h2]; exact (row_mem h ha).2
  · intro hm; exact (ix_of h hk hm).symm

theorem ix_same (h : M.Ok) {a b : Nat} (ha : 1 ≤ a ∧ a ≤ M.own.length) (hb : 1 ≤ b ∧ b ≤ M.own.length) : M.rowIx a = M.rowIx b ↔ M.rowOf a = M.rowOf b := by
  obtain ⟨h1, h2⟩ := ix_at h ha
  obtain ⟨h3, h4⟩ := ix_at h hb
  constructor
  · intro e
    rw [← h2, ← h4]
    congr 1
  · intro e; unfold RM.rowIx; rw [e]

theorem rows_few (h : M.Ok) : M.rows.length ≤ M.own.length := by
  have hp := (flat_perm h).length_eq
  rw [List.length_range'] at hp
  rw [← hp]
  have : ∀ L : List (List Nat), (∀ xs ∈ L, xs ≠ []) → L.length ≤ L.flatten.length := by
    intro L
    induction L with
    | nil => intro _; simp
    | cons x r ih =>
      intro hx
      have h1 := ih (fun xs hxs => hx xs (by simp [hxs]))
      have h2 : 0 < x.length := List.length_pos_iff.2 (hx x (by simp))
      rw [List.length_cons, List.flatten_cons, List.length_append]
      omega
  exact this _ h.ne

end

set_option maxRecDepth 100000 in
set_option maxHeartbeats 2000000 in
theorem has_any (v : Value) (V : List Int) (w : World) (B : Nat) (hv : RI w B v V) (n : Int) :
    Calls Try.prog 43 #[v, .int .i64 n] w fun e w' => e = .returned (.bool (decide (n ∈ V))) ∧ w' = w := by
  obtain ⟨A, c, rfl, hc1, hc2, hc3, HC⟩ := hv.open_
  clear hv
  obtain ⟨l, hl⟩ : ∃ l, l = V.length := ⟨_, rfl⟩
  obtain ⟨b, hb⟩ : ∃ b, b = decide (n ∈ V) := ⟨_, rfl⟩
  rw [← hl] at hc1 hc3 ⊢
  rw [← hb]
  have HL := Lib.hid hl
  have HB := Lib.hid hb
  clear hl hb
  go_enter Try.func43, Try.ntmps43
  go_wp2_with fail
  go_loopw [5] (fun i wr => ∃ k : Nat, k ≤ l ∧ i = .int .i64 k ∧ Hid (n ∉ V.take k) ∧ wr = w) (fun i _ => l - (intOf i).toNat)
  case atStart => exact ⟨0, Nat.zero_le _, rfl, Lib.hid (by simp), rfl⟩
  case round =>
    obtain ⟨k, hk, rfl, HN, hwr⟩ := hrel
    rw [hwr]
    clear hwr
    by_cases hkl : k < l
    · have hkv : k < V.length := by have := HL.out; omega
      obtain ⟨b1, o1, rfl, hb1, hx⟩ := HC.out k hkv
      obtain ⟨y, hy⟩ : ∃ y, y = V[k] := ⟨_, rfl⟩
      have HT := Lib.hid (List.take_succ_eq_append_getElem hkv)
      have HM := Lib.hid (List.getElem_mem hkv)
      rw [← hy] at hx HT HM
      have hx := cellI hx
      clear hy
      by_cases hyn : y = n
      · have HRES : Hid (b = true) := Lib.hid (by rw [HB.out]; exact decide_eq_true (hyn ▸ HM.out))
        subst hyn
        go_wp2_with fail
        go_ret
        exact ⟨by rw [HRES.out]; rfl, rfl⟩
      · have d1 : (y == n) = false := by simpa using hyn
        have HN2 : Hid (n ∉ V.take (k + 1)) := Lib.hid (by rw [HT.out, List.mem_append]; rintro (h | h); exact HN.out h; exact hyn (List.mem_singleton.1 h).symm)
        go_wp2_with fail
        go_roundw
        case rel => exact ⟨k + 1, by omega, by go_num, HN2, by first | rfl | trivial⟩
        case measure => simp [intOf]; omega
    · obtain rfl : k = l := by omega
      have HRES : Hid (b = false) := Lib.hid (by rw [HB.out]; have := HN.out; rw [HL.out, List.take_length] at this; exact decide_eq_false this)
      go_wp2_with fail
      go_ret
      exact ⟨by rw [HRES.out]; rfl, rfl⟩

set_option maxRecDepth 100000 in
set_option maxHeartbeats 2000000 in
theorem docBad (w : World) (B : Nat) (v : Value) (M : RM SV) (h : DocAt w B v M) (a : Int) :
    Calls Try.prog 60 #[v, .int .i64 a] w fun e w' => e = .returned (.bool (!M.known a)) ∧ Below w.heap.size w w' := by
  obtain ⟨rA, rn, rc, nA, nn, nc, mA, mn, mc, xs, rfl, h⟩ := h
  obtain ⟨e1, e2, e3⟩ := h.lens
  have HB := Lib.hid ((Below.refl w.heap.size w).alloc (Nat.le_refl _) (Obj.cells #[.slice rA rn rc, .slice nA nn nc, .slice mA mn mc] 32))
  obtain ⟨b, hb⟩ : ∃ b, b = !M.known a := ⟨_, rfl⟩
  have hb2 : b = !(decide (0 < a ∧ a < (nn : Int) + 1)) := by rw [hb, e2]; rfl
  rw [← hb]
  clear hb e1 e2 e3 h
  go_enter Try.func60, Try.ntmps60
  by_cases h1 : a < 1
  · have d1 : decide (a < 1) = true := by simpa using h1
    have hbt : b = true := by rw [hb2]; simp; omega
    clear hb2
    subst hbt
    go_wp2_with fail
    go_ret
    exact ⟨rfl, HB.out⟩
  · have d1 : decide (a < 1) = false := by simpa using h1
    by_cases h2 : (nn : Int) < a
    · have d2 : decide ((nn : Int) < a) = true := by simpa using h2
      have hbt : b = true := by rw [hb2]; simp; omega
      clear hb2
      subst hbt
      go_wp2_with fail
      go_ret
      exact ⟨rfl, HB.out⟩
    · have d2 : decide ((nn : Int) < a) = false := by simpa using h2
      have hbt : b = false := by rw [hb2]; simp; omega
      clear hb2
      subst hbt
      go_wp2_with fail
      go_ret
      exact ⟨rfl, HB.out⟩

set_option maxRecDepth 100000 in
set_option maxHeartbeats 2000000 in
theorem docRow (w : World) (B : Nat) (v : Value) (M : RM SV) (h : DocAt w B v M) (hok : M.Ok) (a : Nat) (ha : 1 ≤ a ∧ a ≤ M.own.length) (hsm : M.own.length ≤ 65536) :
    Calls Try.prog 62 #[v, .int .i64 (a : Int)] w fun e w' => e = .returned (.int .i64 (M.rowIx a : Nat)) ∧ Below w.heap.size w w' := by
  obtain ⟨rA, rn, rc, nA, nn, nc, mA, mn, mc, xs, rfl, h⟩ := h
  obtain ⟨e1, e2, e3⟩ := h.lens
  have hfew := rows_few hok
  obtain ⟨W, hW⟩ : ∃ W, W = w.alloc (.cells #[.slice rA rn rc, .slice nA nn nc, .slice mA mn mc] 32) := ⟨_, rfl⟩
  have hb : Below w.heap.size w W := by rw [hW]; exact (Below.refl _ _).alloc (Nat.le_refl _) _
  have hk : Blk W w.heap.size 32 #[.slice rA rn rc, .slice nA nn nc, .slice mA mn mc] := by rw [hW]; exact Blk.new _ _ _
  have hrn : rn ≤ 65536 := by omega
  have H := Lib.hid (h.below hb)
  have HE1 := Lib.hid e1
  have HB := Lib.hid hb
  have HW := Lib.hid hW
  have HOK := Lib.hid hok
  have HA := Lib.hid ha
  have c0 := hk.cell 0
  clear h hb hW hok ha e1 e2 e3 hfew hsm hk
  go_enter Try.func62, Try.ntmps62
  go_upto_region 1 with fail
  rw [← HW.out]
  go_wp2_with fail
  go_loopw [5] (fun i wr => ∃ k : Nat, k ≤ rn ∧ i = .int .i64 k ∧ Hid (∀ (j : Nat) (hj : j < M.rows.length), j < k → a ∉ M.rows[j]) ∧ wr = W) (fun i _ => rn - (intOf i).toNat)
  case atStart => exact ⟨0, Nat.zero_le _, rfl, Lib.hid (fun j _ hj => by omega), rfl⟩
  case round =>
    obtain ⟨k, hkr, rfl, HN, hwr⟩ := hrel
    rw [hwr]
    clear hwr
    by_cases hkl : k < rn
    · have hkv : k < M.rows.length := by have := HE1.out; omega
      obtain ⟨x, hx, hxl, hxo⟩ := H.out.each.at_ hkv
      obtain ⟨b1, o1, rfl, hc⟩ := cellR H.out.rows hx
      have HX := Lib.hid (hxo.rk encI_len (Nat.le_refl _))
      obtain ⟨x1, x2, x3⟩ := x
      dsimp only at hc
      have HMEM : Hid (((a : Int) ∈ (M.rows[k]).map natI) ↔ a ∈ M.rows[k]) := Lib.hid (by
        rw [List.mem_map]
        constructor
        · rintro ⟨z, hz, e⟩
          have : z = a := by unfold natI at e; omega
          exact this ▸ hz
        · intro hz; exact ⟨a, hz, rfl⟩)
      have HKV := Lib.hid hkv
      clear hx hxl hxo
      go_wp2_with fail
      refine (has_any (.slice x1 x2 x3) _ W W.heap.size HX.out (a : Int)).mono ?_
      by_cases hin : a ∈ M.rows[k]
      · have HR : Hid (M.rowIx a = k) := Lib.hid (ix_of HOK.out HKV.out hin)
        rw [decide_eq_true (HMEM.out.2 hin)]
        rintro e w1 ⟨rfl, h1⟩
        subst w1
        go_wp2_with fail
        go_ret
        exact ⟨by rw [HR.out]; rfl, HB.out⟩
      · rw [decide_eq_false (fun h => hin (HMEM.out.1 h))]
        have HN2 : Hid (∀ (j : Nat) (hj : j < M.rows.length), j < k + 1 → a ∉ M.rows[j]) := Lib.hid (fun j hj hjk => by
          by_cases e : j = k
          · subst e; exact hin
          · exact HN.out j hj (by omega))
        rintro e w1 ⟨rfl, h1⟩
        subst w1
        go_wp2_with fail
        go_roundw
        case rel => exact ⟨k + 1, by omega, by go_num, HN2, by first | rfl | trivial⟩
        case measure => simp [intOf]; omega
    · exfalso
      obtain ⟨h1, h2⟩ := ix_at HOK.out HA.out
      have h3 := HN.out _ h1 (by have := HE1.out; omega)
      rw [h2] at h3
      exact h3 (row_mem HOK.out HA.out).2

end Go.Proofs.Ytbbfnbnjaiimgaa

/-
  The document's Index, Sums and First.
-/
namespace Go.Proofs.Ytbbfnbnjaiimgaa
open Go.RowKit
set_option linter.unusedVariables false

theorem DocX.nAt {w : World} {B : Nat} {rA : Option Addr} {rn rc : Nat} {nA : Option Addr} {nn nc : Nat} {mA : Option Addr} {mn mc : Nat} {xs : List (Option Addr × Nat × Nat)} {M : RM SV} (h : DocX w B rA rn rc nA nn nc mA mn mc xs M) {z : Nat} (hz : z < M.own.length) :
    (∃ b o, nA = some ⟨b, o, none⟩ ∧ w.cell? ⟨b, o + z, none⟩ = some (.int .i64 (M.val (z + 1)).n)) ∧ ∃ b o, mA = some ⟨b, o, none⟩ ∧ w.cell? ⟨b, o + z, none⟩ = some (.int .i64 (M.val (z + 1)).m) := by
  have e : M.val (z + 1) = M.own[z] := by unfold RM.val; rw [Nat.add_sub_cancel, List.getElem?_eq_getElem hz]; rfl
  rw [e]
  refine ⟨?_, ?_⟩
  · obtain ⟨A', c', e', _, _, _, HC⟩ := (h.ns.rk encI_len (Nat.le_refl _)).open_
    injection e' with e1 e2 e3
    subst e1
    obtain ⟨b, o, e4, _, hx⟩ := HC.out z (by rw [List.length_map]; exact hz)
    rw [List.getElem_map] at hx
    exact ⟨b, o, e4, cellI hx⟩
  · obtain ⟨A', c', e', _, _, _, HC⟩ := (h.ms.rk encI_len (Nat.le_refl _)).open_
    injection e' with e1 e2 e3
    subst e1
    obtain ⟨b, o, e4, _, hx⟩ := HC.out z (by rw [List.length_map]; exact hz)
    rw [List.getElem_map] at hx
    exact ⟨b, o, e4, cellI hx⟩

theorem pred_wrap (z : Nat) (hz : z ≤ 65536) : IntKind.i64.wrap ((z : Int) + 1 - 1) = (z : Int) ∧ IntKind.i64.wrap (z : Int) = (z : Int) ∧ ((z : Int) + 1 - 1) = (z : Int) := by
  simp only [IntKind.wrap_i64]
  omega

set_option maxRecDepth 100000 in
set_option maxHeartbeats 4000000 in
theorem docSums (w : World) (B B2 : Nat) (v rv : Value) (M : RM SV) (row : List Nat) (h : DocAt w B v M) (hr : RI w B2 rv (row.map natI)) (hB2 : B2 ≤ w.heap.size) (hk : ∀ j ∈ row, 1 ≤ j ∧ j ≤ M.own.length) (hsm : M.own.length ≤ 65536) :
    Calls Try.prog 66 #[v, rv] w fun e w' => e = .returned (.tuple #[.int .i64 (M.sumTo row).n, .int .i64 (M.sumTo row).m]) ∧ Below w.heap.size w w' := by
  obtain ⟨rA, rn, rc, nA, nn, nc, mA, mn, mc, xs, rfl, h⟩ := h
  obtain ⟨e1, e2, e3⟩ := h.lens
  obtain ⟨A, c, rfl, hc1, hc2, hc3, HC⟩ := hr.open_
  obtain ⟨W, hW⟩ : ∃ W, W = w.alloc (.cells #[.slice rA rn rc, .slice nA nn nc, .slice mA mn mc] 32) := ⟨_, rfl⟩
  have hb : Below w.heap.size w W := by rw [hW]; exact (Below.refl _ _).alloc (Nat.le_refl _) _
  have hkb : Blk W w.heap.size 32 #[.slice rA rn rc, .slice nA nn nc, .slice mA mn mc] := by rw [hW]; exact Blk.new _ _ _
  obtain ⟨n, hn⟩ : ∃ n, n = row.length := ⟨_, rfl⟩
  obtain ⟨p, hp⟩ : ∃ p, p = w.heap.size := ⟨_, rfl⟩
  rw [List.length_map, ← hn] at hc1 hc3 ⊢
  obtain ⟨tn, tm, ht⟩ : ∃ tn tm, M.sumTo row = ⟨tn, tm⟩ := ⟨_, _, rfl⟩
  rw [ht]
  have H := Lib.hid (h.below hb)
  have HB := Lib.hid hb
  have HW := Lib.hid hW
  have HBK := Lib.hid hkb
  have HN := Lib.hid hn
  have HK := Lib.hid hk
  have HT := Lib.hid ht
  have HR := Lib.hid hr
  have HB2 := Lib.hid hB2
  have hnn : nn ≤ 65536 := by omega
  have hmn : mn ≤ 65536 := by omega
  have HNN : Hid (nn = M.own.length ∧ mn = M.own.length) := Lib.hid ⟨e2, e3⟩
  have c1 := hkb.cell 1
  have c2 := hkb.cell 2
  rw [← hp] at c1 c2
  have HP := Lib.hid hp
  clear h hb hkb hW hn hk ht hr hB2 e1 e2 e3 hsm hp
  dsimp only
  go_enter Try.func66, Try.ntmps66
  go_upto_region 1 with fail
  rw [← HW.out, ← HP.out]
  go_wp2_with fail
  go_loopw [6, 7, 8] (fun sn sm i wr => ∃ (k q : Nat) (an am : Int), k ≤ n ∧ i = .int .i64 k ∧ sn = .int .i64 an ∧ sm = .int .i64 am ∧ Hid (M.sumTo (row.take k) = ⟨an, am⟩) ∧ wr = W.drewN q) (fun _ _ i _ => n - (intOf i).toNat)
  case atStart => exact ⟨0, 0, 0, 0, Nat.zero_le _, rfl, rfl, rfl, Lib.hid (by simp [RM.sumTo]), rfl⟩
  case round =>
    obtain ⟨k, q, an, am, hkn, rfl, rfl, rfl, HS, hwr⟩ := hrel
    by_cases hkl : k < n
    · have hkv : k < row.length := by have := HN.out; omega
      obtain ⟨b1, o1, rfl, hb1, hx⟩ := HC.out k (by rw [List.length_map]; exact hkv)
      rw [List.getElem_map] at hx
      have hx := cellI hx
      obtain ⟨z, hz⟩ : ∃ z, row[k] = z + 1 := ⟨row[k] - 1, by have := HK.out _ (List.getElem_mem hkv); omega⟩
      have hzk : z < M.own.length := by have := HK.out _ (List.getElem_mem hkv); omega
      obtain ⟨⟨nb, no, rfl, hnc⟩, mb, mo, rfl, hmc⟩ := H.out.nAt hzk
      obtain ⟨xn, xm, hxv⟩ : ∃ xn xm, M.val (z + 1) = ⟨xn, xm⟩ := ⟨_, _, rfl⟩
      rw [hxv] at hnc hmc
      dsimp only at hnc hmc
      have HS2 : Hid (M.sumTo (row.take (k + 1)) = ⟨wrap64 (an + xn), wrap64 (am + xm)⟩) := Lib.hid (by rw [List.take_succ_eq_append_getElem hkv, sumTo_snoc, HS.out, hz, hxv]; unfold SV.plus; simp only [wrap64, IntKind.wrap_i64])
      have hy : (W.drewN q).cell? ⟨b1, o1 + k, none⟩ = some (.int .i64 ((z : Int) + 1)) := by
        have h1 : w.cell? ⟨b1, o1 + k, none⟩ = some (.int .i64 ((z : Int) + 1)) := by rw [hx, hz]; rfl
        exact (HB.out.cell (p := ⟨b1, o1 + k, none⟩) (Nat.lt_of_lt_of_le hb1 HB2.out)).trans h1
      have hnc : (W.drewN q).cell? ⟨nb, no + z, none⟩ = _ := hnc
      have hmc : (W.drewN q).cell? ⟨mb, mo + z, none⟩ = _ := hmc
      have c1 : (W.drewN q).cell? ⟨p, 1, none⟩ = _ := c1
      have c2 : (W.drewN q).cell? ⟨p, 2, none⟩ = _ := c2
      have hzn : z < nn := by have := HNN.out.1; omega
      have hzm : z < mn := by have := HNN.out.2; omega
      have hz1 : (z : Int) < (nn : Int) := by omega
      have hz2 : (z : Int) < (mn : Int) := by omega
      obtain ⟨p1, p2, p3⟩ := pred_wrap z (by omega)
      have HWR := Lib.hid hwr
      have P1 := Lib.hid p1
      have P2 := Lib.hid p2
      have P3 := Lib.hid p3
      clear hx hz hzk hxv p1 p2 p3
      rw [hwr]
      clear hwr
      obtain ⟨V, hV⟩ : ∃ V, V = W.drewN q := ⟨_, rfl⟩
      rw [← hV] at hy hnc hmc c1 c2 ⊢
      have HV := Lib.hid hV
      clear hV
      go_upto_region 5 with fail
      have p1 := P1.out
      have p2 := P2.out
      go_wp2_with fail
      go_quiet (fail)
      go_wp2_with fail
      go_quiet (fail)
      clear p1 p2
      go_wp2_with fail
      go_roundw
      case rel => exact ⟨k + 1, _, _, _, by omega, by go_num, rfl, rfl, HS2, by rw [HV.out, World.drewN_drewN]⟩
      case measure => simp [intOf]; omega
    · obtain rfl : k = n := by omega
      have hres := HS.out
      rw [HN.out, List.take_length, HT.out] at hres
      injection hres with h1 h2
      subst h1 h2
      rw [hwr]
      have HE : Hid (Below w.heap.size w (W.drewN q)) := Lib.hid (below_drewN HB.out q)
      clear hwr
      go_wp2_with fail
      go_ret2
      exact ⟨rfl, HE.out⟩

set_option maxRecDepth 100000 in
set_option maxHeartbeats 4000000 in
theorem docFirst (w : World) (B B2 : Nat) (v rv : Value) (M : RM SV) (row : List Nat) (h : DocAt w B v M) (hr : RI w B2 rv (row.map natI)) (hB2 : B2 ≤ w.heap.size) (hk : ∀ j ∈ row, 1 ≤ j ∧ j ≤ M.own.length) (hsm : M.own.length ≤ 65536) :
    Calls Try.prog 68 #[v, rv] w fun e w' => e = .returned (.int .i64 (M.firstOf row : Nat)) ∧ Below w.heap.size w w' := by
  obtain ⟨rA, rn, rc, nA, nn, nc, mA, mn, mc, xs, rfl, h⟩ := h
  obtain ⟨e1, e2, e3⟩ := h.lens
  obtain ⟨A, c, rfl, hc1, hc2, hc3, HC⟩ := hr.open_
  obtain ⟨W, hW⟩ : ∃ W, W = w.alloc (.cells #[.slice rA rn rc, .slice nA nn nc, .slice mA mn mc] 32) := ⟨_, rfl⟩
  have hb : Below w.heap.size w W := by rw [hW]; exact (Below.refl _ _).alloc (Nat.le_refl _) _
  have hkb : Blk W w.heap.size 32 #[.slice rA rn rc, .slice nA nn nc, .slice mA mn mc] := by rw [hW]; exact Blk.new _ _ _
  obtain ⟨n, hn⟩ : ∃ n, n = row.length := ⟨_, rfl⟩
  obtain ⟨p, hp⟩ : ∃ p, p = w.heap.size := ⟨_, rfl⟩
  rw [List.length_map, ← hn] at hc1 hc3 ⊢
  obtain ⟨R, hR⟩ : ∃ R, R = M.firstOf row := ⟨_, rfl⟩
  rw [← hR]
  have H := Lib.hid (h.below hb)
  have HB := Lib.hid hb
  have HW := Lib.hid hW
  have HN := Lib.hid hn
  have HK := Lib.hid hk
  have HRR := Lib.hid hR
  have HB2 := Lib.hid hB2
  have hnn : nn ≤ 65536 := by omega
  have hmn : mn ≤ 65536 := by omega
  have HNN : Hid (nn = M.own.length ∧ mn = M.own.length) := Lib.hid ⟨e2, e3⟩
  have c1 := hkb.cell 1
  have c2 := hkb.cell 2
  rw [← hp] at c1 c2
  have HP := Lib.hid hp
  clear h hb hkb hW hn hk hR hr hB2 e1 e2 e3 hsm hp
  go_enter Try.func68, Try.ntmps68
  go_upto_region 1 with fail
  rw [← HW.out, ← HP.out]
  go_wp2_with fail
  go_loopw [5] (fun i wr => ∃ (k q : Nat), k ≤ n ∧ i = .int .i64 k ∧ Hid (M.firstOf (row.drop k) = R) ∧ wr = W.drewN q) (fun i _ => n - (intOf i).toNat)
  case atStart => exact ⟨0, 0, Nat.zero_le _, rfl, Lib.hid (by rw [HRR.out]; rfl), rfl⟩
  case round =>
    obtain ⟨k, q, hkn, rfl, HS, hwr⟩ := hrel
    by_cases hkl : k < n
    · have hkv : k < row.length := by have := HN.out; omega
      obtain ⟨b1, o1, rfl, hb1, hx⟩ := HC.out k (by rw [List.length_map]; exact hkv)
      rw [List.getElem_map] at hx
      have hx := cellI hx
      obtain ⟨z, hz⟩ : ∃ z, row[k] = z + 1 := ⟨row[k] - 1, by have := HK.out _ (List.getElem_mem hkv); omega⟩
      have hzk : z < M.own.length := by have := HK.out _ (List.getElem_mem hkv); omega
      obtain ⟨⟨nb, no, rfl, hnc⟩, mb, mo, rfl, hmc⟩ := H.out.nAt hzk
      obtain ⟨xm, hxv⟩ : ∃ xm, (M.val (z + 1)).m = xm := ⟨_, rfl⟩
      rw [hxv] at hmc
      have hfo : M.firstOf (row.drop k) = if 0 < xm then z + 1 else M.firstOf (row.drop (k + 1)) := by
        rw [List.drop_eq_getElem_cons hkv, hz]
        have := first_here (M := M) (l := []) (r := row.drop (k + 1)) (a := z + 1) rfl
        rw [List.nil_append] at this
        rw [this]
        unfold marks
        rw [hxv]
        simp only [decide_eq_true_eq]
      have HFO := Lib.hid hfo
      have hy : (W.drewN q).cell? ⟨b1, o1 + k, none⟩ = some (.int .i64 ((z : Int) + 1)) := by
        have h1 : w.cell? ⟨b1, o1 + k, none⟩ = some (.int .i64 ((z : Int) + 1)) := by rw [hx, hz]; rfl
        exact (HB.out.cell (p := ⟨b1, o1 + k, none⟩) (Nat.lt_of_lt_of_le hb1 HB2.out)).trans h1
      have hmc : (W.drewN q).cell? ⟨mb, mo + z, none⟩ = _ := hmc
      have c2 : (W.drewN q).cell? ⟨p, 2, none⟩ = _ := c2
      have hzm : z < mn := by have := HNN.out.2; omega
      have hz2 : (z : Int) < (mn : Int) := by omega
      obtain ⟨p1, p2, p3⟩ := pred_wrap z (by omega)
      have P1 := Lib.hid p1
      have P2 := Lib.hid p2
      clear hx hz hzk hxv p1 p2 p3 hfo hnc
      rw [hwr]
      clear hwr
      obtain ⟨V, hV⟩ : ∃ V, V = W.drewN q := ⟨_, rfl⟩
      rw [← hV] at hy hmc c2 ⊢
      have HV := Lib.hid hV
      clear hV
      have HBV : Hid (∀ j, Below w.heap.size w (V.drewN j)) := Lib.hid (fun j => by rw [HV.out, World.drewN_drewN]; exact below_drewN HB.out _)
      go_upto_region 4 with fail
      have p1 := P1.out
      have p2 := P2.out
      by_cases hm : 0 < xm
      · have d1 : decide (0 < xm) = true := by simpa using hm
        have hres : R = z + 1 := by rw [← HS.out, HFO.out, if_pos hm]
        have HRES := Lib.hid hres
        clear hres
        go_wp2_with fail
        go_quiet (fail)
        clear p1 p2
        go_wp2_with fail
        go_ret
        exact ⟨by rw [HRES.out]; rfl, HBV.out _⟩
      · have d1 : decide (0 < xm) = false := by simpa using hm
        have HS2 : Hid (M.firstOf (row.drop (k + 1)) = R) := Lib.hid (by rw [← HS.out, HFO.out, if_neg hm])
        go_wp2_with fail
        go_quiet (fail)
        clear p1 p2
        go_wp2_with fail
        go_roundw
        case rel => exact ⟨k + 1, _, by omega, by go_num, HS2, by rw [HV.out, World.drewN_drewN]⟩
        case measure => simp [intOf]; omega
    · obtain rfl : k = n := by omega
      have hres : R = 0 := by
        rw [← HS.out, HN.out, List.drop_length]
        rfl
      rw [hwr]
      have HE : Hid (Below w.heap.size w (W.drewN q)) := Lib.hid (below_drewN HB.out q)
      have HRES := Lib.hid hres
      clear hwr hres
      go_wp2_with fail
      go_ret
      exact ⟨by rw [HRES.out]; rfl, HE.out⟩

end Go.Proofs.Ytbbfnbnjaiimgaa

/-
  The document's Index.
-/
namespace Go.Proofs.Ytbbfnbnjaiimgaa
open Go.RowKit
set_option linter.unusedVariables false

/-- What a region reads of a rope's box and of one of its rows. -/
def BoxC (p : Nat) (rA : Option Addr) (rn rc : Nat) (nA : Option Addr) (nn nc : Nat) (mA : Option Addr) (mn mc b o : Nat) (x : Option Addr × Nat × Nat) (w : World) : Prop := w.cell? ⟨p, 0, none⟩ = some (.slice rA rn rc) ∧ w.cell? ⟨p, 1, none⟩ = some (.slice nA nn nc) ∧ w.cell? ⟨p, 2, none⟩ = some (.slice mA mn mc) ∧ w.cell? ⟨b, o, none⟩ = some (.slice x.1 x.2.1 x.2.2)

theorem BoxC.all {p : Nat} {rA : Option Addr} {rn rc : Nat} {nA : Option Addr} {nn nc : Nat} {mA : Option Addr} {mn mc b o : Nat} {x : Option Addr × Nat × Nat} {w : World} (h : BoxC p rA rn rc nA nn nc mA mn mc b o x w) : w.cell? ⟨p, 0, none⟩ = some (.slice rA rn rc) ∧ w.cell? ⟨p, 1, none⟩ = some (.slice nA nn nc) ∧ w.cell? ⟨p, 2, none⟩ = some (.slice mA mn mc) ∧ w.cell? ⟨b, o, none⟩ = some (.slice x.1 x.2.1 x.2.2) := h

theorem BoxC.below {p : Nat} {rA : Option Addr} {rn rc : Nat} {nA : Option Addr} {nn nc : Nat} {mA : Option Addr} {mn mc b o : Nat} {x : Option Addr × Nat × Nat} {w w' : World} (h : BoxC p rA rn rc nA nn nc mA mn mc b o x w) (hb : Below w.heap.size w w') : BoxC p rA rn rc nA nn nc mA mn mc b o x w' := by
  obtain ⟨h0, h1, h2, h3⟩ := h
  have k0 := World.block_lt_of_cell? w _ h0
  have k3 := World.block_lt_of_cell? w _ h3
  exact ⟨(hb.cell (p := ⟨p, 0, none⟩) k0).trans h0, (hb.cell (p := ⟨p, 1, none⟩) k0).trans h1, (hb.cell (p := ⟨p, 2, none⟩) k0).trans h2, (hb.cell (p := ⟨b, o, none⟩) k3).trans h3⟩

set_option maxRecDepth 100000 in
set_option maxHeartbeats 4000000 in
theorem docIndex (w : World) (B : Nat) (v : Value) (M : RM SV) (h : DocAt w B v M) (hok : M.Ok) (a : Nat) (ha : 1 ≤ a ∧ a ≤ M.own.length) (hsm : M.own.length ≤ 65536) :
    Calls Try.prog 67 #[v, .int .i64 (a : Int)] w fun e w' => e = .returned (.int .i64 ((M.rowOf a).idxOf a : Nat)) ∧ Below w.heap.size w w' := by
  have h0 := h
  obtain ⟨rA, rn, rc, nA, nn, nc, mA, mn, mc, xs, rfl, h⟩ := h
  obtain ⟨e1, e2, e3⟩ := h.lens
  obtain ⟨hix, hrow⟩ := ix_at hok ha
  obtain ⟨x, hx, hxl, hxo⟩ := h.each.at_ hix
  obtain ⟨b1, o1, rfl, hc⟩ := cellR h.rows hx
  rw [hrow] at hxl hxo
  obtain ⟨k, hk⟩ : ∃ k, k = M.rowIx a := ⟨_, rfl⟩
  rw [← hk] at hix hc
  obtain ⟨p, hp⟩ : ∃ p, p = w.heap.size := ⟨_, rfl⟩
  obtain ⟨W, hW⟩ : ∃ W, W = w.alloc (.cells #[.slice (some ⟨b1, o1, none⟩) rn rc, .slice nA nn nc, .slice mA mn mc] 32) := ⟨_, rfl⟩
  have hb : Below w.heap.size w W := by rw [hW]; exact (Below.refl _ _).alloc (Nat.le_refl _) _
  have hkb : Blk W p 32 #[.slice (some ⟨b1, o1, none⟩) rn rc, .slice nA nn nc, .slice mA mn mc] := by rw [hW, hp]; exact Blk.new _ _ _
  have hBX : BoxC p (some ⟨b1, o1, none⟩) rn rc nA nn nc mA mn mc b1 (o1 + k) x W := ⟨hkb.cell 0, hkb.cell 1, hkb.cell 2, (hb.cell (p := ⟨b1, o1 + k, none⟩) (World.block_lt_of_cell? w _ hc)).trans hc⟩
  have hkr : k < rn := by omega
  have hkr2 : (k : Int) < (rn : Int) := by omega
  obtain ⟨l, hl⟩ : ∃ l, l = (M.rowOf a).length := ⟨_, rfl⟩
  have hl2 : l ≤ 65536 := by rw [hl]; exact Nat.le_trans (row_len hok (row_mem hok ha).1) hsm
  rw [← hl] at hxl
  obtain ⟨x1, x2, x3⟩ := x
  dsimp only at hxl
  subst hxl
  have HDOC := Lib.hid (h0.below hb)
  have HBX := Lib.hid hBX
  have HXO := Lib.hid (hxo.below hb)
  have HB := Lib.hid hb
  have HW := Lib.hid hW
  have HP := Lib.hid hp
  have HK := Lib.hid hk
  have HL := Lib.hid hl
  have HA := Lib.hid ha
  have HOK := Lib.hid hok
  have HSM := Lib.hid hsm
  obtain ⟨c0, c1, c2, c3⟩ := hBX
  dsimp only at c3
  clear h h0 hx hxo hc hrow hix hk hp hW hb hkb hl ha hok hsm e1 e2 e3
  go_enter Try.func67, Try.ntmps67
  go_upto_region 1 with fail
  rw [← HW.out, ← HP.out]
  go_wp2_with fail
  have HD : Hid (BoxC p (some ⟨b1, o1, none⟩) rn rc nA nn nc mA mn mc b1 (o1 + k) (x1, x2, x3) W.drew) := Lib.hid ⟨c0, c1, c2, c3⟩
  go_region_held3 (fun w' => w'.cell? ⟨p, 0, none⟩ = some (.slice (some ⟨b1, o1, none⟩) rn rc) ∧ w'.cell? ⟨p, 1, none⟩ = some (.slice nA nn nc) ∧ w'.cell? ⟨p, 2, none⟩ = some (.slice mA mn mc) ∧ w'.cell? ⟨b1, o1 + k, none⟩ = some (.slice x1 x2 x3)) (first | with_reducible exact HD.out.all | with_reducible exact HC.out.all | fail)
    ((go_at_call 62; refine (docRow _ B _ M (by first | exact HDOC.out | exact HDOC.out.below ((Below.refl _ _).drew)) HOK.out a HA.out HSM.out).mono ?_; rw [← HK.out]; rintro e w4 ⟨rfl, hb4⟩; have HC : Hid (BoxC p (some ⟨b1, o1, none⟩) rn rc nA nn nc mA mn mc b1 (o1 + k) (x1, x2, x3) w4) := Lib.hid (HD.out.below hb4); have HB4 : Hid (Below W.heap.size W w4) := Lib.hid ⟨hb4.os, hb4.tape, hb4.output, hb4.size, hb4.block⟩; clear hb4))
  clear c0 c1 c2 c3
  go_wp2_with fail
  have HX4 := Lib.hid (HXO.out.below HB4.out)
  have HT4 := Lib.hid (HB.out.trans (HB4.out.mono HB.out.size))
  go_loopw [6] (fun i wr => ∃ q : Nat, q ≤ x2 ∧ i = .int .i64 q ∧ Hid (a ∉ (M.rowOf a).take q) ∧ wr = w4) (fun i _ => x2 - (intOf i).toNat)
  case atStart => exact ⟨0, Nat.zero_le _, rfl, Lib.hid (by simp), rfl⟩
  case round =>
    obtain ⟨q, hq, rfl, HN, hwr⟩ := hrel
    rw [hwr]
    clear hwr
    by_cases hqn : q < x2
    · have hqr : q < (M.rowOf a).length := by have := HL.out; omega
      obtain ⟨bq, oq, e4, hxq⟩ := OK.cellRow (A := x1) (n := x2) (c := x3) HX4.out (q := q) (by rw [List.length_map]; exact hqr)
      subst e4
      obtain ⟨y, hy⟩ : ∃ y, y = (M.rowOf a)[q] := ⟨_, rfl⟩
      have y1 : w4.cell? ⟨bq, oq + q, none⟩ = some (.int .i64 (y : Int)) := by rw [List.getElem_map, ← hy] at hxq; exact hxq
      have HY := Lib.hid hy
      clear hxq hy
      by_cases hya : y = a
      · have HR : Hid ((M.rowOf a).idxOf a = q) := Lib.hid (by
          have h1 := List.Nodup.idxOf_getElem (row_nodup HOK.out (row_mem HOK.out HA.out).1) q hqr
          rw [← HY.out, hya] at h1
          exact h1)
        subst hya
        go_wp2_with fail
        go_ret
        exact ⟨by rw [HR.out]; rfl, HT4.out⟩
      · have d1 : ((y : Int) == (a : Int)) = false := by simp; omega
        have d2 : (y == a) = false := by simp; omega
        have d3 : decide (y = a) = false := by simp; omega
        have HN2 : Hid (a ∉ (M.rowOf a).take (q + 1)) := Lib.hid (by rw [List.take_succ_eq_append_getElem hqr, List.mem_append]; rintro (h | h); exact HN.out h; exact hya (by rw [HY.out]; exact (List.mem_singleton.1 h).symm))
        go_wp2_with fail
        go_roundw
        case rel => exact ⟨q + 1, by omega, by go_num, HN2, by first | rfl | trivial⟩
        case measure => simp [intOf]; omega
    · exfalso
      have h3 := HN.out
      rw [show q = (M.rowOf a).length by have := HL.out; omega, List.take_length] at h3
      exact h3 (row_mem HOK.out HA.out).2

end Go.Proofs.Ytbbfnbnjaiimgaa
