/-
  The document's functions at a forest that has nothing; numbers that are no ids; rows of numbers.
-/
import Derived.IntWalk
import Derived.Deep.RegionLaw
import Derived.Test.YtlhkajlkapoabaaZLL1
import Derived.Test.YtlhkajlkapoabaaAP
namespace Go.Proofs.Ytlhkajlkapoabaa
open Go.RowKit Go.Maps
set_option linter.unusedVariables false

theorem badId_any (i : Int) (w : World) : Calls Try.prog 32 #[.int .i64 i] w fun e w' => e = .returned (.bool (!isIdI i)) ∧ w' = w := by
  by_cases h1 : 1 ≤ i
  · by_cases h2 : i ≤ 2147483647
    · rw [isIdI_yes ⟨h1, h2⟩]
      go_enter Try.func32, Try.ntmps32
      go_wp2
      go_ret
      refine ⟨?_, rfl⟩
      show Ending.returned (.bool (decide (i < 1) || decide (2147483647 < i))) = _
      rw [decide_eq_false (by omega), decide_eq_false (by omega)]; rfl
    · rw [isIdI_no (fun h => h2 h.2)]
      go_enter Try.func32, Try.ntmps32
      go_wp2
      go_ret
      exact ⟨rfl, rfl⟩
  · rw [isIdI_no (fun h => h1 h.1)]
    have h3 : i < 1 := by omega
    go_enter Try.func32, Try.ntmps32
    go_wp2
    go_ret
    exact ⟨rfl, rfl⟩

set_option maxRecDepth 100000 in
set_option maxHeartbeats 2000000 in
theorem has_any (v : Value) (V : List Int) (w : World) (B : Nat) (hv : RI w B v V) (n : Int) :
    Calls Try.prog 28 #[v, .int .i64 n] w fun e w' => e = .returned (.bool (decide (n ∈ V))) ∧ w' = w := by
  obtain ⟨A, c, rfl, hc1, hc2, hc3, HC⟩ := hv.open_
  clear hv
  obtain ⟨l, hl⟩ : ∃ l, l = V.length := ⟨_, rfl⟩
  obtain ⟨b, hb⟩ : ∃ b, b = decide (n ∈ V) := ⟨_, rfl⟩
  rw [← hl] at hc1 hc3 ⊢
  rw [← hb]
  have HL := Lib.hid hl
  have HB := Lib.hid hb
  clear hl hb
  go_enter Try.func28, Try.ntmps28
  go_wp2_with fail
  go_loopw [5] (fun i wr => ∃ k : Nat, k ≤ l ∧ i = .int .i64 k ∧ Hid (n ∉ V.take k) ∧ wr = w) (fun i _ => l - (intOf i).toNat)
  case atStart => exact ⟨0, Nat.zero_le _, rfl, Lib.hid (by simp), rfl⟩
  case round =>
    obtain ⟨k, hk, rfl, HN, hwr⟩ := hrel
    rw [hwr]
    clear hwr
    by_cases hkl : k < l
    · have hkv : k < V.length := by have := HL.out; omega
      obtain ⟨b1, o1, rfl, hb1, hx⟩ := HC.out k hkv
      obtain ⟨y, hy⟩ : ∃ y, y = V[k] := ⟨_, rfl⟩
      have HT := Lib.hid (List.take_succ_eq_append_getElem hkv)
      have HM := Lib.hid (List.getElem_mem hkv)
      rw [← hy] at hx HT HM
      have hx := cellI hx
      clear hy
      by_cases hyn : y = n
      · have HRES : Hid (b = true) := Lib.hid (by rw [HB.out]; exact decide_eq_true (hyn ▸ HM.out))
        subst hyn
        go_wp2_with fail
        go_ret
        exact ⟨by rw [HRES.out]; rfl, rfl⟩
      · have d1 : (y == n) = false := by simpa using hyn
        have HN2 : Hid (n ∉ V.take (k + 1)) := Lib.hid (by rw [HT.out, List.mem_append]; rintro (h | h); exact HN.out h; exact hyn (List.mem_singleton.1 h).symm)
        go_wp2_with fail
        go_roundw
        case rel => exact ⟨k + 1, by omega, by go_num, HN2, by first | rfl | trivial⟩
        case measure => simp [intOf]; omega
    · obtain rfl : k = l := by omega
      have HRES : Hid (b = false) := Lib.hid (by
        rw [HB.out]
        have := HN.out
        rw [List.take_of_length_le (by have := HL.out; omega)] at this
        exact decide_eq_false this)
      go_wp2_with fail
      go_ret
      exact ⟨by rw [HRES.out]; rfl, rfl⟩

theorem ret_cell_tmp2 {fn : Func} {p u : Tmp} {ty : TypeId} {a : Act} {w : World} {post : Ending → World → Prop} {A : Addr} {v x : Value} (hr : fn.results = #[.cell p ty, .tmp u]) (hp : a.tmps.getD p undef = .pointer (some A)) (hu : a.tmps.getD u undef = x)
    (hl : (loadVar ty A).run Try.prog w = .ok v w) (hd : a.defers = []) (h : post (.returned (.tuple #[v, x])) w) : bodyPost Try.prog fn post .ret a w := by
  refine bodyPost_ret (v := .tuple #[v, x]) ?_ hd h
  have hp' : a.tmps[p]?.getD undef = .pointer (some A) := by simpa using hp
  have hu' : a.tmps[u]?.getD undef = x := by simpa using hu
  simp only [results, hr]
  simp [hp', hu', asAddr, hl]

def nilV : Value := .slice none 0 0

def emptyD : Value := .agg #[.slice none 0 0, .slice none 0 0, .slice none 0 0, .slice none 0 0]

/-- A struct of four slices. -/
def Four (x : Value) : Prop := ∃ A a a' C c c' D d d' E e e', x = .agg #[.slice A a a', .slice C c c', .slice D d d', .slice E e e']

theorem four_empty : Four emptyD := ⟨_, _, _, _, _, _, _, _, _, _, _, _, rfl⟩

set_option maxRecDepth 100000 in
set_option maxHeartbeats 2000000 in
theorem edge05_nil (w : World) (x : Int) : Calls Try.prog 26 #[.agg #[.slice none 0 0, .slice none 0 0, .slice none 0 0], .int .i64 x] w fun e w' => e = .returned (.tuple #[.agg #[.int .i64 0, .int .i64 0, .int .i64 0, .int .i64 0], .bool false]) ∧ Below w.heap.size w w' := by
  go_enter Try.func26, Try.ntmps26
  go_wp2
  have hbw : Below w.heap.size w ((w.alloc (.cells #[.slice none 0 0, .slice none 0 0, .slice none 0 0] 75)).alloc (.cells #[.int .i64 0, .int .i64 0, .int .i64 0, .int .i64 0] 33)) := ((Below.refl _ _).alloc (Nat.le_refl _) _).alloc (by simp) _
  have HBW := Lib.hid hbw
  clear hbw
  go_loop [6] (fun i => i = .int .i64 0) (fun i => 0)
  case atStart => rfl
  case round =>
    subst hrel
    go_wp2
    refine ret_cell_tmp2 (p := 4) (u := 5) (v := .agg #[.int .i64 0, .int .i64 0, .int .i64 0, .int .i64 0]) rfl rfl rfl (by go_simp) rfl ⟨rfl, HBW.out⟩

set_option maxRecDepth 100000 in
set_option maxHeartbeats 2000000 in
theorem refEdge_nil (w : World) (x : Int) : Calls Try.prog 13 #[emptyD, .int .i64 x] w fun e w' => e = .returned (.tuple #[.agg #[.int .i64 0, .int .i64 0, .int .i64 0, .int .i64 0], .bool false]) ∧ Below w.heap.size w w' := by
  obtain ⟨W, hW⟩ : ∃ W, W = (w.alloc (.cells #[.slice none 0 0, .slice none 0 0, .slice none 0 0, .slice none 0 0] 31)).alloc (.cells #[.int .i64 0, .int .i64 0, .int .i64 0, .int .i64 0] 33) := ⟨_, rfl⟩
  obtain ⟨p, hp⟩ : ∃ p, p = w.heap.size := ⟨_, rfl⟩
  have hbW : Below w.heap.size w W := by rw [hW]; exact ((Below.refl _ _).alloc (Nat.le_refl _) _).alloc (by simp) _
  have kq : Blk W (p + 1) 33 #[.int .i64 0, .int .i64 0, .int .i64 0, .int .i64 0] := by
    rw [hW, hp]
    have := Blk.new (w.alloc (.cells #[.slice none 0 0, .slice none 0 0, .slice none 0 0, .slice none 0 0] 31)) 33 #[.int .i64 0, .int .i64 0, .int .i64 0, .int .i64 0]
    simpa using this
  have kp : Blk W p 31 #[.slice none 0 0, .slice none 0 0, .slice none 0 0, .slice none 0 0] := by rw [hW, hp]; exact (Blk.new _ _ _).alloc _
  have HW := Lib.hid hW
  have HP := Lib.hid hp
  have HB := Lib.hid hbW
  have KQ := Lib.hid kq
  have c1 : W.cell? ⟨p, 1, none⟩ = some (.slice none 0 0) := kp.cell 1
  clear hW hp hbW kq kp
  change Calls Try.prog _ #[.agg #[.slice none 0 0, .slice none 0 0, .slice none 0 0, .slice none 0 0], .int .i64 x] w _
  go_enter Try.func13, Try.ntmps13
  go_upto_region 1 with fail
  rw [← HW.out]
  try simp only [← HP.out]
  go_wp2_with fail
  refine (edge05_nil W x).mono ?_
  rintro e w1 ⟨rfl, b1⟩
  have k1 := KQ.out.below b1 KQ.out.lt
  have d0 := k1.cell 0
  have d1 := k1.cell 1
  have d2 := k1.cell 2
  have d3 := k1.cell 3
  have f0 := k1.frozen 0
  have f1 := k1.frozen 1
  have f2 := k1.frozen 2
  have f3 := k1.frozen 3
  have HPL : Hid (w.heap.size ≤ p + 1) := Lib.hid (by have := HP.out; omega)
  have B1 := Lib.hid (HB.out.trans (b1.mono HB.out.size))
  clear k1 b1 c1
  go_wp2_with fail
  refine ret_cell_tmp2 (p := 4) (u := 5) (v := .agg #[.int .i64 0, .int .i64 0, .int .i64 0, .int .i64 0]) rfl rfl rfl (by go_simp) rfl ⟨rfl, ?_⟩
  first
    | exact B1.out
    | exact (((B1.out.setCell (p := ⟨p + 1, 0, none⟩) HPL.out _).setCell (p := ⟨p + 1, 1, none⟩) HPL.out _).setCell (p := ⟨p + 1, 2, none⟩) HPL.out _).setCell (p := ⟨p + 1, 3, none⟩) HPL.out _

end Go.Proofs.Ytlhkajlkapoabaa

/-
  Appends of a number to a row of numbers: what the program's tables say.
-/
namespace Go.Proofs.Ytlhkajlkapoabaa
open Go.RowKit Go.Maps
set_option linter.unusedVariables false

theorem etI : ElemT 26 3 1 8 := elemT_of (z := .int .i64 0) Try.underlying26 (by kernel_rfl) (by kernel_rfl) (by decide) (by decide) (by decide)

theorem oneI (w : World) (y : Int) (t : TypeId) : ∀ (j : Nat) u, (encI y)[j]? = some u → (w.alloc (.cells #[.int .i64 y] t)).cell? ⟨w.heap.size, j, none⟩ = some u := by
  intro j u hu; rw [(Blk.new w _ _).cell j]; simpa [encI] using hu

theorem base1 {w : World} {B : Nat} (hz : B ≤ w.heap.size) (o : Obj) : B ≤ (w.alloc o).heap.size := by simp; omega


end Go.Proofs.Ytlhkajlkapoabaa

/-
  The document's AddV, DelV, Link, Cut at a forest that has nothing.
-/
namespace Go.Proofs.Ytlhkajlkapoabaa
open Go.RowKit Go.Maps
set_option linter.unusedVariables false

set_option maxRecDepth 100000 in
set_option maxHeartbeats 2000000 in
theorem with_nil (w : World) (x : Int) : Calls Try.prog 33 #[.slice none 0 0, .int .i64 x] w fun e w' => (∃ A n c, e = .returned (.slice A n c)) ∧ Below w.heap.size w w' := by
  go_enter Try.func33, Try.ntmps33
  go_wp2_with fail
  have hO : OK encI 1 3 (w.alloc (.cells #[] 3)) w.heap.size (.slice (some ⟨w.heap.size, 0, none⟩) 0 0) [] := ⟨by simp, by simp, .inr ⟨w.heap.size, 0, #[], rfl, Nat.le_refl _, heap_alloc_new w _, by simp, by simp [maxLen], by simp, by simp⟩⟩
  have HO := Lib.hid hO
  have HB := Lib.hid ((Below.refl w.heap.size w).alloc (Nat.le_refl _) (Obj.cells #[] 3))
  obtain ⟨p, hp⟩ : ∃ p, p = w.heap.size := ⟨_, rfl⟩
  obtain ⟨W, hW⟩ : ∃ W, W = w.alloc (.cells #[] 3) := ⟨_, rfl⟩
  rw [← hW] at HO HB
  have HP := Lib.hid hp
  have HW := Lib.hid hW
  clear hp hW hO
  try rw [← HW.out]
  try simp only [← HP.out]
  go_loopw [5, 6, 7] (fun t d i wr => t = .slice (some ⟨p, 0, none⟩) 0 0 ∧ d = .bool false ∧ i = .int .i64 0 ∧ wr = W) (fun _ _ i wr => 0)
  case atStart => exact ⟨rfl, rfl, rfl, rfl⟩
  case round =>
    obtain ⟨rfl, rfl, rfl, hwr⟩ := hrel
    rw [hwr]
    clear hwr
    go_wp2_with (at_builtin; refine wpList_appE etI encI_len encI_one (y := x) rfl (.tmp 38) (.tmp 40) rfl rfl ((show OK encI 1 3 W w.heap.size (.slice (some ⟨p, 0, none⟩) 0 0) [] from HP.out ▸ HO.out).alloc _) W.heap.size rfl (oneI W x _) (by simp) (base1 HB.out.size _) ?_; intro v5 w5 ho5 hg5 hb5; have HB5 := Lib.hid ((HB.out.alloc HB.out.size _).grown hg5 (base1 HB.out.size _) (fun q hq => (HO.out.lt q (by rw [← HP.out]; exact hq)).1)); obtain ⟨A5, c5, hv5, _, _, _, _⟩ := (ho5.rk encI_len (Nat.le_refl _)).open_; subst hv5; clear ho5 hg5 hb5)
    go_ret
    exact ⟨⟨_, _, _, rfl⟩, HB5.out⟩

end Go.Proofs.Ytlhkajlkapoabaa

/-
  The document's AddV, DelV, Link, Cut at a forest that has nothing.
-/
namespace Go.Proofs.Ytlhkajlkapoabaa
open Go.RowKit Go.Maps
set_option linter.unusedVariables false

def z4 : Obj := Obj.cells #[.slice none 0 0, .slice none 0 0, .slice none 0 0, .slice none 0 0] 31

/-- The box of an empty forest at p, the result's cell behind it. -/
structure Box2D (w W : World) (p : Nat) : Prop where
  b0 : Blk W p 31 #[.slice none 0 0, .slice none 0 0, .slice none 0 0, .slice none 0 0]
  b1 : Blk W (p + 1) 31 #[.slice none 0 0, .slice none 0 0, .slice none 0 0, .slice none 0 0]
  below : Below w.heap.size w W
  lo : w.heap.size ≤ p

theorem box2D (w : World) : Box2D w ((w.alloc z4).alloc z4) w.heap.size := by
  refine ⟨(Blk.new _ _ _).alloc _, ?_, ((Below.refl _ _).alloc (Nat.le_refl _) _).alloc (by simp) _, Nat.le_refl _⟩
  have := Blk.new (w.alloc z4) 31 #[.slice none 0 0, .slice none 0 0, .slice none 0 0, .slice none 0 0]
  simpa [z4] using this

theorem Box2D.after {w W W' : World} {p : Nat} (h : Box2D w W p) (hb : Below W.heap.size W W') : Box2D w W' p := ⟨h.b0.below hb h.b0.lt, h.b1.below hb h.b1.lt, h.below.trans (hb.mono h.below.size), h.lo⟩

theorem below4 {w W : World} {q : Nat} (h : Below w.heap.size w W) (hq : w.heap.size ≤ q) (a b c d : Value) : Below w.heap.size w ((((W.setCell ⟨q, 0, none⟩ a).setCell ⟨q, 1, none⟩ b).setCell ⟨q, 2, none⟩ c).setCell ⟨q, 3, none⟩ d) :=
  (((h.setCell (p := ⟨q, 0, none⟩) hq _).setCell (p := ⟨q, 1, none⟩) hq _).setCell (p := ⟨q, 2, none⟩) hq _).setCell (p := ⟨q, 3, none⟩) hq _

theorem below2 {w W : World} {q : Nat} (h : Below w.heap.size w W) (hq : w.heap.size ≤ q) (a b : Value) : Below w.heap.size w ((W.setCell ⟨q, 0, none⟩ a).setCell ⟨q, 1, none⟩ b) :=
  (h.setCell (p := ⟨q, 0, none⟩) hq _).setCell (p := ⟨q, 1, none⟩) hq _

set_option maxRecDepth 100000 in
set_option maxHeartbeats 4000000 in
theorem refAddV_nil (w : World) (v : Int) : Calls Try.prog 19 #[emptyD, .int .i64 v] w fun e w' => (∃ x n, e = .returned (.tuple #[x, .int .i64 n]) ∧ Four x) ∧ Below w.heap.size w w' := by
  obtain ⟨W, hW⟩ : ∃ W, W = (w.alloc z4).alloc z4 := ⟨_, rfl⟩
  obtain ⟨q, hq⟩ : ∃ q, q = w.heap.size := ⟨_, rfl⟩
  have hbx := box2D w
  rw [← hW, ← hq] at hbx
  unfold z4 at hW
  have HW := Lib.hid hW
  have HQ := Lib.hid hq
  have BX := Lib.hid (show Box2D w W q from hq ▸ hbx)
  clear hW hq hbx
  change Calls Try.prog _ #[.agg #[.slice none 0 0, .slice none 0 0, .slice none 0 0, .slice none 0 0], .int .i64 v] w _
  go_enter Try.func19, Try.ntmps19
  go_upto_region 1 with fail
  rw [← HW.out]
  try simp only [← HQ.out]
  have c0 := BX.out.b0.cell 0
  have c1 := BX.out.b0.cell 1
  have c2 := BX.out.b0.cell 2
  have c3 := BX.out.b0.cell 3
  have cr0 := BX.out.b1.cell 0
  have cf0 := BX.out.b1.frozen 0
  have cr1 := BX.out.b1.cell 1
  have cf1 := BX.out.b1.frozen 1
  have cr2 := BX.out.b1.cell 2
  have cf2 := BX.out.b1.frozen 2
  have cr3 := BX.out.b1.cell 3
  have cf3 := BX.out.b1.frozen 3
  go_wp2_with fail
  refine (badId_any v W).mono ?_
  rintro e w1 ⟨rfl, hw1⟩
  subst hw1
  by_cases h0 : okId v
  · rw [isIdI_yes h0]
    clear h0
    go_wp2_with fail
    refine (has_any _ [] w1 w1.heap.size (RK.nil _ _) v).mono ?_
    rw [decide_eq_false (by simp)]
    rintro e w2 ⟨rfl, hw2⟩
    subst hw2
    go_wp2_with fail
    go_region_law (first | (go_simp; go_at_call 33; refine (with_nil _ v).mono ?_; rintro e w3 ⟨⟨A3, n3, c3, rfl⟩, b3⟩; have BX3 := Lib.hid (BX.out.after ((Below.refl _ w2).drew.trans b3)); have d0 := BX3.out.b0.cell 0; have d1 := BX3.out.b0.cell 1; have d2 := BX3.out.b0.cell 2; have d3 := BX3.out.b0.cell 3; have dr0 := BX3.out.b1.cell 0; have df0 := BX3.out.b1.frozen 0; have dr1 := BX3.out.b1.cell 1; have df1 := BX3.out.b1.frozen 1; have dr2 := BX3.out.b1.cell 2; have df2 := BX3.out.b1.frozen 2; have dr3 := BX3.out.b1.cell 3; have df3 := BX3.out.b1.frozen 3; have g0 := BX3.out.b0.frozen 0; have g1 := BX3.out.b0.frozen 1; clear b3))
    all_goals (
      go_wp2_with fail
      refine ret_cell_tmp2 (p := 4) (u := 5) (v := .agg #[.slice A3 n3 c3, .slice none 0 0, .slice none 0 0, .slice none 0 0]) rfl rfl rfl (by go_simp) rfl ⟨⟨_, _, rfl, ⟨_, _, _, _, _, _, _, _, _, _, _, _, rfl⟩⟩, ?_⟩
      exact below4 (below2 BX3.out.below BX3.out.lo _ _) (by have := BX3.out.lo; omega) _ _ _ _)
  · rw [isIdI_no h0]
    go_wp2_with fail
    refine ret_cell_tmp2 (p := 4) (u := 5) (v := .agg #[.slice none 0 0, .slice none 0 0, .slice none 0 0, .slice none 0 0]) rfl rfl rfl (by go_simp) rfl ⟨⟨_, _, rfl, four_empty⟩, ?_⟩
    first | exact BX.out.below | exact below4 BX.out.below (by have := BX.out.lo; omega) _ _ _ _

set_option maxRecDepth 100000 in
set_option maxHeartbeats 4000000 in
theorem refDelV_nil (w : World) (v : Int) : Calls Try.prog 20 #[emptyD, .int .i64 v] w fun e w' => (∃ x n, e = .returned (.tuple #[x, .int .i64 n]) ∧ Four x) ∧ Below w.heap.size w w' := by
  obtain ⟨W, hW⟩ : ∃ W, W = (w.alloc z4).alloc z4 := ⟨_, rfl⟩
  obtain ⟨q, hq⟩ : ∃ q, q = w.heap.size := ⟨_, rfl⟩
  have hbx := box2D w
  rw [← hW, ← hq] at hbx
  unfold z4 at hW
  have HW := Lib.hid hW
  have HQ := Lib.hid hq
  have BX := Lib.hid (show Box2D w W q from hq ▸ hbx)
  clear hW hq hbx
  change Calls Try.prog _ #[.agg #[.slice none 0 0, .slice none 0 0, .slice none 0 0, .slice none 0 0], .int .i64 v] w _
  go_enter Try.func20, Try.ntmps20
  go_upto_region 1 with fail
  rw [← HW.out]
  try simp only [← HQ.out]
  have c0 := BX.out.b0.cell 0
  have c1 := BX.out.b0.cell 1
  have c2 := BX.out.b0.cell 2
  have c3 := BX.out.b0.cell 3
  have cr0 := BX.out.b1.cell 0
  have cf0 := BX.out.b1.frozen 0
  have cr1 := BX.out.b1.cell 1
  have cf1 := BX.out.b1.frozen 1
  have cr2 := BX.out.b1.cell 2
  have cf2 := BX.out.b1.frozen 2
  have cr3 := BX.out.b1.cell 3
  have cf3 := BX.out.b1.frozen 3
  go_wp2_with fail
  refine (badId_any v W).mono ?_
  rintro e wx ⟨rfl, hwx⟩
  rw [hwx]
  clear hwx wx
  by_cases h0 : okId v
  · rw [isIdI_yes h0]
    clear h0
    go_wp2_with fail
    refine (has_any _ [] W W.heap.size (RK.nil _ _) v).mono ?_
    rw [decide_eq_false (by simp)]
    rintro e wx ⟨rfl, hwx⟩
    rw [hwx]
    clear hwx wx
    go_wp2_with fail
    refine ret_cell_tmp2 (p := 4) (u := 5) (v := .agg #[.slice none 0 0, .slice none 0 0, .slice none 0 0, .slice none 0 0]) rfl rfl rfl (by go_simp) rfl ⟨⟨_, _, rfl, four_empty⟩, ?_⟩
    first | exact BX.out.below | exact below4 BX.out.below (by have := BX.out.lo; omega) _ _ _ _
  · rw [isIdI_no h0]
    go_wp2_with fail
    refine ret_cell_tmp2 (p := 4) (u := 5) (v := .agg #[.slice none 0 0, .slice none 0 0, .slice none 0 0, .slice none 0 0]) rfl rfl rfl (by go_simp) rfl ⟨⟨_, _, rfl, four_empty⟩, ?_⟩
    first | exact BX.out.below | exact below4 BX.out.below (by have := BX.out.lo; omega) _ _ _ _

theorem box3D (w : World) : Box2D w (((w.alloc z4).alloc z4)) w.heap.size := box2D w

set_option maxRecDepth 100000 in
set_option maxHeartbeats 4000000 in
theorem refCut_nil (w : World) (v : Int) : Calls Try.prog 22 #[emptyD, .int .i64 v] w fun e w' => (∃ x n, e = .returned (.tuple #[x, .int .i64 n]) ∧ Four x) ∧ Below w.heap.size w w' := by
  obtain ⟨W, hW⟩ : ∃ W, W = (w.alloc z4).alloc z4 := ⟨_, rfl⟩
  obtain ⟨q, hq⟩ : ∃ q, q = w.heap.size := ⟨_, rfl⟩
  have hbx := box2D w
  rw [← hW, ← hq] at hbx
  unfold z4 at hW
  have HW := Lib.hid hW
  have HQ := Lib.hid hq
  have BX := Lib.hid (show Box2D w W q from hq ▸ hbx)
  clear hW hq hbx
  change Calls Try.prog _ #[.agg #[.slice none 0 0, .slice none 0 0, .slice none 0 0, .slice none 0 0], .int .i64 v] w _
  go_enter Try.func22, Try.ntmps22
  go_upto_region 1 with fail
  rw [← HW.out]
  try simp only [← HQ.out]
  have c0 := BX.out.b0.cell 0
  have c1 := BX.out.b0.cell 1
  have c2 := BX.out.b0.cell 2
  have c3 := BX.out.b0.cell 3
  have cr0 := BX.out.b1.cell 0
  have cf0 := BX.out.b1.frozen 0
  have cr1 := BX.out.b1.cell 1
  have cf1 := BX.out.b1.frozen 1
  have cr2 := BX.out.b1.cell 2
  have cf2 := BX.out.b1.frozen 2
  have cr3 := BX.out.b1.cell 3
  have cf3 := BX.out.b1.frozen 3
  go_wp2_with fail
  refine (badId_any v W).mono ?_
  rintro e wx ⟨rfl, hwx⟩
  rw [hwx]
  clear hwx wx
  by_cases h0 : okId v
  · rw [isIdI_yes h0]
    clear h0
    go_wp2_with fail
    refine (refEdge_nil W v).mono ?_
    rintro e w3 ⟨rfl, b3⟩
    have BX3 := Lib.hid ((BX.out.after b3).after ((Below.refl w3.heap.size w3).alloc (Nat.le_refl _) (Obj.cells #[.int .i64 0, .int .i64 0, .int .i64 0, .int .i64 0] 33)))
    have d0 := BX3.out.b0.cell 0
    have d1 := BX3.out.b0.cell 1
    have d2 := BX3.out.b0.cell 2
    have d3 := BX3.out.b0.cell 3
    have dr0 := BX3.out.b1.cell 0
    have df0 := BX3.out.b1.frozen 0
    have dr1 := BX3.out.b1.cell 1
    have df1 := BX3.out.b1.frozen 1
    have dr2 := BX3.out.b1.cell 2
    have df2 := BX3.out.b1.frozen 2
    have dr3 := BX3.out.b1.cell 3
    have df3 := BX3.out.b1.frozen 3
    clear c0 cr0 cf0 c1 cr1 cf1 c2 cr2 cf2 c3 cr3 cf3
    clear b3
    go_upto_region 4 with fail
    obtain ⟨W4, hW4⟩ : ∃ W4, W4 = w3.alloc (.cells #[.int .i64 0, .int .i64 0, .int .i64 0, .int .i64 0] 33) := ⟨_, rfl⟩
    rw [← hW4] at BX3 d0 dr0 df0 d1 dr1 df1 d2 dr2 df2 d3 dr3 df3 ⊢
    clear hW4
    go_wp2_with fail
    refine ret_cell_tmp2 (p := 4) (u := 5) (v := .agg #[.slice none 0 0, .slice none 0 0, .slice none 0 0, .slice none 0 0]) rfl rfl rfl (by go_simp) rfl ⟨⟨_, _, rfl, four_empty⟩, ?_⟩
    first | exact BX3.out.below | exact below4 BX3.out.below (by have := BX3.out.lo; omega) _ _ _ _
  · rw [isIdI_no h0]
    go_wp2_with fail
    refine ret_cell_tmp2 (p := 4) (u := 5) (v := .agg #[.slice none 0 0, .slice none 0 0, .slice none 0 0, .slice none 0 0]) rfl rfl rfl (by go_simp) rfl ⟨⟨_, _, rfl, four_empty⟩, ?_⟩
    first | exact BX.out.below | exact below4 BX.out.below (by have := BX.out.lo; omega) _ _ _ _

end Go.Proofs.Ytlhkajlkapoabaa

/-
  The document's Link and Mark at a forest that has nothing.
-/
namespace Go.Proofs.Ytlhkajlkapoabaa
open Go.RowKit Go.Maps
set_option linter.unusedVariables false

/-- The boxes of an empty forest and of an edge, the result's cell behind them. -/
structure Box5 (w W : World) (p : Nat) (i u v x : Int) : Prop where
  b0 : Blk W p 31 #[.slice none 0 0, .slice none 0 0, .slice none 0 0, .slice none 0 0]
  be : Blk W (p + 1) 33 #[.int .i64 i, .int .i64 u, .int .i64 v, .int .i64 x]
  b1 : Blk W (p + 2) 31 #[.slice none 0 0, .slice none 0 0, .slice none 0 0, .slice none 0 0]
  below : Below w.heap.size w W
  lo : w.heap.size ≤ p

theorem box5 (w : World) (i u v x : Int) : Box5 w (((w.alloc z4).alloc (Obj.cells #[.int .i64 i, .int .i64 u, .int .i64 v, .int .i64 x] 33)).alloc z4) w.heap.size i u v x := by
  refine ⟨((Blk.new _ _ _).alloc _).alloc _, ?_, ?_, (((Below.refl _ _).alloc (Nat.le_refl _) _).alloc (by simp) _).alloc (by simp; omega) _, Nat.le_refl _⟩
  · have := (Blk.new (w.alloc z4) 33 #[.int .i64 i, .int .i64 u, .int .i64 v, .int .i64 x]).alloc z4
    simpa [z4] using this
  · have := Blk.new ((w.alloc z4).alloc (Obj.cells #[.int .i64 i, .int .i64 u, .int .i64 v, .int .i64 x] 33)) 31 #[.slice none 0 0, .slice none 0 0, .slice none 0 0, .slice none 0 0]
    simpa [z4] using this

theorem Box5.after {w W W' : World} {p : Nat} {i u v x : Int} (h : Box5 w W p i u v x) (hb : Below W.heap.size W W') : Box5 w W' p i u v x := ⟨h.b0.below hb h.b0.lt, h.be.below hb h.be.lt, h.b1.below hb h.b1.lt, h.below.trans (hb.mono h.below.size), h.lo⟩

set_option maxRecDepth 100000 in
set_option maxHeartbeats 4000000 in
theorem refLink_nil (w : World) (id u v x : Int) : Calls Try.prog 35 #[emptyD, .agg #[.int .i64 id, .int .i64 u, .int .i64 v, .int .i64 x]] w fun e w' => (∃ x n, e = .returned (.tuple #[x, .int .i64 n]) ∧ Four x) ∧ Below w.heap.size w w' := by
  obtain ⟨W, hW⟩ : ∃ W, W = ((w.alloc z4).alloc (Obj.cells #[.int .i64 id, .int .i64 u, .int .i64 v, .int .i64 x] 33)).alloc z4 := ⟨_, rfl⟩
  obtain ⟨q, hq⟩ : ∃ q, q = w.heap.size := ⟨_, rfl⟩
  have hbx := box5 w id u v x
  rw [← hW, ← hq] at hbx
  unfold z4 at hW
  have HW := Lib.hid hW
  have HQ := Lib.hid hq
  have BX := Lib.hid (show Box5 w W q id u v x from hq ▸ hbx)
  clear hW hq hbx
  change Calls Try.prog _ #[.agg #[.slice none 0 0, .slice none 0 0, .slice none 0 0, .slice none 0 0], .agg #[.int .i64 id, .int .i64 u, .int .i64 v, .int .i64 x]] w _
  go_enter Try.func35, Try.ntmps35
  go_upto_region 1 with fail
  rw [← HW.out]
  try simp only [← HQ.out]
  have c0 := BX.out.b0.cell 0
  have ce0 := BX.out.be.cell 0
  have cr0 := BX.out.b1.cell 0
  have cf0 := BX.out.b1.frozen 0
  have c1 := BX.out.b0.cell 1
  have ce1 := BX.out.be.cell 1
  have cr1 := BX.out.b1.cell 1
  have cf1 := BX.out.b1.frozen 1
  have c2 := BX.out.b0.cell 2
  have ce2 := BX.out.be.cell 2
  have cr2 := BX.out.b1.cell 2
  have cf2 := BX.out.b1.frozen 2
  have c3 := BX.out.b0.cell 3
  have ce3 := BX.out.be.cell 3
  have cr3 := BX.out.b1.cell 3
  have cf3 := BX.out.b1.frozen 3
  go_wp2_with fail
  refine (badId_any id W).mono ?_
  rintro e wx ⟨rfl, hwx⟩
  rw [hwx]
  clear hwx wx
  by_cases hid : okId id
  case neg =>
    rw [isIdI_no hid]
    go_wp2_with fail
    refine ret_cell_tmp2 (p := 4) (u := 5) (v := .agg #[.slice none 0 0, .slice none 0 0, .slice none 0 0, .slice none 0 0]) rfl rfl rfl (by go_simp) rfl ⟨⟨_, _, rfl, four_empty⟩, ?_⟩
    first | exact BX.out.below | exact below4 BX.out.below (by have := BX.out.lo; omega) _ _ _ _
  rw [isIdI_yes hid]
  clear hid
  go_wp2_with fail
  refine (badId_any u W).mono ?_
  rintro e wx ⟨rfl, hwx⟩
  rw [hwx]
  clear hwx wx
  by_cases hu : okId u
  case neg =>
    rw [isIdI_no hu]
    go_wp2_with fail
    refine ret_cell_tmp2 (p := 4) (u := 5) (v := .agg #[.slice none 0 0, .slice none 0 0, .slice none 0 0, .slice none 0 0]) rfl rfl rfl (by go_simp) rfl ⟨⟨_, _, rfl, four_empty⟩, ?_⟩
    first | exact BX.out.below | exact below4 BX.out.below (by have := BX.out.lo; omega) _ _ _ _
  rw [isIdI_yes hu]
  clear hu
  go_wp2_with fail
  refine (badId_any v W).mono ?_
  rintro e wx ⟨rfl, hwx⟩
  rw [hwx]
  clear hwx wx
  by_cases hv : okId v
  case neg =>
    rw [isIdI_no hv]
    go_wp2_with fail
    refine ret_cell_tmp2 (p := 4) (u := 5) (v := .agg #[.slice none 0 0, .slice none 0 0, .slice none 0 0, .slice none 0 0]) rfl rfl rfl (by go_simp) rfl ⟨⟨_, _, rfl, four_empty⟩, ?_⟩
    first | exact BX.out.below | exact below4 BX.out.below (by have := BX.out.lo; omega) _ _ _ _
  rw [isIdI_yes hv]
  clear hv
  go_wp2_with fail
  refine (refEdge_nil W id).mono ?_
  rintro e w3 ⟨rfl, b3⟩
  have BX3 := Lib.hid ((BX.out.after b3).after ((Below.refl w3.heap.size w3).alloc (Nat.le_refl _) (Obj.cells #[.int .i64 0, .int .i64 0, .int .i64 0, .int .i64 0] 33)))
  have d0 := BX3.out.b0.cell 0
  have de0 := BX3.out.be.cell 0
  have dr0 := BX3.out.b1.cell 0
  have df0 := BX3.out.b1.frozen 0
  have d1 := BX3.out.b0.cell 1
  have de1 := BX3.out.be.cell 1
  have dr1 := BX3.out.b1.cell 1
  have df1 := BX3.out.b1.frozen 1
  have d2 := BX3.out.b0.cell 2
  have de2 := BX3.out.be.cell 2
  have dr2 := BX3.out.b1.cell 2
  have df2 := BX3.out.b1.frozen 2
  have d3 := BX3.out.b0.cell 3
  have de3 := BX3.out.be.cell 3
  have dr3 := BX3.out.b1.cell 3
  have df3 := BX3.out.b1.frozen 3
  clear c0 ce0 cr0 cf0 c1 ce1 cr1 cf1 c2 ce2 cr2 cf2 c3 ce3 cr3 cf3
  clear b3
  go_upto_region 4 with fail
  obtain ⟨W4, hW4⟩ : ∃ W4, W4 = w3.alloc (.cells #[.int .i64 0, .int .i64 0, .int .i64 0, .int .i64 0] 33) := ⟨_, rfl⟩
  rw [← hW4] at BX3 d0 de0 dr0 df0 d1 de1 dr1 df1 d2 de2 dr2 df2 d3 de3 dr3 df3 ⊢
  clear hW4
  go_wp2_with fail
  refine (has_any _ [] W4 W4.heap.size (RK.nil _ _) u).mono ?_
  rw [decide_eq_false (by simp)]
  rintro e wx ⟨rfl, hwx⟩
  rw [hwx]
  clear hwx wx
  go_wp2_with fail
  refine ret_cell_tmp2 (p := 4) (u := 5) (v := .agg #[.slice none 0 0, .slice none 0 0, .slice none 0 0, .slice none 0 0]) rfl rfl rfl (by go_simp) rfl ⟨⟨_, _, rfl, four_empty⟩, ?_⟩
  first | exact BX3.out.below | exact below4 BX3.out.below (by have := BX3.out.lo; omega) _ _ _ _

set_option maxRecDepth 100000 in
set_option maxHeartbeats 4000000 in
/-- Layer 17's Link, with weights. -/
theorem refLinkW_nil (w : World) (id u v x : Int) : Calls Try.prog 21 #[emptyD, .agg #[.int .i64 id, .int .i64 u, .int .i64 v, .int .i64 x]] w fun e w' => (∃ x n, e = .returned (.tuple #[x, .int .i64 n]) ∧ Four x) ∧ Below w.heap.size w w' := by
  obtain ⟨W, hW⟩ : ∃ W, W = ((w.alloc z4).alloc (Obj.cells #[.int .i64 id, .int .i64 u, .int .i64 v, .int .i64 x] 33)).alloc z4 := ⟨_, rfl⟩
  obtain ⟨q, hq⟩ : ∃ q, q = w.heap.size := ⟨_, rfl⟩
  have hbx := box5 w id u v x
  rw [← hW, ← hq] at hbx
  unfold z4 at hW
  have HW := Lib.hid hW
  have HQ := Lib.hid hq
  have BX := Lib.hid (show Box5 w W q id u v x from hq ▸ hbx)
  clear hW hq hbx
  change Calls Try.prog _ #[.agg #[.slice none 0 0, .slice none 0 0, .slice none 0 0, .slice none 0 0], .agg #[.int .i64 id, .int .i64 u, .int .i64 v, .int .i64 x]] w _
  go_enter Try.func21, Try.ntmps21
  go_upto_region 1 with fail
  rw [← HW.out]
  try simp only [← HQ.out]
  have c0 := BX.out.b0.cell 0
  have ce0 := BX.out.be.cell 0
  have cr0 := BX.out.b1.cell 0
  have cf0 := BX.out.b1.frozen 0
  have c1 := BX.out.b0.cell 1
  have ce1 := BX.out.be.cell 1
  have cr1 := BX.out.b1.cell 1
  have cf1 := BX.out.b1.frozen 1
  have c2 := BX.out.b0.cell 2
  have ce2 := BX.out.be.cell 2
  have cr2 := BX.out.b1.cell 2
  have cf2 := BX.out.b1.frozen 2
  have c3 := BX.out.b0.cell 3
  have ce3 := BX.out.be.cell 3
  have cr3 := BX.out.b1.cell 3
  have cf3 := BX.out.b1.frozen 3
  go_wp2_with fail
  refine (badId_any id W).mono ?_
  rintro e wx ⟨rfl, hwx⟩
  rw [hwx]
  clear hwx wx
  by_cases hid : okId id
  case neg =>
    rw [isIdI_no hid]
    go_wp2_with fail
    refine ret_cell_tmp2 (p := 4) (u := 5) (v := .agg #[.slice none 0 0, .slice none 0 0, .slice none 0 0, .slice none 0 0]) rfl rfl rfl (by go_simp) rfl ⟨⟨_, _, rfl, four_empty⟩, ?_⟩
    first | exact BX.out.below | exact below4 BX.out.below (by have := BX.out.lo; omega) _ _ _ _
  rw [isIdI_yes hid]
  clear hid
  go_wp2_with fail
  refine (badId_any u W).mono ?_
  rintro e wx ⟨rfl, hwx⟩
  rw [hwx]
  clear hwx wx
  by_cases hu : okId u
  case neg =>
    rw [isIdI_no hu]
    go_wp2_with fail
    refine ret_cell_tmp2 (p := 4) (u := 5) (v := .agg #[.slice none 0 0, .slice none 0 0, .slice none 0 0, .slice none 0 0]) rfl rfl rfl (by go_simp) rfl ⟨⟨_, _, rfl, four_empty⟩, ?_⟩
    first | exact BX.out.below | exact below4 BX.out.below (by have := BX.out.lo; omega) _ _ _ _
  rw [isIdI_yes hu]
  clear hu
  go_wp2_with fail
  refine (badId_any v W).mono ?_
  rintro e wx ⟨rfl, hwx⟩
  rw [hwx]
  clear hwx wx
  by_cases hv : okId v
  case neg =>
    rw [isIdI_no hv]
    go_wp2_with fail
    refine ret_cell_tmp2 (p := 4) (u := 5) (v := .agg #[.slice none 0 0, .slice none 0 0, .slice none 0 0, .slice none 0 0]) rfl rfl rfl (by go_simp) rfl ⟨⟨_, _, rfl, four_empty⟩, ?_⟩
    first | exact BX.out.below | exact below4 BX.out.below (by have := BX.out.lo; omega) _ _ _ _
  rw [isIdI_yes hv]
  clear hv
  by_cases hx : x < 0
  case pos =>
    have hd : decide (x < 0) = true := by simp; omega
    go_wp2_with fail
    refine ret_cell_tmp2 (p := 4) (u := 5) (v := .agg #[.slice none 0 0, .slice none 0 0, .slice none 0 0, .slice none 0 0]) rfl rfl rfl (by go_simp) rfl ⟨⟨_, _, rfl, four_empty⟩, ?_⟩
    first | exact BX.out.below | exact below4 BX.out.below (by have := BX.out.lo; omega) _ _ _ _
  have hd : decide (x < 0) = false := by simp; omega
  by_cases hy : 1099511627776 < x
  case pos =>
    have hd : decide (x > 1099511627776) = true := by simp; omega
    go_wp2_with fail
    refine ret_cell_tmp2 (p := 4) (u := 5) (v := .agg #[.slice none 0 0, .slice none 0 0, .slice none 0 0, .slice none 0 0]) rfl rfl rfl (by go_simp) rfl ⟨⟨_, _, rfl, four_empty⟩, ?_⟩
    first | exact BX.out.below | exact below4 BX.out.below (by have := BX.out.lo; omega) _ _ _ _
  have hd2 : decide (x > 1099511627776) = false := by simp; omega
  go_wp2_with fail
  refine (refLink_nil W id u v x).mono ?_
  rintro e w3 ⟨⟨y, n, rfl, A0, a0, b0, A1, a1, b1, A2, a2, b2, A3, a3, b3, rfl⟩, t3⟩
  have BX3 := Lib.hid (BX.out.after t3)
  clear t3 c0 ce0 cr0 cf0 c1 ce1 cr1 cf1 c2 ce2 cr2 cf2 c3 ce3 cr3 cf3
  have dr0 := BX3.out.b1.cell 0
  have df0 := BX3.out.b1.frozen 0
  have dr1 := BX3.out.b1.cell 1
  have df1 := BX3.out.b1.frozen 1
  have dr2 := BX3.out.b1.cell 2
  have df2 := BX3.out.b1.frozen 2
  have dr3 := BX3.out.b1.cell 3
  have df3 := BX3.out.b1.frozen 3
  go_wp2_with fail
  refine ret_cell_tmp2 (p := 4) (u := 5) (v := .agg #[.slice A0 a0 b0, .slice A1 a1 b1, .slice A2 a2 b2, .slice A3 a3 b3]) rfl rfl rfl (by go_simp) rfl ⟨⟨_, _, rfl, ⟨_, _, _, _, _, _, _, _, _, _, _, _, rfl⟩⟩, ?_⟩
  first | exact BX3.out.below | exact below4 BX3.out.below (by have := BX3.out.lo; omega) _ _ _ _

end Go.Proofs.Ytlhkajlkapoabaa
