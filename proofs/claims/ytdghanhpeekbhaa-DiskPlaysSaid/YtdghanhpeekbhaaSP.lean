/-
  Steps of a drawn region by its slots: guarded ones, and what single operations give.
-/
import Derived.Test.YtdghanhpeekbhaaG11
import Derived.Test.YtdghanhpeekbhaaD1
import Derived.Shelf.Abstract
import Derived.WalkLawsBesides
namespace Go.Proofs.Ytdghanhpeekbhaa
open Go.RowKit Go.Shelf
set_option linter.unusedVariables false

section
variable {P : Program} {ops : Array Oper} {Q : Exit → Act → World → Prop}
theorem bool_at {t : Array Value} {k : Nat} {b : Bool} (h : t.getD k undef = .bool b) : t[k]? = some (.bool b) := by
  rw [Array.getD_eq_getD_getElem?] at h
  cases h2 : t[k]? with
  | none => rw [h2] at h; cases h
  | some x => rw [h2] at h; exact congrArg some h
theorem yields {a : Act} {oj : Oper} {j t : Nat} {b : Bool} (hoj : ops[j]? = some oj) (ht : oj.dst = some t) (hv : a.tmps.getD t undef = .bool b) : yielded ops a.tmps j = some b := by
  unfold yielded
  rw [hoj]
  simp only [Option.bind_some, ht, bool_at hv]
theorem wanted_of {a : Act} {o oj : Oper} {j t : Nat} {b : Bool} (hg : o.guard = some (j, b)) (hoj : ops[j]? = some oj) (ht : oj.dst = some t) (hv : a.tmps.getD t undef = .bool b) : Region.wanted o (yielded ops a.tmps) = true := by
  unfold Region.wanted
  rw [hg]
  simp only [yields hoj ht hv, beq_self_eq_true]
theorem unwanted_of {a : Act} {o oj : Oper} {j t : Nat} {b c : Bool} (hg : o.guard = some (j, b)) (hoj : ops[j]? = some oj) (ht : oj.dst = some t) (hv : a.tmps.getD t undef = .bool c) (hne : c ≠ b) : Region.wanted o (yielded ops a.tmps) = false := by
  unfold Region.wanted
  rw [hg]
  simp only [yields hoj ht hv]
  simpa using hne
variable {S : Nat → Value → World → Prop} {I : Array Bool → World → Prop} {a0 a : Act} {L : Array Bool} {w w' : World}
theorem Slots.valG (h : Slots ops S I a0 L a w) {i : Nat} {o : Oper} (ho : ops[i]? = some o) (hw : Region.wanted o (yielded ops a.tmps) = true) {v : Value} (hrun : (execOp a.eval o).run P w = .ok (.value v) w) (hI : I (L.setIfInBounds i true) w) (hv : S i v w) :
    wpOp P ops Q i (Slots ops S I a0 (L.setIfInBounds i true)) a w := by
  unfold wpOp
  simp only [ho, hw, if_true, Oper.wp, hrun, Oper.upon]
  exact .inl (h.put ho (fun _ _ _ h => h) hI hv)
theorem Slots.callG (h : Slots ops S I a0 L a w) {i : Nat} {o : Oper} (ho : ops[i]? = some o) (hw : Region.wanted o (yielded ops a.tmps) = true) {f : FuncId} {args : Array Value} (hrun : (execOp a.eval o).run P w = .ok (.enter f args) w)
    (hc : Calls P f args w fun e w' => ∃ v, e = .returned v ∧ (∀ k u, L.getD k false = true → S k u w → S k u w') ∧ I (L.setIfInBounds i true) w' ∧ S i v w') : wpOp P ops Q i (Slots ops S I a0 (L.setIfInBounds i true)) a w := by
  unfold wpOp
  simp only [ho, hw, if_true, Oper.wp, hrun, Oper.upon]
  refine .inl (hc.mono ?_)
  rintro e w' ⟨v, rfl, hS, hI, hv⟩
  exact h.put ho hS hI hv
theorem Slots.passG (h : Slots ops S I a0 L a w) {i : Nat} {o : Oper} (ho : ops[i]? = some o) (hw : Region.wanted o (yielded ops a.tmps) = false) (hI : I (L.setIfInBounds i true) w) (hv : S i undef w) :
    wpOp P ops Q i (Slots ops S I a0 (L.setIfInBounds i true)) a w := by
  unfold wpOp
  simp only [ho, hw, Bool.false_eq_true, if_false]
  exact h.put ho (fun _ _ _ h => h) hI hv
theorem Slots.memG (h : Slots ops S I a0 L a w) {i : Nat} {o : Oper} (ho : ops[i]? = some o) (hw : Region.wanted o (yielded ops a.tmps) = true) {v : Value} (hrun : (execOp a.eval o).run P w = .ok (.value v) w')
    (hS : ∀ k u, L.getD k false = true → S k u w → S k u w') (hI : I (L.setIfInBounds i true) w') (hv : S i v w') : wpOp P ops Q i (Slots ops S I a0 (L.setIfInBounds i true)) a w := by
  unfold wpOp
  simp only [ho, hw, if_true, Oper.wp, hrun, Oper.upon]
  exact .inl (h.put ho hS hI hv)
end

section
variable {a : Act} {ty : TypeId} {pos : String} {d : Option Tmp} {af : Array Edge} {g : Option (Nat × Bool)}
theorem ro_move {x : Tmp} {v : Value} (w : World) (hx : a.tmps.getD x undef = v) :
    (execOp a.eval { dst := d, op := .move (.tmp x), type := ty, pos := pos, after := af, guard := g }).run Try.prog w = .ok (.value v) w := by
  simp only [execOp, Act.eval, hx]; rfl
theorem ro_assign {x : Tmp} {v : Value} (w : World) (hx : a.tmps.getD x undef = v) :
    (execOp a.eval { dst := d, op := .assign (.tmp x), type := ty, pos := pos, after := af, guard := g }).run Try.prog w = .ok (.value v) w := by
  simp only [execOp, Act.eval, hx]; rfl
theorem ro_assignC {v : Value} (w : World) :
    (execOp a.eval { dst := d, op := .assign (.const v), type := ty, pos := pos, after := af, guard := g }).run Try.prog w = .ok (.value v) w := by
  simp only [execOp, Act.eval]; rfl
theorem ro_call1 {x : Tmp} {u : Value} {ts : Array TypeId} {F : Nat} (hF : ∀ (args : Array Value) (w : World), (callFunc F args).run Try.prog w = .ok (.enter F args) w) (w : World) (hx : a.tmps.getD x undef = u) :
    (execOp a.eval { dst := d, op := .call { callee := .value (.func F), args := #[.tmp x], argTypes := ts }, type := ty, pos := pos, after := af, guard := g }).run Try.prog w = .ok (.enter F #[u]) w := by
  have := hF #[u] w
  simp only [execOp, resolve, Act.eval, hx, List.map_toArray, List.map]
  go_simp
theorem ro_call2 {x y : Tmp} {u v : Value} {ts : Array TypeId} {F : Nat} (hF : ∀ (args : Array Value) (w : World), (callFunc F args).run Try.prog w = .ok (.enter F args) w) (w : World) (hx : a.tmps.getD x undef = u) (hy : a.tmps.getD y undef = v) :
    (execOp a.eval { dst := d, op := .call { callee := .value (.func F), args := #[.tmp x, .tmp y], argTypes := ts }, type := ty, pos := pos, after := af, guard := g }).run Try.prog w = .ok (.enter F #[u, v]) w := by
  have := hF #[u, v] w
  simp only [execOp, resolve, Act.eval, hx, hy, List.map_toArray, List.map]
  go_simp
theorem ro_not {x : Tmp} {b : Bool} (w : World) (hx : a.tmps.getD x undef = .bool b) :
    (execOp a.eval { dst := d, op := .unOp .not 4 (.tmp x), type := ty, pos := pos, after := af, guard := g }).run Try.prog w = .ok (.value (.bool (!b))) w := by
  simp only [execOp, Act.eval, hx]
  go_simp
theorem ro_pickF {x y : Tmp} {b : Bool} {v : Value} (w : World) (hx : a.tmps.getD x undef = .bool b) (hv : b = true → a.tmps.getD y undef = .bool false) :
    (execOp a.eval { dst := d, op := .pick (.tmp x) (.tmp y) (.const (.bool false)), type := ty, pos := pos, after := af, guard := g }).run Try.prog w = .ok (.value (.bool false)) w := by
  cases b with
  | false => simp only [execOp, Act.eval, hx]; rfl
  | true => simp only [execOp, Act.eval, hx, hv rfl]; rfl
theorem ro_pickT {x y : Tmp} {v : Value} (w : World) (hx : a.tmps.getD x undef = .bool false) (hy : a.tmps.getD y undef = v) :
    (execOp a.eval { dst := d, op := .pick (.tmp x) (.const (.bool true)) (.tmp y), type := ty, pos := pos, after := af, guard := g }).run Try.prog w = .ok (.value v) w := by
  simp only [execOp, Act.eval, hx, hy]; rfl
theorem ro_add1 {x : Tmp} {k : Nat} (w : World) (hk : k ≤ 1000000000000) (hx : a.tmps.getD x undef = .int .i64 (k : Int)) :
    (execOp a.eval { dst := d, op := .binOp .add 3 (.tmp x) (.const (.int .i64 1)) 3, type := ty, pos := pos, after := af, guard := g }).run Try.prog w = .ok (.value (.int .i64 ((k : Int) + 1))) w := by
  have hw : IntKind.i64.wrap ((k : Int) + 1) = (k : Int) + 1 := by rw [IntKind.wrap_i64]; omega
  simp only [execOp, Act.eval, hx]
  go_simp
theorem ro_call3 {x y z : Tmp} {u v q : Value} {ts : Array TypeId} {F : Nat} (hF : ∀ (args : Array Value) (w : World), (callFunc F args).run Try.prog w = .ok (.enter F args) w) (w : World) (hx : a.tmps.getD x undef = u) (hy : a.tmps.getD y undef = v) (hz : a.tmps.getD z undef = q) :
    (execOp a.eval { dst := d, op := .call { callee := .value (.func F), args := #[.tmp x, .tmp y, .tmp z], argTypes := ts }, type := ty, pos := pos, after := af, guard := g }).run Try.prog w = .ok (.enter F #[u, v, q]) w := by
  have := hF #[u, v, q] w
  simp only [execOp, resolve, Act.eval, hx, hy, hz, List.map_toArray, List.map]
  go_simp
theorem ro_call2c {x : Tmp} {u v : Value} {ts : Array TypeId} {F : Nat} (hF : ∀ (args : Array Value) (w : World), (callFunc F args).run Try.prog w = .ok (.enter F args) w) (w : World) (hx : a.tmps.getD x undef = u) :
    (execOp a.eval { dst := d, op := .call { callee := .value (.func F), args := #[.tmp x, .const v], argTypes := ts }, type := ty, pos := pos, after := af, guard := g }).run Try.prog w = .ok (.enter F #[u, v]) w := by
  have := hF #[u, v] w
  simp only [execOp, resolve, Act.eval, hx, List.map_toArray, List.map]
  go_simp
theorem ro_pickTT {x y : Tmp} {v : Value} (w : World) (hx : a.tmps.getD x undef = .bool true) (hy : a.tmps.getD y undef = v) :
    (execOp a.eval { dst := d, op := .pick (.tmp x) (.tmp y) (.const (.bool false)), type := ty, pos := pos, after := af, guard := g }).run Try.prog w = .ok (.value v) w := by
  simp only [execOp, Act.eval, hx, hy]; rfl
theorem ro_load_int {x : Tmp} {p k : Nat} {v : Value} (w : World) (hx : a.tmps.getD x undef = .pointer (some ⟨p, k, none⟩)) (h0 : w.cell? ⟨p, k, none⟩ = some v) :
    (execOp a.eval { dst := d, op := .load 3 (.tmp x), type := ty, pos := pos, after := af, guard := g }).run Try.prog w = .ok (.value v) w := by
  simp only [execOp, Act.eval, hx]
  go_simp
theorem ro_load_i64 {x : Tmp} {p k : Nat} {v : Value} (w : World) (hx : a.tmps.getD x undef = .pointer (some ⟨p, k, none⟩)) (h0 : w.cell? ⟨p, k, none⟩ = some v) :
    (execOp a.eval { dst := d, op := .load 2 (.tmp x), type := ty, pos := pos, after := af, guard := g }).run Try.prog w = .ok (.value v) w := by
  simp only [execOp, Act.eval, hx]
  go_simp
theorem ro_load_u8 {x : Tmp} {p k : Nat} {v : Value} (w : World) (hx : a.tmps.getD x undef = .pointer (some ⟨p, k, none⟩)) (h0 : w.cell? ⟨p, k, none⟩ = some v) :
    (execOp a.eval { dst := d, op := .load 5 (.tmp x), type := ty, pos := pos, after := af, guard := g }).run Try.prog w = .ok (.value v) w := by
  simp only [execOp, Act.eval, hx]
  go_simp
theorem ro_load_u32 {x : Tmp} {p k : Nat} {v : Value} (w : World) (hx : a.tmps.getD x undef = .pointer (some ⟨p, k, none⟩)) (h0 : w.cell? ⟨p, k, none⟩ = some v) :
    (execOp a.eval { dst := d, op := .load 29 (.tmp x), type := ty, pos := pos, after := af, guard := g }).run Try.prog w = .ok (.value v) w := by
  simp only [execOp, Act.eval, hx]
  go_simp
theorem ro_load_bss {x : Tmp} {p k : Nat} {v : Value} (w : World) (hx : a.tmps.getD x undef = .pointer (some ⟨p, k, none⟩)) (h0 : w.cell? ⟨p, k, none⟩ = some v) :
    (execOp a.eval { dst := d, op := .load 30 (.tmp x), type := ty, pos := pos, after := af, guard := g }).run Try.prog w = .ok (.value v) w := by
  simp only [execOp, Act.eval, hx]
  go_simp
theorem ro_load_rp {x : Tmp} {p : Nat} {v0 v1 v2 v3 : Value} (w : World) (hx : a.tmps.getD x undef = .pointer (some ⟨p, 0, none⟩)) (h0 : w.cell? ⟨p, 0, none⟩ = some v0) (h1 : w.cell? ⟨p, 1, none⟩ = some v1) (h2 : w.cell? ⟨p, 2, none⟩ = some v2) (h3 : w.cell? ⟨p, 3, none⟩ = some v3) :
    (execOp a.eval { dst := d, op := .load 32 (.tmp x), type := ty, pos := pos, after := af, guard := g }).run Try.prog w = .ok (.value (.agg #[v0, v1, v2, v3])) w := by
  simp only [execOp, Act.eval, hx]
  go_simp
theorem ro_field_rp0 {x : Tmp} {p : Nat} (w : World) (hx : a.tmps.getD x undef = .pointer (some ⟨p, 0, none⟩)) :
    (execOp a.eval { dst := d, op := .fieldAddr 32 (.tmp x) 0, type := ty, pos := pos, after := af, guard := g }).run Try.prog w = .ok (.value (.pointer (some ⟨p, 0, none⟩))) w := by
  simp only [execOp, Act.eval, hx]
  go_simp
theorem ro_field_rp1 {x : Tmp} {p : Nat} (w : World) (hx : a.tmps.getD x undef = .pointer (some ⟨p, 0, none⟩)) :
    (execOp a.eval { dst := d, op := .fieldAddr 32 (.tmp x) 1, type := ty, pos := pos, after := af, guard := g }).run Try.prog w = .ok (.value (.pointer (some ⟨p, 1, none⟩))) w := by
  simp only [execOp, Act.eval, hx]
  go_simp
theorem ro_field_rp2 {x : Tmp} {p : Nat} (w : World) (hx : a.tmps.getD x undef = .pointer (some ⟨p, 0, none⟩)) :
    (execOp a.eval { dst := d, op := .fieldAddr 32 (.tmp x) 2, type := ty, pos := pos, after := af, guard := g }).run Try.prog w = .ok (.value (.pointer (some ⟨p, 2, none⟩))) w := by
  simp only [execOp, Act.eval, hx]
  go_simp
theorem ro_field_rp3 {x : Tmp} {p : Nat} (w : World) (hx : a.tmps.getD x undef = .pointer (some ⟨p, 0, none⟩)) :
    (execOp a.eval { dst := d, op := .fieldAddr 32 (.tmp x) 3, type := ty, pos := pos, after := af, guard := g }).run Try.prog w = .ok (.value (.pointer (some ⟨p, 3, none⟩))) w := by
  simp only [execOp, Act.eval, hx]
  go_simp
theorem ro_len_bss {x : Tmp} {A : Option Addr} {n c : Nat} (w : World) (hx : a.tmps.getD x undef = .slice A n c) :
    (execOp a.eval { dst := d, op := .call { callee := .builtin .len, args := #[.tmp x], argTypes := #[30] }, type := ty, pos := pos, after := af, guard := g }).run Try.prog w = .ok (.value (.int .i64 (n : Int))) w := by
  simp only [execOp, resolve, Act.eval, hx, List.map_toArray, List.map]
  go_simp
theorem ro_eql_int {x y : Tmp} {i : Int} (w : World) (hx : a.tmps.getD x undef = .int .i64 i) (hy : a.tmps.getD y undef = .int .i64 i) :
    (execOp a.eval { dst := d, op := .binOp .eql 3 (.tmp x) (.tmp y) 3, type := ty, pos := pos, after := af, guard := g }).run Try.prog w = .ok (.value (.bool true)) w := by
  simp only [execOp, Act.eval, hx, hy]
  go_simp
theorem ro_eql_i64 {x y : Tmp} {i : Int} (w : World) (hx : a.tmps.getD x undef = .int .i64 i) (hy : a.tmps.getD y undef = .int .i64 i) :
    (execOp a.eval { dst := d, op := .binOp .eql 2 (.tmp x) (.tmp y) 2, type := ty, pos := pos, after := af, guard := g }).run Try.prog w = .ok (.value (.bool true)) w := by
  simp only [execOp, Act.eval, hx, hy]
  go_simp
theorem ro_eql_u32 {x y : Tmp} {i : Int} (w : World) (hx : a.tmps.getD x undef = .int .u32 i) (hy : a.tmps.getD y undef = .int .u32 i) :
    (execOp a.eval { dst := d, op := .binOp .eql 29 (.tmp x) (.tmp y) 29, type := ty, pos := pos, after := af, guard := g }).run Try.prog w = .ok (.value (.bool true)) w := by
  simp only [execOp, Act.eval, hx, hy]
  go_simp
theorem ro_conv_i64u64 {x : Tmp} {n : Nat} (w : World) (hn : n ≤ 9223372036854775807) (hx : a.tmps.getD x undef = .int .i64 (n : Int)) :
    (execOp a.eval { dst := d, op := .convert 2 63 (.tmp x), type := ty, pos := pos, after := af, guard := g }).run Try.prog w = .ok (.value (.int .u64 (n : Int))) w := by
  have hw : IntKind.u64.wrap (n : Int) = (n : Int) := by rw [IntKind.wrap_u64]; omega
  simp only [execOp, Act.eval, hx]
  go_simp
theorem ro_conv_u32u64 {x : Tmp} {n : Nat} (w : World) (hn : n < 4294967296) (hx : a.tmps.getD x undef = .int .u32 (n : Int)) :
    (execOp a.eval { dst := d, op := .convert 29 63 (.tmp x), type := ty, pos := pos, after := af, guard := g }).run Try.prog w = .ok (.value (.int .u64 (n : Int))) w := by
  have hw : IntKind.u64.wrap (n : Int) = (n : Int) := by rw [IntKind.wrap_u64]; omega
  simp only [execOp, Act.eval, hx]
  go_simp
theorem ro_conv_intu64 {x : Tmp} {n : Nat} (w : World) (hn : n ≤ 9223372036854775807) (hx : a.tmps.getD x undef = .int .i64 (n : Int)) :
    (execOp a.eval { dst := d, op := .convert 3 63 (.tmp x), type := ty, pos := pos, after := af, guard := g }).run Try.prog w = .ok (.value (.int .u64 (n : Int))) w := by
  have hw : IntKind.u64.wrap (n : Int) = (n : Int) := by rw [IntKind.wrap_u64]; omega
  simp only [execOp, Act.eval, hx]
  go_simp
theorem ro_conv_intu8 {x : Tmp} {n : Nat} (w : World) (hn : n < 256) (hx : a.tmps.getD x undef = .int .i64 (n : Int)) :
    (execOp a.eval { dst := d, op := .convert 3 5 (.tmp x), type := ty, pos := pos, after := af, guard := g }).run Try.prog w = .ok (.value (.int .u8 (n : Int))) w := by
  have hw : IntKind.u8.wrap (n : Int) = (n : Int) := by rw [IntKind.wrap_u8]; omega
  simp only [execOp, Act.eval, hx]
  go_simp
theorem ro_conv_u8int {x : Tmp} {n : Nat} (w : World) (hn : n < 256) (hx : a.tmps.getD x undef = .int .u8 (n : Int)) :
    (execOp a.eval { dst := d, op := .convert 5 3 (.tmp x), type := ty, pos := pos, after := af, guard := g }).run Try.prog w = .ok (.value (.int .i64 (n : Int))) w := by
  have hw : IntKind.i64.wrap (n : Int) = (n : Int) := by rw [IntKind.wrap_i64]; omega
  simp only [execOp, Act.eval, hx]
  go_simp
theorem ro_build_u8 {x : Tmp} {n : Nat} (w : World) (hx : a.tmps.getD x undef = .int .u8 (n : Int)) :
    (execOp a.eval { dst := d, op := .buildSlice 22 1 #[(0, .tmp x)], type := ty, pos := pos, after := af, guard := g }).run Try.prog w = .ok (.value (.slice (some ⟨w.heap.size, 0, none⟩) 1 1)) (w.alloc (.cells #[.int .u8 (n : Int)] 5)) := by
  simp only [execOp, Act.eval, hx, List.map_toArray, List.map]
  go_simp
end
section
variable {P : Program} {ops : Array Oper} {Q : Exit → Act → World → Prop}
/-- Slots, and besides: a slot whose operation is still to run holds what it held; what has run stands behind all that it waits for. -/
structure SlotsB (ops : Array Oper) (S : Nat → Value → World → Prop) (I : Array Bool → World → Prop) (a0 : Act) (L : Array Bool) (a : Act) (w : World) : Prop where
  base : Slots ops S I a0 L a w
  bef : ∀ (i : Nat) o t, ops[i]? = some o → o.dst = some t → L.getD i false = false → a.tmps.getD t undef = a0.tmps.getD t undef
  closed : ∀ (j : Nat) o, ops[j]? = some o → L.getD j false = true → ∀ e ∈ o.after, Region.binds .any e = true → L.getD e.on false = true
variable {S : Nat → Value → World → Prop} {I : Array Bool → World → Prop} {a0 a : Act} {L : Array Bool} {w w' : World}
theorem SlotsB.ran (h : SlotsB ops S I a0 L a w) (i : Nat) (o : Oper) (t : Tmp) (ho : ops[i]? = some o) (ht : o.dst = some t) (hL : L.getD i false = true) : S i (a.tmps.getD t undef) w := h.base.ran i o t ho ht hL
theorem SlotsB.world (h : SlotsB ops S I a0 L a w) : I L w := h.base.world
theorem SlotsB.still (h : SlotsB ops S I a0 L a w) (t : Tmp) (ht : unwritten ops t = true) : a.tmps.getD t undef = a0.tmps.getD t undef := h.base.still t ht
theorem SlotsB.later (h : SlotsB ops S I a0 L a w) {i j : Nat} {o : Oper} (hj : ops[j]? = some o) (he : ∃ e ∈ o.after, e.on = i ∧ Region.binds .any e = true) (hi : L.getD i false = false) : L.getD j false = false := by
  cases hL : L.getD j false with
  | false => rfl
  | true =>
    obtain ⟨e, h1, h2, h3⟩ := he
    have := h.closed j o hj hL e h1 h3
    rw [h2, hi] at this
    cases this
theorem SlotsB.set (h : SlotsB ops S I a0 L a w) {i : Nat} {o : Oper} (ho : ops[i]? = some o) (hd : ∀ e ∈ o.after, Region.binds .any e = true → L.getD e.on false = true) {v : Value} {w' : World} (hs : Slots ops S I a0 (L.setIfInBounds i true) (a.put o.dst v) w') :
    SlotsB ops S I a0 (L.setIfInBounds i true) (a.put o.dst v) w' := by
  have hget : ∀ j, L.getD j false = true → (L.setIfInBounds i true).getD j false = true := fun j hj => by
    by_cases hij : i = j
    · subst hij
      have : i < L.size := by
        rcases Nat.lt_or_ge i L.size with h | h
        · exact h
        · simp [h] at hj
      simp [this]
    · rw [getD_set_ne false hij]; exact hj
  refine ⟨hs, ?_, ?_⟩
  · intro j p t hp hpt hL
    have hilt : i < L.size := by rw [h.base.sized]; exact (Array.getElem?_eq_some_iff.1 ho).1
    have hij : i ≠ j := by
      intro e; subst e
      simp [hilt] at hL
    rw [getD_set_ne false hij] at hL
    rw [← h.bef j p t hp hpt hL]
    rcases ownSlots_spec h.base.own ho with hn | ⟨t', ht', _, hone⟩
    · rw [hn]; rfl
    · rw [ht']
      have hne : t' ≠ t := fun e => hij (hone j p hp (e ▸ hpt))
      simp [Act.put, Array.getElem?_setIfInBounds_ne hne]
  · intro j p hp hL e he hb
    by_cases hij : i = j
    · subst hij
      rw [ho] at hp; cases hp
      exact hget _ (hd e he hb)
    · rw [getD_set_ne false hij] at hL
      exact hget _ (h.closed j p hp hL e he hb)
theorem SlotsB.val (h : SlotsB ops S I a0 L a w) {i : Nat} {o : Oper} (ho : ops[i]? = some o) (hg : o.guard = none) {v : Value} (hrun : (execOp a.eval o).run P w = .ok (.value v) w) (hd : ∀ e ∈ o.after, Region.binds .any e = true → L.getD e.on false = true) (hI : I (L.setIfInBounds i true) w) (hv : S i v w) :
    wpOp P ops Q i (SlotsB ops S I a0 (L.setIfInBounds i true)) a w := by
  unfold wpOp
  simp only [ho, Region.wanted, hg, if_true, Oper.wp, hrun, Oper.upon]
  exact .inl (h.set ho hd (h.base.put ho (fun _ _ _ h => h) hI hv))
theorem SlotsB.mem (h : SlotsB ops S I a0 L a w) {i : Nat} {o : Oper} (ho : ops[i]? = some o) (hg : o.guard = none) {v : Value} (hrun : (execOp a.eval o).run P w = .ok (.value v) w') (hd : ∀ e ∈ o.after, Region.binds .any e = true → L.getD e.on false = true)
    (hS : ∀ k u, L.getD k false = true → S k u w → S k u w') (hI : I (L.setIfInBounds i true) w') (hv : S i v w') : wpOp P ops Q i (SlotsB ops S I a0 (L.setIfInBounds i true)) a w := by
  unfold wpOp
  simp only [ho, Region.wanted, hg, if_true, Oper.wp, hrun, Oper.upon]
  exact .inl (h.set ho hd (h.base.put ho hS hI hv))
theorem SlotsB.skip (h : SlotsB ops S I a0 L a w) {i : Nat} {o : Oper} (ho : ops[i]? = some o) (hg : o.guard = none) (hrun : (execOp a.eval o).run P w = .ok .skip w') (hd : ∀ e ∈ o.after, Region.binds .any e = true → L.getD e.on false = true)
    (hS : ∀ k u, L.getD k false = true → S k u w → S k u w') (hI : I (L.setIfInBounds i true) w') (hv : S i undef w') : wpOp P ops Q i (SlotsB ops S I a0 (L.setIfInBounds i true)) a w := by
  unfold wpOp
  simp only [ho, Region.wanted, hg, if_true, Oper.wp, hrun, Oper.upon]
  exact .inl (h.set ho hd (h.base.put ho hS hI hv))
theorem SlotsB.call (h : SlotsB ops S I a0 L a w) {i : Nat} {o : Oper} (ho : ops[i]? = some o) (hg : o.guard = none) {f : FuncId} {args : Array Value} (hrun : (execOp a.eval o).run P w = .ok (.enter f args) w) (hd : ∀ e ∈ o.after, Region.binds .any e = true → L.getD e.on false = true)
    (hc : Calls P f args w fun e w' => ∃ v, e = .returned v ∧ (∀ k u, L.getD k false = true → S k u w → S k u w') ∧ I (L.setIfInBounds i true) w' ∧ S i v w') : wpOp P ops Q i (SlotsB ops S I a0 (L.setIfInBounds i true)) a w := by
  unfold wpOp
  simp only [ho, Region.wanted, hg, if_true, Oper.wp, hrun, Oper.upon]
  refine .inl (hc.mono ?_)
  rintro e w' ⟨v, rfl, hS, hI, hv⟩
  exact h.set ho hd (h.base.put ho hS hI hv)
theorem SlotsB.valG (h : SlotsB ops S I a0 L a w) {i : Nat} {o : Oper} (ho : ops[i]? = some o) (hw : Region.wanted o (yielded ops a.tmps) = true) {v : Value} (hrun : (execOp a.eval o).run P w = .ok (.value v) w) (hd : ∀ e ∈ o.after, Region.binds .any e = true → L.getD e.on false = true) (hI : I (L.setIfInBounds i true) w) (hv : S i v w) :
    wpOp P ops Q i (SlotsB ops S I a0 (L.setIfInBounds i true)) a w := by
  unfold wpOp
  simp only [ho, hw, if_true, Oper.wp, hrun, Oper.upon]
  exact .inl (h.set ho hd (h.base.put ho (fun _ _ _ h => h) hI hv))
theorem SlotsB.callG (h : SlotsB ops S I a0 L a w) {i : Nat} {o : Oper} (ho : ops[i]? = some o) (hw : Region.wanted o (yielded ops a.tmps) = true) {f : FuncId} {args : Array Value} (hrun : (execOp a.eval o).run P w = .ok (.enter f args) w) (hd : ∀ e ∈ o.after, Region.binds .any e = true → L.getD e.on false = true)
    (hc : Calls P f args w fun e w' => ∃ v, e = .returned v ∧ (∀ k u, L.getD k false = true → S k u w → S k u w') ∧ I (L.setIfInBounds i true) w' ∧ S i v w') : wpOp P ops Q i (SlotsB ops S I a0 (L.setIfInBounds i true)) a w := by
  unfold wpOp
  simp only [ho, hw, if_true, Oper.wp, hrun, Oper.upon]
  refine .inl (hc.mono ?_)
  rintro e w' ⟨v, rfl, hS, hI, hv⟩
  exact h.set ho hd (h.base.put ho hS hI hv)
theorem SlotsB.passG (h : SlotsB ops S I a0 L a w) {i : Nat} {o : Oper} (ho : ops[i]? = some o) (hw : Region.wanted o (yielded ops a.tmps) = false) (hd : ∀ e ∈ o.after, Region.binds .any e = true → L.getD e.on false = true) (hI : I (L.setIfInBounds i true) w) (hv : S i undef w) :
    wpOp P ops Q i (SlotsB ops S I a0 (L.setIfInBounds i true)) a w := by
  unfold wpOp
  simp only [ho, hw, Bool.false_eq_true, if_false]
  exact h.set ho hd (h.base.put ho (fun _ _ _ h => h) hI hv)
theorem wp_region_slotsB {id : Nat} {w0 : World} (S : Nat → Value → World → Prop) (I : Array Bool → World → Prop) (hm : P.follows .mixedOrders = true) (hb : waitsBack .any ops = true) (hs : ownSlots ops a0.tmps.size = true)
    (hI : I (Array.replicate ops.size false) w0.drew)
    (hstep : ∀ L a w i o, SlotsB ops S I a0 L a w → ops[i]? = some o → L.getD i false = false → (∀ e ∈ o.after, Region.binds .any e = true → L.getD e.on false = true) →
      wpOp P ops Q i (SlotsB ops S I a0 (L.setIfInBounds i true)) a w)
    (hend : ∀ L a w, (∀ i, i < ops.size → L.getD i false = true) → a.defers = a0.defers → a.tmps.size = a0.tmps.size → I L w → (∀ t, (∀ (i : Nat) o, ops[i]? = some o → o.dst ≠ some t) → a.tmps.getD t undef = a0.tmps.getD t undef) →
      (∀ (i : Nat) o t, ops[i]? = some o → o.dst = some t → S i (a.tmps.getD t undef) w) → Q .normal a w) :
    (Code.region id ops true).wp P Q a0 w0 := by
  refine wp_region_any hm (wpAny_inv (Good := fun L a w => SlotsB ops S I a0 L a w) ?_ ?_ _ _ _ _ ?_ ?_)
  · intro L a w i hg hi
    obtain ⟨h0, o, ho, hall⟩ := mem_ready.1 hi
    exact hstep L a w i o hg ho (by
      have := hg.base.sized
      have hlt := (Array.getElem?_eq_some_iff.1 ho).1
      have h0' : L.getD i false = false := by
        simp at h0 ⊢
        rw [show L[i]? = some L[i] from Array.getElem?_eq_getElem (by omega)] at h0 ⊢
        simpa using h0
      exact h0') hall
  · intro L a w hg hr
    have hz := hg.base.sized
    refine hend L a w (fun i hi => by
      have := all_run hb hr i hi
      have hz' : i < L.size := by omega
      simp [hz'] at this ⊢
      exact this) hg.base.defers hg.base.size hg.base.world hg.base.others ?_
    intro i o t ho ht
    refine hg.base.ran i o t ho ht ?_
    have hi := (Array.getElem?_eq_some_iff.1 ho).1
    have := all_run hb hr i hi
    have hz' : i < L.size := by omega
    simp [hz'] at this ⊢
    exact this
  · unfold toRun
    exact Nat.le_trans (List.length_filter_le _ _) (by simp)
  · refine ⟨⟨rfl, rfl, fun _ _ => rfl, ?_, hI, by simp, hs⟩, fun _ _ _ _ _ _ => rfl, ?_⟩
    · intro i o t ho ht hL
      have hi := (Array.getElem?_eq_some_iff.1 ho).1
      simp [hi] at hL
    · intro j o ho hL
      have hi := (Array.getElem?_eq_some_iff.1 ho).1
      simp [hi] at hL
end
theorem cf_low : ∀ (args : Array Value) (w : World), (callFunc 67 args).run Try.prog w = .ok (.enter 67 args) w := enters_of Try.func67 (by kernel_rfl) rfl
theorem cf_Cat : ∀ (args : Array Value) (w : World), (callFunc 66 args).run Try.prog w = .ok (.enter 66 args) w := enters_of Try.func66 (by kernel_rfl) rfl
end Go.Proofs.Ytdghanhpeekbhaa
