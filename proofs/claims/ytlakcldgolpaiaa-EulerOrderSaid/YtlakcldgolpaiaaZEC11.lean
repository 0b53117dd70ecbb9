/-
  The walks of Verts, Edges, MarkV, MarkE, some, SomeV, SomeE.
-/
import Derived.Test.YtlakcldgolpaiaaZEC10
namespace Go.Proofs.Ytlakcldgolpaiaa
open Go.RowKit Go.Maps
set_option linter.unusedVariables false

set_option maxRecDepth 100000 in
set_option maxHeartbeats 2000000 in
theorem fVerts (w : World) (f : Nat) (S : Nat → Prop) (F : FS) (h : FR w f S F) (u : Int) (hu : I64 u) :
    Calls Try.prog 16 #[.pointer (some ⟨f, 0, none⟩), .int .i64 u] w fun e w' => ∃ v, e = .returned (.tuple #[v, .int .i64 (F.errV u)]) ∧ OK encI 1 3 w' w.heap.size v (F.treeV u) ∧ Below w.heap.size w w' := by
  have hi := fIds w f S F h u hu false
  simp only [Bool.false_eq_true, if_false] at hi
  have HI := Lib.hid hi
  clear hi h
  go_enter Try.func16, Try.ntmps16
  go_wp2_with fail
  refine HI.out.mono ?_
  rintro e w1 ⟨v, rfl, o1, b1⟩
  have O1 := Lib.hid o1
  have B1 := Lib.hid b1
  obtain ⟨A1, c1, hv1, -, -, -, -⟩ := (o1.rk encI_len (Nat.le_refl _)).open_
  obtain ⟨n, hn⟩ : ∃ n, n = (F.treeV u).length := ⟨_, rfl⟩
  rw [← hn] at hv1
  subst hv1
  clear o1 b1 hn
  go_wp2_with fail
  go_ret2
  exact ⟨_, rfl, O1.out, B1.out⟩

set_option maxRecDepth 100000 in
set_option maxHeartbeats 2000000 in
theorem fEdges (w : World) (f : Nat) (S : Nat → Prop) (F : FS) (h : FR w f S F) (u : Int) (hu : I64 u) :
    Calls Try.prog 17 #[.pointer (some ⟨f, 0, none⟩), .int .i64 u] w fun e w' => ∃ v, e = .returned (.tuple #[v, .int .i64 (F.errV u)]) ∧ OK encI 1 3 w' w.heap.size v (F.treeE u) ∧ Below w.heap.size w w' := by
  have hi := fIds w f S F h u hu true
  simp only [if_true] at hi
  have HI := Lib.hid hi
  clear hi h
  go_enter Try.func17, Try.ntmps17
  go_wp2_with fail
  refine HI.out.mono ?_
  rintro e w1 ⟨v, rfl, o1, b1⟩
  have O1 := Lib.hid o1
  have B1 := Lib.hid b1
  obtain ⟨A1, c1, hv1, -, -, -, -⟩ := (o1.rk encI_len (Nat.le_refl _)).open_
  obtain ⟨n, hn⟩ : ∃ n, n = (F.treeE u).length := ⟨_, rfl⟩
  rw [← hn] at hv1
  subst hv1
  clear o1 b1 hn
  go_wp2_with fail
  go_ret2
  exact ⟨_, rfl, O1.out, B1.out⟩

/-! ### Marks -/

def FS.markVA (F : FS) (v : Int) (on : Bool) : FS := match F.pv v with
  | some a => F.markV v a on
  | none => F

def FS.markEA (F : FS) (id : Int) (on : Bool) : FS := match F.pe id with
  | some (a, _) => F.markE id a on
  | none => F

open Classical in
noncomputable def FS.errE (F : FS) (id : Int) : Int := if id ∈ ids F.edges then 0 else 152

theorem FS.errE_in (F : FS) {u : Int} (h : u ∈ ids F.edges) : F.errE u = 0 := by unfold FS.errE; rw [if_pos h]

theorem FS.errE_out (F : FS) {u : Int} (h : u ∉ ids F.edges) : F.errE u = 152 := by unfold FS.errE; rw [if_neg h]

theorem FS.Good.lookE {F : FS} (h : F.Good) (id : Int) : (∃ a b, F.pe id = some (a, b) ∧ id ∈ ids F.edges ∧ (1 ≤ a ∧ a ≤ F.M.own.length) ∧ (1 ≤ b ∧ b ≤ F.M.own.length)) ∨ (F.pe id = none ∧ id ∉ ids F.edges) := by
  obtain ⟨W, hW⟩ := h.ok
  cases e : F.pe id with
  | none => exact .inr ⟨rfl, fun hm => (hW.has id).1 hm e⟩
  | some x =>
    obtain ⟨a, b⟩ := x
    obtain ⟨g1, g2, g3, g4, g5⟩ := hW.edge id a b e
    exact .inl ⟨a, b, rfl, (hW.has id).2 (by rw [e]; simp), hW.known g2, hW.known g3⟩

theorem run_count01 (b : Bool) : (if b then (1 : Int) else 0) = b01 b := by cases b <;> rfl

set_option maxRecDepth 100000 in
set_option maxHeartbeats 4000000 in
theorem fMarkV (w : World) (f : Nat) (S : Nat → Prop) (F : FS) (h : FR w f S F) (v : Int) (hv : I64 v) (on : Bool) :
    Calls Try.prog 34 #[.pointer (some ⟨f, 0, none⟩), .int .i64 v, .bool on] w fun e w' => e = .returned (.int .i64 (F.errV v)) ∧ FRT w f S (F.markVA v on) w' := by
  obtain ⟨⟨g, bv, be, whoV, S0, hX, hS⟩, hG⟩ := h
  have a1 : w.cell? ⟨f, 1, none⟩ = some (.map (some bv)) := hX.at_.blk.cell 1
  have HM := Lib.hid hX.at_.verts
  rcases hG.look v with ⟨a, e1, e2, ha⟩ | ⟨e1, e2⟩
  · have HV : Hid (((F.pv v).map fun a => Value.int .i64 (a : Int)).getD (.int .i64 0) = .int .i64 (a : Int) ∧ ((F.pv v).map fun a => Value.int .i64 (a : Int)).isSome = true) := Lib.hid (by rw [e1]; exact ⟨rfl, rfl⟩)
    have hme : F.markVA v on = F.markV v a on := by unfold FS.markVA; rw [e1]
    have hgood := hG.markV e1 on
    rw [F.errV_in e2, hme]
    have hk := known_of (M := F.M) ha
    have hset : F.M.setA (a : Int) ⟨1, b01 on, 0⟩ = F.M.set a ⟨1, b01 on, 0⟩ := by unfold RM.setA; rw [if_pos hk, Int.toNat_natCast]
    have herr : F.M.errA (a : Int) = 0 := by unfold RM.errA; rw [if_pos hk]
    obtain ⟨gr, fv, Sr, hK, hKS⟩ := hX.at_.rope
    have HD2 : Hid (w.drew.cell? ⟨f, 0, none⟩ = some (.pointer (some ⟨g, 0, none⟩)) ∧ w.drew.cell? ⟨g, 0, none⟩ = some (.pointer (some ⟨gr, 0, none⟩))) := Lib.hid ⟨hX.at_.blk.cell 0, hK.blk.cell 0⟩
    have c0 : w.cell? ⟨f, 0, none⟩ = some (.pointer (some ⟨g, 0, none⟩)) := hX.at_.blk.cell 0
    have c1 : w.cell? ⟨g, 0, none⟩ = some (.pointer (some ⟨gr, 0, none⟩)) := hK.blk.cell 0
    have HX := Lib.hid hX
    have KD := Lib.hid (hK.below ((Below.refl _ _).drew))
    have KS := Lib.hid hKS
    clear hK hKS
    have HS := Lib.hid hS
    have HG := Lib.hid hgood
    have HE := Lib.hid hset
    have HR := Lib.hid herr
    have hcnt := fun w => count_any on w
    rw [run_count01] at hcnt
    have HC := Lib.hid hcnt
    clear hX hS hG e1 e2 hme hgood hk hset herr ha hcnt
    go_enter Try.func34, Try.ntmps34
    go_wp2_with (at_lookup; refine wpList_lookG (X := kI) rfl _ _ _ rfl _ Try.underlying69 (zeroI _) pN_zero bv 4096 rfl HM.out v rfl hv _ _ HV.out.1 HV.out.2 ?_)
    go_region_held3 (fun w' => w'.cell? ⟨f, 0, none⟩ = some (.pointer (some ⟨g, 0, none⟩)) ∧ w'.cell? ⟨g, 0, none⟩ = some (.pointer (some ⟨gr, 0, none⟩))) (first | with_reducible exact HD2.out | with_reducible exact HC2.out | fail)
      (first | (go_at_call 52; refine (HC.out _).mono ?_; rintro e w2 ⟨rfl, h2⟩; subst w2) | (go_at_call 51; refine (rSet _ gr Sr F.M KD.out.rope (a : Int) ⟨1, b01 on, 0⟩).mono ?_; rw [HE.out, HR.out]; rintro e w3 ⟨rfl, t3⟩; have T3 := Lib.hid (KD.out.turn KS.out t3); have HC2 : Hid (w3.cell? ⟨f, 0, none⟩ = some (.pointer (some ⟨g, 0, none⟩)) ∧ w3.cell? ⟨g, 0, none⟩ = some (.pointer (some ⟨gr, 0, none⟩))) := (by obtain ⟨S4, r4, m4, n4⟩ := t3; exact Lib.hid ⟨((HX.out.at_.blk.drew).mod m4 (KD.out.rope.other HX.out.at_.blk.drew (by decide) (by decide) (by decide))).cell 0, (KD.out.blk.mod m4 KD.out.kNe.1).cell 0⟩); clear t3))
    go_wp2_with fail
    go_ret
    obtain ⟨S4, x4, s4⟩ := (HX.out.below ((Below.refl _ _).drew)).ropeS T3.out
    exact ⟨rfl, (x4.fturn (((Step.below _ ((Below.refl _ _).drew)).trans s4).iff HS.out)).frt HG.out⟩
  · have HV : Hid (((F.pv v).map fun a => Value.int .i64 (a : Int)).getD (.int .i64 0) = .int .i64 0 ∧ ((F.pv v).map fun a => Value.int .i64 (a : Int)).isSome = false) := Lib.hid (by rw [e1]; exact ⟨rfl, rfl⟩)
    have hme : F.markVA v on = F := by unfold FS.markVA; rw [e1]
    have HFR : Hid (FR w f S F) := Lib.hid ⟨⟨g, bv, be, whoV, S0, hX, hS⟩, hG⟩
    rw [F.errV_out e2, hme]
    clear hX hS hG e1 e2 hme
    go_enter Try.func34, Try.ntmps34
    go_wp2_with (at_lookup; refine wpList_lookG (X := kI) rfl _ _ _ rfl _ Try.underlying69 (zeroI _) pN_zero bv 4096 rfl HM.out v rfl hv _ _ HV.out.1 HV.out.2 ?_)
    go_ret
    exact ⟨rfl, FRT.same HFR.out (Below.refl _ _)⟩

set_option maxRecDepth 100000 in
set_option maxHeartbeats 4000000 in
theorem fMarkE (w : World) (f : Nat) (S : Nat → Prop) (F : FS) (h : FR w f S F) (v : Int) (hv : I64 v) (on : Bool) :
    Calls Try.prog 26 #[.pointer (some ⟨f, 0, none⟩), .int .i64 v, .bool on] w fun e w' => e = .returned (.int .i64 (F.errE v)) ∧ FRT w f S (F.markEA v on) w' := by
  obtain ⟨⟨g, bv, be, whoV, S0, hX, hS⟩, hG⟩ := h
  have a1 : w.cell? ⟨f, 2, none⟩ = some (.map (some be)) := hX.at_.blk.cell 2
  have HM := Lib.hid hX.at_.edges
  rcases hG.lookE v with ⟨a, b, e1, e2, ha, hb⟩ | ⟨e1, e2⟩
  · have HV : Hid (((F.pe v).map fun x => Value.agg #[.int .i64 (x.1 : Int), .int .i64 (x.2 : Int)]).getD (.agg #[.int .i64 0, .int .i64 0]) = .agg #[.int .i64 (a : Int), .int .i64 (b : Int)] ∧ ((F.pe v).map fun x => Value.agg #[.int .i64 (x.1 : Int), .int .i64 (x.2 : Int)]).isSome = true) := Lib.hid (by rw [e1]; exact ⟨rfl, rfl⟩)
    have hme : F.markEA v on = F.markE v a on := by unfold FS.markEA; rw [e1]
    have hgood := hG.markE e1 on
    rw [F.errE_in e2, hme]
    have hk := known_of (M := F.M) ha
    have hset : F.M.setA (a : Int) ⟨0, 0, b01 on⟩ = F.M.set a ⟨0, 0, b01 on⟩ := by unfold RM.setA; rw [if_pos hk, Int.toNat_natCast]
    have herr : F.M.errA (a : Int) = 0 := by unfold RM.errA; rw [if_pos hk]
    obtain ⟨p, hp⟩ : ∃ p, p = w.heap.size := ⟨_, rfl⟩
    obtain ⟨W, hW⟩ : ∃ W, W = w.alloc (.cells #[.int .i64 (a : Int), .int .i64 (b : Int)] 79) := ⟨_, rfl⟩
    have hbW : Below w.heap.size w W := by rw [hW]; exact (Below.refl _ _).alloc (Nat.le_refl _) _
    have kW : Blk W p 79 #[.int .i64 (a : Int), .int .i64 (b : Int)] := by rw [hW, hp]; exact Blk.new _ _ _
    have x1 := hX.below hbW
    have HX := Lib.hid x1
    have KW := Lib.hid kW
    obtain ⟨gr, fv, Sr, hK, hKS⟩ := x1.at_.rope
    have HD2 : Hid (W.drew.cell? ⟨f, 0, none⟩ = some (.pointer (some ⟨g, 0, none⟩)) ∧ W.drew.cell? ⟨g, 0, none⟩ = some (.pointer (some ⟨gr, 0, none⟩)) ∧ W.drew.cell? ⟨p, 0, none⟩ = some (.int .i64 (a : Int))) := Lib.hid ⟨x1.at_.blk.cell 0, hK.blk.cell 0, kW.cell 0⟩
    have KD0 := Lib.hid hK
    have KD := Lib.hid (hK.below ((Below.refl _ _).drew))
    have KS := Lib.hid hKS
    clear hK hKS
    have HS := Lib.hid hS
    have HG := Lib.hid hgood
    have HE := Lib.hid hset
    have HR := Lib.hid herr
    have HBW := Lib.hid hbW
    have HWW := Lib.hid hW
    have HPP := Lib.hid hp
    have hcnt := fun w => count_any on w
    rw [run_count01] at hcnt
    have HC := Lib.hid hcnt
    clear hX hS hG e1 e2 hme hgood hk hset herr ha hb hcnt hp hW hbW kW x1
    go_enter Try.func26, Try.ntmps26
    go_upto_region 2 with (at_lookup; refine wpList_lookG (X := kI) rfl _ _ _ rfl _ Try.underlying70 (zeroP _) pP_zero be 4096 rfl HM.out v rfl hv _ _ HV.out.1 HV.out.2 ?_)
    rw [← HWW.out, ← HPP.out]
    clear a1
    have c0 : W.cell? ⟨f, 0, none⟩ = some (.pointer (some ⟨g, 0, none⟩)) := HX.out.at_.blk.cell 0
    have c1 : W.cell? ⟨p, 0, none⟩ = some (.int .i64 (a : Int)) := KW.out.cell 0
    have c2 : W.cell? ⟨g, 0, none⟩ = some (.pointer (some ⟨gr, 0, none⟩)) := KD0.out.blk.cell 0
    go_wp2_with fail
    go_region_held3 (fun w' => w'.cell? ⟨f, 0, none⟩ = some (.pointer (some ⟨g, 0, none⟩)) ∧ w'.cell? ⟨g, 0, none⟩ = some (.pointer (some ⟨gr, 0, none⟩)) ∧ w'.cell? ⟨p, 0, none⟩ = some (.int .i64 (a : Int))) (first | with_reducible exact HD2.out | with_reducible exact HC2.out | fail)
      (first | (go_at_call 52; refine (HC.out _).mono ?_; rintro e w2 ⟨rfl, h2⟩; subst w2) | (go_at_call 51; refine (rSet _ gr Sr F.M KD.out.rope (a : Int) ⟨0, 0, b01 on⟩).mono ?_; rw [HE.out, HR.out]; rintro e w3 ⟨rfl, t3⟩; have T3 := Lib.hid (KD.out.turn KS.out t3); have HC2 : Hid (w3.cell? ⟨f, 0, none⟩ = some (.pointer (some ⟨g, 0, none⟩)) ∧ w3.cell? ⟨g, 0, none⟩ = some (.pointer (some ⟨gr, 0, none⟩)) ∧ w3.cell? ⟨p, 0, none⟩ = some (.int .i64 (a : Int))) := (by obtain ⟨S4, r4, m4, n4⟩ := t3; exact Lib.hid ⟨((HX.out.at_.blk.drew).mod m4 (KD.out.rope.other HX.out.at_.blk.drew (by decide) (by decide) (by decide))).cell 0, (KD.out.blk.mod m4 KD.out.kNe.1).cell 0, ((KW.out.drew).mod m4 (KD.out.rope.other KW.out.drew (by decide) (by decide) (by decide))).cell 0⟩); clear t3))
    go_wp2_with fail
    go_ret
    obtain ⟨S4, x4, s4⟩ := (HX.out.below ((Below.refl _ _).drew)).ropeS T3.out
    exact ⟨rfl, (x4.fturn ((((Step.below _ HBW.out).trans (Step.below _ ((Below.refl _ _).drew))).trans s4).iff HS.out)).frt HG.out⟩
  · have HV : Hid (((F.pe v).map fun x => Value.agg #[.int .i64 (x.1 : Int), .int .i64 (x.2 : Int)]).getD (.agg #[.int .i64 0, .int .i64 0]) = .agg #[.int .i64 0, .int .i64 0] ∧ ((F.pe v).map fun x => Value.agg #[.int .i64 (x.1 : Int), .int .i64 (x.2 : Int)]).isSome = false) := Lib.hid (by rw [e1]; exact ⟨rfl, rfl⟩)
    have hme : F.markEA v on = F := by unfold FS.markEA; rw [e1]
    have HFR : Hid (FR w f S F) := Lib.hid ⟨⟨g, bv, be, whoV, S0, hX, hS⟩, hG⟩
    rw [F.errE_out e2, hme]
    clear hX hS hG e1 e2 hme
    go_enter Try.func26, Try.ntmps26
    go_wp2_with (at_lookup; refine wpList_lookG (X := kI) rfl _ _ _ rfl _ Try.underlying70 (zeroP _) pP_zero be 4096 rfl HM.out v rfl hv _ _ HV.out.1 HV.out.2 ?_)
    go_ret
    exact ⟨rfl, FRT.same HFR.out ((Below.refl _ _).alloc (Nat.le_refl _) _)⟩

end Go.Proofs.Ytlakcldgolpaiaa

/-
  The walks of some, SomeV, SomeE.
-/
namespace Go.Proofs.Ytlakcldgolpaiaa
open Go.RowKit Go.Maps
set_option linter.unusedVariables false

theorem first_lt {F : FS} (h : F.Good) {p : SV → Int} {a : Nat} (ha : 1 ≤ a ∧ a ≤ F.M.own.length) : F.M.firstOf p (F.M.rowOf a) < F.who.length := by
  have hl := h.len
  unfold RM.firstOf
  cases hf : (F.M.rowOf a).find? (fun j => marks p (F.M.val j)) with
  | none => show 0 < _; omega
  | some j =>
    have h1 := row_known h.mok (row_mem h.mok ha).1 (List.mem_of_find?_eq_some hf)
    show j < _
    omega

set_option maxRecDepth 100000 in
set_option maxHeartbeats 4000000 in
theorem some_any (w : World) (f : Nat) (S : Nat → Prop) (F : FS) (h : FR w f S F) (u : Int) (hu : I64 u) (p : SV → Int) (hp : Sel p) (i1 : Nat) (hf : ∀ (x : SV) (w : World), Calls Try.prog 85 #[.func (.func i1) #[] #[], x.v] w fun e w' => e = .returned (.bool (marks p x)) ∧ Below w.heap.size w w') (hfit : F.M.Fit p) :
    Calls Try.prog 53 #[.pointer (some ⟨f, 0, none⟩), .int .i64 u, .func (.func i1) #[] #[]] w fun e w' => (∃ x, e = .returned (.tuple #[.int .i64 x, .int .i64 (F.errV u)]) ∧ ((∃ a, F.pv u = some a ∧ x = (tok F.who (F.M.firstOf p (F.M.rowOf a))).2) ∨ u ∉ F.vs ∧ x = 0)) ∧ Below w.heap.size w w' := by
  obtain ⟨⟨g, bv, be, whoV, S0, hX, hS⟩, hG⟩ := h
  have a0 : w.cell? ⟨f, 0, none⟩ = _ := hX.at_.blk.cell 0
  have a1 : w.cell? ⟨f, 1, none⟩ = some (.map (some bv)) := hX.at_.blk.cell 1
  have HM := Lib.hid hX.at_.verts
  rcases hG.look u with ⟨a, e1, e2, ha⟩ | ⟨e1, e2⟩
  · have HV : Hid (((F.pv u).map fun a => Value.int .i64 (a : Int)).getD (.int .i64 0) = .int .i64 (a : Int) ∧ ((F.pv u).map fun a => Value.int .i64 (a : Int)).isSome = true) := Lib.hid (by rw [e1]; exact ⟨rfl, rfl⟩)
    obtain ⟨gr, fv, Sr, hK, -⟩ := hX.at_.rope
    have b0 : w.cell? ⟨g, 0, none⟩ = _ := hK.blk.cell 0
    have hseek := rSeek w gr Sr F.M hK.rope p hp _ hf hfit (a : Int)
    clear hK
    have he : F.M.errA (a : Int) = 0 := by unfold RM.errA; rw [if_pos (known_of ha)]
    have hr : F.M.seekA p (a : Int) = (F.M.firstOf p (F.M.rowOf a) : Nat) := by unfold RM.seekA; rw [if_pos (known_of ha), Int.toNat_natCast]
    rw [he, hr] at hseek
    rw [F.errV_in e2]
    have hj := first_lt hG (p := p) ha
    obtain ⟨j, hjj⟩ : ∃ j, j = F.M.firstOf p (F.M.rowOf a) := ⟨_, rfl⟩
    rw [← hjj] at hseek hj
    obtain ⟨wb, wc, hwv, hw1, hw2⟩ := hX.at_.who.shape (by have := hG.len; omega)
    have hc1 : w.cell? ⟨wb, j * 2 + 1, none⟩ = some (.int .i64 (tok F.who j).2) := by
      have h1 := hX.at_.who
      rw [hwv] at h1
      exact h1.cellK encTk_len (j := 1) (tok_get hj) rfl
    obtain ⟨x, hx⟩ : ∃ x, x = (tok F.who j).2 := ⟨_, rfl⟩
    rw [← hx] at hc1
    obtain ⟨wn, hwn⟩ : ∃ wn, wn = F.who.length := ⟨_, rfl⟩
    rw [← hwn] at hwv hw1 hj
    subst hwv
    have HBLK := Lib.hid hX.at_.blk
    have HSK := Lib.hid hseek
    have HRES : Hid ((∃ a, F.pv u = some a ∧ x = (tok F.who (F.M.firstOf p (F.M.rowOf a))).2) ∨ u ∉ F.vs ∧ x = 0) := Lib.hid (.inl ⟨a, e1, by rw [hx, hjj]⟩)
    have hwlt : wb < w.heap.size := (hX.at_.who.lt wb rfl).2
    have hflt : f < w.heap.size := hX.at_.blk.lt
    have hji : (j : Int) < (wn : Int) := by omega
    have f3 : w.cell? ⟨f, 3, none⟩ = some (.slice (some ⟨wb, 0, none⟩) wn wc) := hX.at_.blk.cell 3
    clear hX hS hG e1 e2 he hr hseek hjj hx hwn ha hf hfit
    go_enter Try.func53, Try.ntmps53
    go_wp2_with (at_lookup; refine wpList_lookG (X := kI) rfl _ _ _ rfl _ Try.underlying69 (zeroI _) pN_zero bv 4096 rfl HM.out u rfl hu _ _ HV.out.1 HV.out.2 ?_)
    refine HSK.out.mono ?_
    rintro e w1 ⟨rfl, b1⟩
    have B1 := Lib.hid b1
    have g3 := (b1.cell (p := ⟨f, 3, none⟩) hflt).trans f3
    have g4 := (b1.cell (p := ⟨wb, j * 2 + 1, none⟩) hwlt).trans hc1
    clear b1 a0 b0 a1 f3 hc1
    go_wp2_with fail
    go_ret2
    exact ⟨⟨_, rfl, HRES.out⟩, B1.out⟩
  · have HV : Hid (((F.pv u).map fun a => Value.int .i64 (a : Int)).getD (.int .i64 0) = .int .i64 0 ∧ ((F.pv u).map fun a => Value.int .i64 (a : Int)).isSome = false) := Lib.hid (by rw [e1]; exact ⟨rfl, rfl⟩)
    rw [F.errV_out e2]
    have HN := Lib.hid e2
    clear hX hS hG e1 e2 hf hfit
    go_enter Try.func53, Try.ntmps53
    go_wp2_with (at_lookup; refine wpList_lookG (X := kI) rfl _ _ _ rfl _ Try.underlying69 (zeroI _) pN_zero bv 4096 rfl HM.out u rfl hu _ _ HV.out.1 HV.out.2 ?_)
    go_ret2
    exact ⟨⟨_, rfl, .inr ⟨HN.out, rfl⟩⟩, Below.refl _ _⟩

set_option maxRecDepth 100000 in
set_option maxHeartbeats 4000000 in
theorem fSomeV (w : World) (f : Nat) (S : Nat → Prop) (F : FS) (h : FR w f S F) (u : Int) (hu : I64 u) :
    Calls Try.prog 33 #[.pointer (some ⟨f, 0, none⟩), .int .i64 u] w fun e w' => (∃ x, e = .returned (.tuple #[.int .i64 x, .int .i64 (F.errV u)]) ∧ (u ∈ F.vs → SomeOk (fun i => F.inV u i ∧ F.mv i = true) x) ∧ (u ∉ F.vs → x = 0)) ∧ Below w.heap.size w w' := by
  have hfit : F.M.Fit SV.m := fun v hv => by have := h.2.fit v hv; omega
  have hs := some_any w f S F h u hu SV.m sel_m 57 holdsV_any hfit
  have hres : ∀ x, ((∃ a, F.pv u = some a ∧ x = (tok F.who (F.M.firstOf SV.m (F.M.rowOf a))).2) ∨ u ∉ F.vs ∧ x = 0) → (u ∈ F.vs → SomeOk (fun i => F.inV u i ∧ F.mv i = true) x) ∧ (u ∉ F.vs → x = 0) := by
    rintro x (⟨a, e1, rfl⟩ | ⟨e1, rfl⟩)
    · exact ⟨fun _ => h.2.someV e1, fun hn => absurd ((h.2.vs u).2 (by rw [e1]; simp)) hn⟩
    · exact ⟨fun hn => absurd hn e1, fun _ => rfl⟩
  have HS := Lib.hid hs
  have HR := Lib.hid hres
  clear hs hres hfit h
  go_enter Try.func33, Try.ntmps33
  go_wp2_with fail
  refine HS.out.mono ?_
  rintro e w1 ⟨⟨x, rfl, hx⟩, b1⟩
  have HX := Lib.hid (HR.out x hx)
  have B1 := Lib.hid b1
  clear hx b1
  go_wp2_with fail
  go_ret2
  exact ⟨⟨_, rfl, HX.out⟩, B1.out⟩

set_option maxRecDepth 100000 in
set_option maxHeartbeats 4000000 in
theorem fSomeE (w : World) (f : Nat) (S : Nat → Prop) (F : FS) (h : FR w f S F) (u : Int) (hu : I64 u) :
    Calls Try.prog 27 #[.pointer (some ⟨f, 0, none⟩), .int .i64 u] w fun e w' => (∃ x, e = .returned (.tuple #[.int .i64 x, .int .i64 (F.errV u)]) ∧ (u ∈ F.vs → SomeOk (fun i => F.inE u i ∧ F.me i = true) x) ∧ (u ∉ F.vs → x = 0)) ∧ Below w.heap.size w w' := by
  have hfit : F.M.Fit SV.e := fun v hv => by have := h.2.fit v hv; omega
  have hs := some_any w f S F h u hu SV.e sel_e 54 holdsE_any hfit
  have hres : ∀ x, ((∃ a, F.pv u = some a ∧ x = (tok F.who (F.M.firstOf SV.e (F.M.rowOf a))).2) ∨ u ∉ F.vs ∧ x = 0) → (u ∈ F.vs → SomeOk (fun i => F.inE u i ∧ F.me i = true) x) ∧ (u ∉ F.vs → x = 0) := by
    rintro x (⟨a, e1, rfl⟩ | ⟨e1, rfl⟩)
    · exact ⟨fun _ => h.2.someE e1, fun hn => absurd ((h.2.vs u).2 (by rw [e1]; simp)) hn⟩
    · exact ⟨fun hn => absurd hn e1, fun _ => rfl⟩
  have HS := Lib.hid hs
  have HR := Lib.hid hres
  clear hs hres hfit h
  go_enter Try.func27, Try.ntmps27
  go_wp2_with fail
  refine HS.out.mono ?_
  rintro e w1 ⟨⟨x, rfl, hx⟩, b1⟩
  have HX := Lib.hid (HR.out x hx)
  have B1 := Lib.hid b1
  clear hx b1
  go_wp2_with fail
  go_ret2
  exact ⟨⟨_, rfl, HX.out⟩, B1.out⟩

end Go.Proofs.Ytlakcldgolpaiaa

/-
  The walks of AddV, DelV.
-/
namespace Go.Proofs.Ytlakcldgolpaiaa
open Go.RowKit Go.Maps
set_option linter.unusedVariables false

theorem FS.Good.vkeys {F : FS} (h : F.Good) : ∀ i, i ∈ F.vs ↔ I64 i ∧ ((F.pv i).map fun a => Value.int .i64 (a : Int)).isSome = true := fun i => by
  rw [h.vs i]
  constructor
  · intro hne
    have h2 := h.vid i ((h.vs i).2 hne)
    refine ⟨by unfold I64; omega, ?_⟩
    cases e : F.pv i with
    | none => exact absurd e hne
    | some a => rfl
  · rintro ⟨-, h2⟩ e
    rw [e] at h2; cases h2

theorem FS.Good.ekeys {F : FS} (h : F.Good) : ∀ i, i ∈ ids F.edges ↔ I64 i ∧ ((F.pe i).map fun x => Value.agg #[.int .i64 (x.1 : Int), .int .i64 (x.2 : Int)]).isSome = true := fun i => by
  obtain ⟨W, hW⟩ := h.ok
  rw [hW.has i]
  constructor
  · intro hne
    have h2 := h.eid i ((hW.has i).2 hne)
    refine ⟨by unfold I64; omega, ?_⟩
    cases e : F.pe i with
    | none => exact absurd e hne
    | some a => rfl
  · rintro ⟨-, h2⟩ e
    rw [e] at h2; cases h2

theorem FS.Good.edges_few {F : FS} (h : F.Good) : (ids F.edges).length ≤ 4096 := by
  obtain ⟨W, hW⟩ := h.ok
  have hpc := places_count hW h.nd h.vs
  have hvc := verts_count hW h.nd h.vs
  have hfew := h.few
  have hsub : ((ids F.edges).map fun i => ((F.pe i).getD (0, 0)).1) ⊆ W.flatten.filter fun a => !isV (tok F.who a) := by
    intro c hc
    obtain ⟨i, hi, rfl⟩ := List.mem_map.1 hc
    obtain ⟨⟨a, b⟩, e⟩ := Option.ne_none_iff_exists'.1 ((hW.has i).1 hi)
    obtain ⟨-, h2, -, h3, -⟩ := hW.edge i a b e
    rw [e]
    exact List.mem_filter.2 ⟨h2, by show (!isV (tok F.who a)) = true; rw [h3]; rfl⟩
  have hnd : ((ids F.edges).map fun i => ((F.pe i).getD (0, 0)).1).Nodup := by
    refine List.pairwise_map.2 (hW.nd.imp_of_mem fun {i j} hi hj hne e => hne ?_)
    obtain ⟨⟨a, b⟩, e1⟩ := Option.ne_none_iff_exists'.1 ((hW.has i).1 hi)
    obtain ⟨⟨c, d⟩, e2⟩ := Option.ne_none_iff_exists'.1 ((hW.has j).1 hj)
    rw [e1, e2] at e
    have e : a = c := e
    have h3 := (hW.edge i a b e1).2.2.2.1
    have h4 := (hW.edge j c d e2).2.2.2.1
    rw [e, h4] at h3
    injection h3 with _ h3
    exact h3.symm
  have h1 := hnd.length_le_of_subset hsub
  rw [List.length_map] at h1
  have h2 : (W.flatten.filter fun a => isV (tok F.who a)).length + (W.flatten.filter fun a => !isV (tok F.who a)).length = W.flatten.length := by
    have := (filter_perm (fun a => isV (tok F.who a)) W.flatten).length_eq
    rw [List.length_append] at this
    exact this
  omega

theorem FS.Good.vbound {F : FS} (h : F.Good) {w : World} {b n : Nat} (hM : MapG kI pN w b n (fun i : Int => (F.pv i).map fun a => .int .i64 (a : Int))) : MapG kI pN w b 4096 (fun i : Int => (F.pv i).map fun a => .int .i64 (a : Int)) :=
  (MapG.bound (X := kI) hM (L := F.vs) h.nd h.vkeys).mono (by have := h.few; omega)

theorem FS.Good.ebound {F : FS} (h : F.Good) {w : World} {b n : Nat} (hM : MapG kI pP w b n (fun i : Int => (F.pe i).map fun x => .agg #[.int .i64 (x.1 : Int), .int .i64 (x.2 : Int)])) : MapG kI pP w b 4096 (fun i : Int => (F.pe i).map fun x => .agg #[.int .i64 (x.1 : Int), .int .i64 (x.2 : Int)]) :=
  (MapG.bound (X := kI) hM (L := ids F.edges) (by obtain ⟨W, hW⟩ := h.ok; exact hW.nd) h.ekeys).mono h.edges_few

/-- A new vertex's place goes into the map. -/
theorem store_v {F F' : FS} {w : World} {b : Nat} (hM : MapG kI pN w b 4096 (fun i : Int => (F.pv i).map fun a => .int .i64 (a : Int))) {v : Int} (hv : I64 v) {a : Nat} (hG : F'.Good) (e : F'.pv = putV F.pv v (some a)) :
    ∃ w', (Instr.mapUpdate 69 (.map (some b)) (.int .i64 v) (.int .i64 (a : Int))).run Try.prog w = .ok () w' ∧ MapG kI pN w' b 4096 (fun i : Int => (F'.pv i).map fun a => .int .i64 (a : Int)) ∧ w.mapTurned w' b := by
  obtain ⟨w', h1, h2, h3⟩ := MapG.store (X := kI) hM Try.underlying69 (by omega) (a := v) hv (v := .int .i64 (a : Int)) ⟨_, rfl⟩
  refine ⟨w', h1, hG.vbound (MapG.cast (X := kI) h2 fun i hi => ?_), h3⟩
  rw [e]
  unfold putV
  by_cases hi : i = v
  · rw [if_pos hi, if_pos hi]; rfl
  · rw [if_neg hi, if_neg hi]

theorem store_e {F F' : FS} {w : World} {b : Nat} (hM : MapG kI pP w b 4096 (fun i : Int => (F.pe i).map fun x => .agg #[.int .i64 (x.1 : Int), .int .i64 (x.2 : Int)])) {v : Int} (hv : I64 v) {x : Nat × Nat} (hG : F'.Good) (e : F'.pe = putE F.pe v (some x)) :
    ∃ w', (Instr.mapUpdate 70 (.map (some b)) (.int .i64 v) (.agg #[.int .i64 (x.1 : Int), .int .i64 (x.2 : Int)])).run Try.prog w = .ok () w' ∧ MapG kI pP w' b 4096 (fun i : Int => (F'.pe i).map fun x => .agg #[.int .i64 (x.1 : Int), .int .i64 (x.2 : Int)]) ∧ w.mapTurned w' b := by
  obtain ⟨w', h1, h2, h3⟩ := MapG.store (X := kI) hM Try.underlying70 (by omega) (a := v) hv (v := .agg #[.int .i64 (x.1 : Int), .int .i64 (x.2 : Int)]) ⟨((x.1 : Int), (x.2 : Int)), rfl⟩
  refine ⟨w', h1, hG.ebound (MapG.cast (X := kI) h2 fun i hi => ?_), h3⟩
  rw [e]
  unfold putE
  by_cases hi : i = v
  · rw [if_pos hi, if_pos hi]; rfl
  · rw [if_neg hi, if_neg hi]

theorem drop_v {F F' : FS} {w : World} {b : Nat} (hM : MapG kI pN w b 4096 (fun i : Int => (F.pv i).map fun a => .int .i64 (a : Int))) {v : Int} (hv : I64 v) (hG : F'.Good) (e : F'.pv = putV F.pv v none) (ty : TypeId) :
    ∃ w', (Builtin.delete_ #[69, 3] ty #[.map (some b), .int .i64 v]).run Try.prog w = .ok (.tuple #[]) w' ∧ MapG kI pN w' b 4096 (fun i : Int => (F'.pv i).map fun a => .int .i64 (a : Int)) ∧ w.mapTurned w' b := by
  obtain ⟨w', h1, h2, h3⟩ := MapG.drop (X := kI) hM Try.underlying69 (a := v) hv ty
  refine ⟨w', h1, hG.vbound (MapG.cast (X := kI) h2 fun i hi => ?_), h3⟩
  rw [e]
  unfold putV
  by_cases hi : i = v
  · rw [if_pos hi, if_pos hi]; rfl
  · rw [if_neg hi, if_neg hi]

theorem drop_e {F F' : FS} {w : World} {b : Nat} (hM : MapG kI pP w b 4096 (fun i : Int => (F.pe i).map fun x => .agg #[.int .i64 (x.1 : Int), .int .i64 (x.2 : Int)])) {v : Int} (hv : I64 v) (hG : F'.Good) (e : F'.pe = putE F.pe v none) (ty : TypeId) :
    ∃ w', (Builtin.delete_ #[70, 3] ty #[.map (some b), .int .i64 v]).run Try.prog w = .ok (.tuple #[]) w' ∧ MapG kI pP w' b 4096 (fun i : Int => (F'.pe i).map fun x => .agg #[.int .i64 (x.1 : Int), .int .i64 (x.2 : Int)]) ∧ w.mapTurned w' b := by
  obtain ⟨w', h1, h2, h3⟩ := MapG.drop (X := kI) hM Try.underlying70 (a := v) hv ty
  refine ⟨w', h1, hG.ebound (MapG.cast (X := kI) h2 fun i hi => ?_), h3⟩
  rw [e]
  unfold putE
  by_cases hi : i = v
  · rw [if_pos hi, if_pos hi]; rfl
  · rw [if_neg hi, if_neg hi]

theorem setV_cell {w w' : World} {f g bv be : Nat} {whoV : Value} {S0 : Nat → Prop} {M : RM SV} {pv fv : Int → Option Nat} {pe : Int → Option (Nat × Nat)} {who : List Tok} {free : List Nat} (h : FMX w f g bv be whoV S0 M pv pe who free) (ht : w.mapTurned w' bv) (hM : MapG kI pN w' bv 4096 (fun i : Int => (fv i).map fun a => .int .i64 (a : Int))) : w'.cell? ⟨f, 1, none⟩ = some (.map (some bv)) := (h.setV ht hM).1.at_.blk.cell 1

theorem setV_step {w w3 w4 : World} {f g bv be : Nat} {whoV whoV3 : Value} {S S0 S3 : Nat → Prop} {M : RM SV} {pv fv : Int → Option Nat} {pe : Int → Option (Nat × Nat)} {who : List Tok} {free : List Nat} (hS : ∀ k, ownF f bv be whoV S0 k ↔ S k) (h : FMX w3 f g bv be whoV3 S3 M pv pe who free) (s : Step (ownF f bv be whoV S0) w.drew (ownF f bv be whoV3 S3) w3) (ht : w3.mapTurned w4 bv) (hM : MapG kI pN w4 bv 4096 (fun i : Int => (fv i).map fun a => .int .i64 (a : Int))) : FTX w f g bv be S w4 M fv pe who free :=
  (h.setV ht hM).1.ftx (((Step.below _ ((Below.refl _ w).drew)).trans (s.trans (Step.same (h.setV ht hM).2))).iff hS)

theorem isIdI_yes {v : Int} (h : 1 ≤ v ∧ v ≤ 2147483647) : isIdI v = true := decide_eq_true h

theorem isIdI_no {v : Int} (h : ¬ (1 ≤ v ∧ v ≤ 2147483647)) : isIdI v = false := decide_eq_false h

open Classical in
noncomputable def FS.addE (F : FS) (v : Int) : Int := if 1 ≤ v ∧ v ≤ 2147483647 then (if v ∈ F.vs then 50 else if 2048 ≤ F.vs.length then 55 else 0) else 1

open Classical in
noncomputable def FS.addA (F : FS) (v : Int) : FS := if F.addE v = 0 then F.addv v else F

set_option maxRecDepth 100000 in
set_option maxHeartbeats 4000000 in
theorem fAddV (w : World) (f : Nat) (S : Nat → Prop) (F : FS) (h : FR w f S F) (v : Int) (hv : I64 v) :
    Calls Try.prog 32 #[.pointer (some ⟨f, 0, none⟩), .int .i64 v] w fun e w' => e = .returned (.int .i64 (F.addE v)) ∧ FRT w f S (F.addA v) w' := by
  have hid := fun w => isId_any v w
  by_cases h0 : 1 ≤ v ∧ v ≤ 2147483647
  · rw [isIdI_yes h0] at hid
    have HID := Lib.hid hid
    clear hid
    have h1 := h
    obtain ⟨⟨g, bv, be, whoV, S0, hX, hS⟩, hG⟩ := h1
    have a1 : w.cell? ⟨f, 1, none⟩ = some (.map (some bv)) := hX.at_.blk.cell 1
    have HM := Lib.hid hX.at_.verts
    by_cases h2 : v ∈ F.vs
    · have he : F.addE v = 50 := by unfold FS.addE; rw [if_pos h0, if_pos h2]
      have ha : F.addA v = F := by unfold FS.addA; rw [he, if_neg (by decide)]
      rw [he, ha]
      obtain ⟨a, e1⟩ := Option.ne_none_iff_exists'.1 ((hG.vs v).1 h2)
      have HV : Hid (((F.pv v).map fun a => Value.int .i64 (a : Int)).getD (.int .i64 0) = .int .i64 (a : Int) ∧ ((F.pv v).map fun a => Value.int .i64 (a : Int)).isSome = true) := Lib.hid (by rw [e1]; exact ⟨rfl, rfl⟩)
      have HFR := Lib.hid h
      clear h hX hS hG h2 he ha e1 h0
      go_enter Try.func32, Try.ntmps32
      go_wp2_with fail
      refine (HID.out w).mono ?_
      rintro e w1 ⟨rfl, hw⟩
      subst w1
      go_wp2_with (at_lookup; refine wpList_lookG (X := kI) rfl _ _ _ rfl _ Try.underlying69 (zeroI _) pN_zero bv 4096 rfl HM.out v rfl hv _ _ HV.out.1 HV.out.2 ?_)
      go_ret
      exact ⟨rfl, FRT.same HFR.out (Below.refl _ _)⟩
    · have e1 : F.pv v = none := by
        cases e : F.pv v with
        | none => rfl
        | some a => exact absurd ((hG.vs v).2 (by rw [e]; simp)) h2
      have HV : Hid (((F.pv v).map fun a => Value.int .i64 (a : Int)).getD (.int .i64 0) = .int .i64 0 ∧ ((F.pv v).map fun a => Value.int .i64 (a : Int)).isSome = false) := Lib.hid (by rw [e1]; exact ⟨rfl, rfl⟩)
      have hlen := fun ty => MapG.len (X := kI) hX.at_.verts Try.underlying69 hG.nd hG.vkeys ty
      obtain ⟨n, hn⟩ : ∃ n, n = F.vs.length := ⟨_, rfl⟩
      rw [← hn] at hlen
      have hn2 : n ≤ 2048 := by rw [hn]; exact hG.few
      by_cases h3 : 2048 ≤ n
      · have he : F.addE v = 55 := by unfold FS.addE; rw [if_pos h0, if_neg h2, if_pos (by omega)]
        have ha : F.addA v = F := by unfold FS.addA; rw [he, if_neg (by decide)]
        rw [he, ha]
        have d0 : decide (2048 ≤ (n : Int)) = true := by simp; omega
        have HFR := Lib.hid h
        clear h hX hS hG h2 he ha e1 h0 hn h3
        go_enter Try.func32, Try.ntmps32
        go_wp2_with fail
        refine (HID.out w).mono ?_
        rintro e w1 ⟨rfl, hw⟩
        subst w1
        go_wp2_with (at_lookup; refine wpList_lookG (X := kI) rfl _ _ _ rfl _ Try.underlying69 (zeroI _) pN_zero bv 4096 rfl HM.out v rfl hv _ _ HV.out.1 HV.out.2 ?_)
        go_ret
        exact ⟨rfl, FRT.same HFR.out (Below.refl _ _)⟩
      · have he : F.addE v = 0 := by unfold FS.addE; rw [if_pos h0, if_neg h2, if_neg (by omega)]
        have ha : F.addA v = F.addv v := by unfold FS.addA; rw [he, if_pos rfl]
        rw [he, ha]
        have hgood := hG.addv h0 h2 (by omega)
        obtain ⟨WW, hW⟩ := hG.ok
        have htake := take_any w.drew (hX.below ((Below.refl _ _).drew)) (fun k => Iff.rfl) hW.ok hW.rows hW.len (by have := hG.own; omega) (vt v) (⟨1, 0, 0⟩ : SV)
        obtain ⟨a, haa⟩ : ∃ a, a = takeN F.M.own.length F.free := ⟨_, rfl⟩
        rw [← haa] at htake
        have hpv : (F.addv v).pv = putV F.pv v (some a) := by rw [haa]; rfl
        have d0 : decide (2048 ≤ (n : Int)) = false := by simp; omega
        have HD2 : Hid (w.drew.cell? ⟨f, 1, none⟩ = some (.map (some bv))) := Lib.hid (hX.at_.blk.cell 1)
        have HT := Lib.hid htake
        have HG := Lib.hid hgood
        have HP := Lib.hid hpv
        have HS := Lib.hid hS
        have c1 : w.cell? ⟨f, 1, none⟩ = some (.map (some bv)) := hX.at_.blk.cell 1
        clear h hX hS hG h2 he ha e1 h0 hn h3 htake haa hgood hW hpv
        go_enter Try.func32, Try.ntmps32
        go_wp2_with fail
        refine (HID.out w).mono ?_
        rintro e w1 ⟨rfl, hw⟩
        subst w1
        go_wp2_with (at_lookup; refine wpList_lookG (X := kI) rfl _ _ _ rfl _ Try.underlying69 (zeroI _) pN_zero bv 4096 rfl HM.out v rfl hv _ _ HV.out.1 HV.out.2 ?_)
        go_region_held3 (fun w' => w'.cell? ⟨f, 1, none⟩ = some (.map (some bv))) (first | with_reducible exact HD2.out | with_reducible exact HC2.out | with_reducible exact HC4.out | fail)
          ((go_at_call 45; refine HT.out.mono ?_; rintro e w3 ⟨rfl, t3⟩; obtain ⟨whoV3, S3, x3, s3⟩ := t3; obtain ⟨w4, hrun, m4, k4⟩ := store_v (F := F) (F' := F.addv v) x3.at_.verts hv HG.out HP.out; have HC2 : Hid (w3.cell? ⟨f, 1, none⟩ = some (.map (some bv))) := Lib.hid (x3.at_.blk.cell 1); have HC4 : Hid (w4.cell? ⟨f, 1, none⟩ = some (.map (some bv))) := Lib.hid (setV_cell x3 k4 m4); have X4 := Lib.hid (setV_step HS.out x3 s3 k4 m4); clear x3 s3 m4 k4))
        go_wp2_with fail
        go_ret
        exact ⟨rfl, FTurn.frt (F := F.addv v) X4.out.fturn HG.out⟩
  · rw [isIdI_no h0] at hid
    have HID := Lib.hid hid
    have HFR := Lib.hid h
    have he : F.addE v = 1 := by unfold FS.addE; rw [if_neg h0]
    have ha : F.addA v = F := by unfold FS.addA; rw [he, if_neg (by decide)]
    rw [he, ha]
    clear hid h he ha h0
    go_enter Try.func32, Try.ntmps32
    go_wp2_with fail
    refine (HID.out w).mono ?_
    rintro e w1 ⟨rfl, hw⟩
    subst w1
    go_wp2_with fail
    go_ret
    exact ⟨rfl, FRT.same HFR.out (Below.refl _ _)⟩

end Go.Proofs.Ytlakcldgolpaiaa

/-
  The walk of DelV.
-/
namespace Go.Proofs.Ytlakcldgolpaiaa
open Go.RowKit Go.Maps
set_option linter.unusedVariables false

open Classical in
noncomputable def FS.delE (F : FS) (v : Int) : Int := if 1 ≤ v ∧ v ≤ 2147483647 then (if v ∈ F.vs then (if F.busy v then 52 else 0) else 51) else 1

open Classical in
noncomputable def FS.delA (F : FS) (v : Int) : FS := if F.delE v = 0 then F.delv v ((F.pv v).getD 0) else F

set_option maxRecDepth 100000 in
set_option maxHeartbeats 4000000 in
theorem fDelV (w : World) (f : Nat) (S : Nat → Prop) (F : FS) (h : FR w f S F) (v : Int) (hv : I64 v) :
    Calls Try.prog 37 #[.pointer (some ⟨f, 0, none⟩), .int .i64 v] w fun e w' => e = .returned (.int .i64 (F.delE v)) ∧ FRT w f S (F.delA v) w' := by
  have hid := fun w => isId_any v w
  by_cases h0 : 1 ≤ v ∧ v ≤ 2147483647
  · rw [isIdI_yes h0] at hid
    have HID := Lib.hid hid
    clear hid
    have hsz := fSize w f S F h v hv
    by_cases h2 : v ∈ F.vs
    · rw [F.errV_in h2] at hsz
      obtain ⟨n, hn⟩ : ∃ n, n = (F.treeV v).length := ⟨_, rfl⟩
      rw [← hn] at hsz
      have HSZ := Lib.hid hsz
      have hbz := h.2.busy_iff h2 (F.riseV h2)
      rw [← hn] at hbz
      by_cases h3 : 1 < n
      · have hb := hbz.1 h3
        have he : F.delE v = 52 := by unfold FS.delE; rw [if_pos h0, if_pos h2, if_pos hb]
        have ha : F.delA v = F := by unfold FS.delA; rw [he, if_neg (by decide)]
        rw [he, ha]
        have HFR := Lib.hid h
        have d0 : decide (1 < (n : Int)) = true := by simp; omega
        clear h h2 he ha h0 hn h3 hb hbz hsz
        go_enter Try.func37, Try.ntmps37
        go_wp2_with fail
        refine (HID.out w).mono ?_
        rintro e w1 ⟨rfl, hw⟩
        subst w1
        go_wp2_with fail
        refine HSZ.out.mono ?_
        rintro e w1 ⟨rfl, b1⟩
        have B1 := Lib.hid b1
        clear b1
        go_wp2_with fail
        go_ret
        exact ⟨rfl, FRT.same HFR.out B1.out⟩
      · have hb : ¬ F.busy v := fun e => h3 (hbz.2 e)
        have he : F.delE v = 0 := by unfold FS.delE; rw [if_pos h0, if_pos h2, if_neg hb]
        have ha : F.delA v = F.delv v ((F.pv v).getD 0) := by unfold FS.delA; rw [he, if_pos rfl]
        rw [he, ha]
        obtain ⟨a, e1⟩ := Option.ne_none_iff_exists'.1 ((h.2.vs v).1 h2)
        rw [e1, show (some a).getD 0 = a from rfl]
        have hal := h.2.alone e1 (F.riseV h2) (by omega)
        have hgood := h.2.delv e1 hal
        have hal2 : a < F.who.length := by
          have hl := h.2.len
          obtain ⟨WW, hW⟩ := h.2.ok
          have := (hW.placeV e1).2.2
          omega
        have hfl : F.free.length + 1 ≤ 1000000 := by
          obtain ⟨WW, hW⟩ := h.2.ok
          have h1 := own_count hW.ok hW.rows
          rw [List.flatten_append, List.length_append] at h1
          have h2 : (lone F.free).flatten.length = F.free.length := by
            have : ∀ l : List Nat, (lone l).flatten.length = l.length := by
              intro l
              induction l with
              | nil => rfl
              | cons x l ih => show (x :: (lone l).flatten).length = _; rw [List.length_cons, ih, List.length_cons]
            exact this F.free
          have := h.2.own
          omega
        have HFR := Lib.hid h
        have d0 : decide (1 < (n : Int)) = false := by simp; omega
        have HG := Lib.hid hgood
        have HV : Hid (((F.pv v).map fun a => Value.int .i64 (a : Int)).getD (.int .i64 0) = .int .i64 (a : Int)) := Lib.hid (by rw [e1]; rfl)
        have HAL := Lib.hid hal2
        have HFL := Lib.hid hfl
        clear h h2 he ha h0 hn h3 hb hbz hsz hgood hal hal2 hfl e1
        go_enter Try.func37, Try.ntmps37
        go_wp2_with fail
        refine (HID.out w).mono ?_
        rintro e w1 ⟨rfl, hw⟩
        subst w1
        go_wp2_with fail
        refine HSZ.out.mono ?_
        rintro e w1 ⟨rfl, b1⟩
        have B1 := Lib.hid b1
        obtain ⟨⟨g, bv, be, whoV, S0, hX, hS⟩, hG⟩ := HFR.out.below b1
        have a1 : w1.cell? ⟨f, 1, none⟩ = some (.map (some bv)) := hX.at_.blk.cell 1
        have HM := Lib.hid hX.at_.verts
        have hgive := give_any w1 hX hS a HAL.out HFL.out
        have HGV := Lib.hid hgive
        clear b1 hX hS hG hgive
        go_wp2_with (at_lookup; refine wpList_lookG1 (X := kI) rfl _ _ _ rfl _ Try.underlying69 (zeroI _) pN_zero bv 4096 rfl HM.out v rfl hv _ HV.out ?_)
        refine HGV.out.mono ?_
        rintro e w2 ⟨rfl, whoV2, S2, x2, s2⟩
        obtain ⟨w3, hrun, m3, k3⟩ := drop_v (F := F) (F' := F.delv v a) x2.at_.verts hv HG.out rfl 0
        have b1 : w2.cell? ⟨f, 1, none⟩ = some (.map (some bv)) := x2.at_.blk.cell 1
        have X2 := Lib.hid x2
        have S2H := Lib.hid s2
        have M3 := Lib.hid m3
        have K3 := Lib.hid k3
        clear x2 s2 m3 k3 a1
        go_wp2_with fail
        go_ret
        refine ⟨rfl, ?_⟩
        have x3 := X2.out.setV K3.out M3.out
        exact FTurn.frt (F := F.delv v a) (x3.1.fturn ((Step.below _ B1.out).trans (S2H.out.trans (Step.same x3.2)))) HG.out
    · rw [F.errV_out h2, F.outV h2] at hsz
      have HSZ := Lib.hid hsz
      have he : F.delE v = 51 := by unfold FS.delE; rw [if_pos h0, if_neg h2]
      have ha : F.delA v = F := by unfold FS.delA; rw [he, if_neg (by decide)]
      rw [he, ha]
      have HFR := Lib.hid h
      clear h h2 he ha h0 hsz
      go_enter Try.func37, Try.ntmps37
      go_wp2_with fail
      refine (HID.out w).mono ?_
      rintro e w1 ⟨rfl, hw⟩
      subst w1
      go_wp2_with fail
      refine HSZ.out.mono ?_
      rintro e w1 ⟨rfl, b1⟩
      have B1 := Lib.hid b1
      clear b1
      go_wp2_with fail
      go_ret
      exact ⟨rfl, FRT.same HFR.out B1.out⟩
  · rw [isIdI_no h0] at hid
    have HID := Lib.hid hid
    have HFR := Lib.hid h
    have he : F.delE v = 1 := by unfold FS.delE; rw [if_neg h0]
    have ha : F.delA v = F := by unfold FS.delA; rw [he, if_neg (by decide)]
    rw [he, ha]
    clear hid h he ha h0
    go_enter Try.func37, Try.ntmps37
    go_wp2_with fail
    refine (HID.out w).mono ?_
    rintro e w1 ⟨rfl, hw⟩
    subst w1
    go_wp2_with fail
    go_ret
    exact ⟨rfl, FRT.same HFR.out (Below.refl _ _)⟩

end Go.Proofs.Ytlakcldgolpaiaa

/-
  The walk of Link.
-/
namespace Go.Proofs.Ytlakcldgolpaiaa
open Go.RowKit Go.Maps
set_option linter.unusedVariables false

open Classical in
noncomputable def FS.joinB (F : FS) (u v : Int) : Bool := decide (u ∈ F.vs ∧ v ∈ F.vs ∧ Conn F.edges u v)

open Classical in
noncomputable def FS.joinX (F : FS) (u v : Int) : Int := if u ∈ F.vs ∧ v ∈ F.vs then 0 else 51

open Classical in
theorem FS.joinB_no (F : FS) {u v : Int} (h : ¬ (u ∈ F.vs ∧ v ∈ F.vs ∧ Conn F.edges u v)) : F.joinB u v = false := decide_eq_false h

open Classical in
theorem FS.joinB_yes (F : FS) {u v : Int} (h : u ∈ F.vs ∧ v ∈ F.vs ∧ Conn F.edges u v) : F.joinB u v = true := decide_eq_true h

theorem fJoinedR (w : World) (f : Nat) (S : Nat → Prop) (F : FS) (h : FR w f S F) (u v : Int) (hu : I64 u) (hv : I64 v) :
    Calls Try.prog 25 #[.pointer (some ⟨f, 0, none⟩), .int .i64 u, .int .i64 v] w fun e w' => e = .returned (.tuple #[.bool (F.joinB u v), .int .i64 (F.joinX u v)]) ∧ w' = w := by
  obtain ⟨⟨g, bv, be, whoV, S0, hX, hS⟩, hG⟩ := h
  refine (fJoined w hX.at_ u v hu hv).mono ?_
  obtain ⟨W, hW⟩ := hG.ok
  rintro e w' ⟨h1, h2⟩
  refine ⟨?_, h2⟩
  rcases hG.look u with ⟨a, e1, e2, ha⟩ | ⟨e1, e2⟩
  · rcases hG.look v with ⟨b, e3, e4, hb⟩ | ⟨e3, e4⟩
    · rw [e1, e3] at h1
      have h1 : e = _ := h1
      rw [h1]
      have q1 : F.M.errAB (a : Int) (b : Int) = 0 := by unfold RM.errAB; rw [if_pos ⟨known_of ha, known_of hb⟩]
      have q2 : F.joinX u v = 0 := by unfold FS.joinX; rw [if_pos ⟨e2, e4⟩]
      have q3 : F.M.sameA (a : Int) (b : Int) = F.joinB u v := by
        unfold RM.sameA FS.joinB
        rw [if_pos ⟨known_of ha, known_of hb⟩]
        simp only [Int.toNat_natCast]
        rw [decide_eq_decide]
        rw [hW.joined e1 e3]
        exact ⟨fun h => ⟨e2, e4, h⟩, fun h => h.2.2⟩
      rw [q1, q2, q3]
    · rw [e1, e3] at h1
      have h1 : e = _ := h1
      rw [h1]
      have q2 : F.joinX u v = 51 := by unfold FS.joinX; rw [if_neg (fun h => e4 h.2)]
      have q3 : F.joinB u v = false := F.joinB_no fun h => e4 h.2.1
      rw [q2, q3]
  · rw [e1] at h1
    have h1 : e = _ := h1
    rw [h1]
    have q2 : F.joinX u v = 51 := by unfold FS.joinX; rw [if_neg (fun h => e2 h.1)]
    have q3 : F.joinB u v = false := F.joinB_no fun h => e2 h.1
    rw [q2, q3]

theorem fHasR (w : World) (f : Nat) (S : Nat → Prop) (F : FS) (h : FR w f S F) (id : Int) (hi : I64 id) :
    Calls Try.prog 13 #[.pointer (some ⟨f, 0, none⟩), .int .i64 id] w fun e w' => e = .returned (.bool (decide (id ∈ ids F.edges))) ∧ Below w.heap.size w w' := by
  obtain ⟨⟨g, bv, be, whoV, S0, hX, hS⟩, hG⟩ := h
  refine (fHas w hX.at_ id hi).mono ?_
  rintro e w' ⟨h1, h2⟩
  refine ⟨?_, h2⟩
  rw [h1]
  obtain ⟨W, hW⟩ := hG.ok
  have : (F.pe id).isSome = decide (id ∈ ids F.edges) := by
    rw [Bool.eq_iff_iff, decide_eq_true_iff, hW.has id]
    cases F.pe id <;> simp
  rw [this]

theorem fLenR (w : World) (f : Nat) (S : Nat → Prop) (F : FS) (h : FR w f S F) :
    Calls Try.prog 12 #[.pointer (some ⟨f, 0, none⟩)] w fun e w' => e = .returned (.int .i64 (F.vs.length : Nat)) ∧ w' = w := by
  obtain ⟨⟨g, bv, be, whoV, S0, hX, hS⟩, hG⟩ := h
  refine fLen w hX.at_ hG.nd fun i => ?_
  rw [hG.vkeys i]
  cases F.pv i <;> simp

def okId (v : Int) : Prop := 1 ≤ v ∧ v ≤ 2147483647

open Classical in
noncomputable def FS.linkE (F : FS) (id u v : Int) : Int := if okId id ∧ okId u ∧ okId v then (if id ∈ ids F.edges then 50 else if u ∈ F.vs ∧ v ∈ F.vs then (if Conn F.edges u v then 151 else 0) else 51) else 1

open Classical in
noncomputable def FS.linkA (F : FS) (id u v : Int) : FS := if F.linkE id u v = 0 then F.link id u v ((F.pv u).getD 0) ((F.pv v).getD 0) else F

theorem FS.linkA_no (F : FS) {id u v x : Int} (h : F.linkE id u v = x) (hx : x ≠ 0) : F.linkA id u v = F := by unfold FS.linkA; rw [h, if_neg hx]

set_option maxRecDepth 100000 in
set_option maxHeartbeats 4000000 in
/-- The refusals of Link. -/
theorem link_no (w : World) (f : Nat) (S : Nat → Prop) (F : FS) (h : FR w f S F) (id u v : Int) (hi : I64 id) (hu : I64 u) (hv : I64 v) (hne : F.linkE id u v ≠ 0) :
    Calls Try.prog 18 #[.pointer (some ⟨f, 0, none⟩), .int .i64 id, .int .i64 u, .int .i64 v] w fun e w' => e = .returned (.int .i64 (F.linkE id u v)) ∧ Below w.heap.size w w' := by
  have k1 := fun w => isId_any id w
  have k2 := fun w => isId_any u w
  have k3 := fun w => isId_any v w
  by_cases h1 : okId id
  · rw [isIdI_yes h1] at k1
    by_cases h2 : okId u
    · rw [isIdI_yes h2] at k2
      by_cases h3 : okId v
      · rw [isIdI_yes h3] at k3
        have hhas := fHasR w f S F h id hi
        by_cases h4 : id ∈ ids F.edges
        · have he : F.linkE id u v = 50 := by unfold FS.linkE; rw [if_pos ⟨h1, h2, h3⟩, if_pos h4]
          rw [he]
          rw [decide_eq_true h4] at hhas
          have K1 := Lib.hid k1
          have K2 := Lib.hid k2
          have K3 := Lib.hid k3
          have KH := Lib.hid hhas
          clear h k1 k2 k3 h1 h2 h3 h4 hhas he hne
          go_enter Try.func18, Try.ntmps18
          go_wp2_with fail
          refine (K1.out w).mono ?_
          rintro e w1 ⟨rfl, hw⟩
          subst w1
          go_wp2_with fail
          refine (K2.out w).mono ?_
          rintro e w1 ⟨rfl, hw⟩
          subst w1
          go_wp2_with fail
          refine (K3.out w).mono ?_
          rintro e w1 ⟨rfl, hw⟩
          subst w1
          go_wp2_with fail
          refine KH.out.mono ?_
          rintro e w1 ⟨rfl, b1⟩
          have B1 := Lib.hid b1
          clear b1
          go_wp2_with fail
          go_ret
          exact ⟨rfl, B1.out⟩
        · rw [decide_eq_false h4] at hhas
          have hj : ∀ W, Below w.heap.size w W → _ := fun W hb => fJoinedR W f S F (h.below hb) u v hu hv
          by_cases h5 : u ∈ F.vs ∧ v ∈ F.vs
          · have e1 : F.joinX u v = 0 := by unfold FS.joinX; rw [if_pos h5]
            by_cases h6 : Conn F.edges u v
            · have he : F.linkE id u v = 151 := by unfold FS.linkE; rw [if_pos ⟨h1, h2, h3⟩, if_neg h4, if_pos h5, if_pos h6]
              have e2 : F.joinB u v = true := F.joinB_yes ⟨h5.1, h5.2, h6⟩
              rw [e1, e2] at hj
              rw [he]
              have K1 := Lib.hid k1
              have K2 := Lib.hid k2
              have K3 := Lib.hid k3
              have KH := Lib.hid hhas
              have KJ := Lib.hid hj
              clear h k1 k2 k3 h1 h2 h3 h4 hhas he hne e1 e2 h5 h6 hj
              go_enter Try.func18, Try.ntmps18
              go_wp2_with fail
              refine (K1.out w).mono ?_
              rintro e w1 ⟨rfl, hw⟩
              subst w1
              go_wp2_with fail
              refine (K2.out w).mono ?_
              rintro e w1 ⟨rfl, hw⟩
              subst w1
              go_wp2_with fail
              refine (K3.out w).mono ?_
              rintro e w1 ⟨rfl, hw⟩
              subst w1
              go_wp2_with fail
              refine KH.out.mono ?_
              rintro e w1 ⟨rfl, b1⟩
              have B1 := Lib.hid b1
              clear b1
              go_wp2_with fail
              refine (KJ.out w1 B1.out).mono ?_
              rintro e w2 ⟨rfl, hw⟩
              subst w2
              go_wp2_with fail
              go_ret
              exact ⟨rfl, B1.out⟩
            · exact absurd (by unfold FS.linkE; rw [if_pos ⟨h1, h2, h3⟩, if_neg h4, if_pos h5, if_neg h6]) hne
          · have he : F.linkE id u v = 51 := by unfold FS.linkE; rw [if_pos ⟨h1, h2, h3⟩, if_neg h4, if_neg h5]
            have e1 : F.joinX u v = 51 := by unfold FS.joinX; rw [if_neg h5]
            have e2 : F.joinB u v = false := F.joinB_no fun h => h5 ⟨h.1, h.2.1⟩
            rw [e1, e2] at hj
            rw [he]
            have K1 := Lib.hid k1
            have K2 := Lib.hid k2
            have K3 := Lib.hid k3
            have KH := Lib.hid hhas
            have KJ := Lib.hid hj
            clear h k1 k2 k3 h1 h2 h3 h4 hhas he hne e1 e2 h5 hj
            go_enter Try.func18, Try.ntmps18
            go_wp2_with fail
            refine (K1.out w).mono ?_
            rintro e w1 ⟨rfl, hw⟩
            subst w1
            go_wp2_with fail
            refine (K2.out w).mono ?_
            rintro e w1 ⟨rfl, hw⟩
            subst w1
            go_wp2_with fail
            refine (K3.out w).mono ?_
            rintro e w1 ⟨rfl, hw⟩
            subst w1
            go_wp2_with fail
            refine KH.out.mono ?_
            rintro e w1 ⟨rfl, b1⟩
            have B1 := Lib.hid b1
            clear b1
            go_wp2_with fail
            refine (KJ.out w1 B1.out).mono ?_
            rintro e w2 ⟨rfl, hw⟩
            subst w2
            go_wp2_with fail
            go_ret
            exact ⟨rfl, B1.out⟩
      · rw [isIdI_no h3] at k3
        have he : F.linkE id u v = 1 := by unfold FS.linkE; rw [if_neg (fun h => h3 h.2.2)]
        rw [he]
        have K1 := Lib.hid k1
        have K2 := Lib.hid k2
        have K3 := Lib.hid k3
        clear h k1 k2 k3 h1 h2 h3 he hne
        go_enter Try.func18, Try.ntmps18
        go_wp2_with fail
        refine (K1.out w).mono ?_
        rintro e w1 ⟨rfl, hw⟩
        subst w1
        go_wp2_with fail
        refine (K2.out w).mono ?_
        rintro e w1 ⟨rfl, hw⟩
        subst w1
        go_wp2_with fail
        refine (K3.out w).mono ?_
        rintro e w1 ⟨rfl, hw⟩
        subst w1
        go_wp2_with fail
        go_ret
        exact ⟨rfl, Below.refl _ _⟩
    · rw [isIdI_no h2] at k2
      have he : F.linkE id u v = 1 := by unfold FS.linkE; rw [if_neg (fun h => h2 h.2.1)]
      rw [he]
      have K1 := Lib.hid k1
      have K2 := Lib.hid k2
      clear h k1 k2 k3 h1 h2 he hne
      go_enter Try.func18, Try.ntmps18
      go_wp2_with fail
      refine (K1.out w).mono ?_
      rintro e w1 ⟨rfl, hw⟩
      subst w1
      go_wp2_with fail
      refine (K2.out w).mono ?_
      rintro e w1 ⟨rfl, hw⟩
      subst w1
      go_wp2_with fail
      go_ret
      exact ⟨rfl, Below.refl _ _⟩
  · rw [isIdI_no h1] at k1
    have he : F.linkE id u v = 1 := by unfold FS.linkE; rw [if_neg (fun h => h1 h.1)]
    rw [he]
    have K1 := Lib.hid k1
    clear h k1 k2 k3 h1 he hne
    go_enter Try.func18, Try.ntmps18
    go_wp2_with fail
    refine (K1.out w).mono ?_
    rintro e w1 ⟨rfl, hw⟩
    subst w1
    go_wp2_with fail
    go_ret
    exact ⟨rfl, Below.refl _ _⟩

end Go.Proofs.Ytlakcldgolpaiaa
