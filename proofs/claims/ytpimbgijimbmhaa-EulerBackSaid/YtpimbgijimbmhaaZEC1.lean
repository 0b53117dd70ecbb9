/-
  A forest in memory; the walks of count, isId, Has, Len, Joined.
-/
import Derived.RegionTactic
import Derived.Test.YtpimbgijimbmhaaEW9
import Derived.Test.YtpimbgijimbmhaaEP35
import Derived.Test.YtpimbgijimbmhaaMV2
namespace Go.Proofs.Ytpimbgijimbmhaa
open Go.RowKit Go.Maps
set_option linter.unusedVariables false

def pN (v : Value) : Prop := ∃ t : Int, v = .int .i64 t

def pP (v : Value) : Prop := ∃ x : Int × Int, v = .agg #[.int .i64 x.1, .int .i64 x.2]

theorem pN_zero : pN (.int .i64 0) := ⟨0, rfl⟩

theorem pP_zero : pP (.agg #[.int .i64 0, .int .i64 0]) := ⟨(0, 0), rfl⟩

theorem zeroI (w : World) : (zeroValue 3).run Try.prog w = .ok (.int .i64 0) w := by kernel_rfl

theorem zeroP (w : World) : (zeroValue 79).run Try.prog w = .ok (.agg #[.int .i64 0, .int .i64 0]) w := by kernel_rfl

def encTk (t : Tok) : List Value := [.bool t.1, .int .i64 t.2]

theorem encTk_len (t : Tok) : (encTk t).length = 2 := rfl

/-- A forest's memory: its struct, its rope, its maps and rows. -/
structure FAt (w : World) (f g B : Nat) (S : Nat → Prop) (bv be : Nat) (whoV freeV : Value) (M : RM SV) (pv : Int → Option Nat) (pe : Int → Option (Nat × Nat)) (who : List Tok) (free : List Nat) : Prop where
  blk : Blk w f 73 #[.pointer (some ⟨g, 0, none⟩), .map (some bv), .map (some be), whoV, freeV]
  rope : Rp w g S M
  verts : MapG kI pN w bv 4096 (fun i : Int => (pv i).map fun a => .int .i64 (a : Int))
  edges : MapG kI pP w be 4096 (fun i : Int => (pe i).map fun x => .agg #[.int .i64 (x.1 : Int), .int .i64 (x.2 : Int)])
  who : OK encTk 2 85 w B whoV who
  free : OK encI 1 3 w B freeV (free.map natI)

def isIdI (i : Int) : Bool := decide (1 ≤ i ∧ i ≤ 2147483647)

set_option maxRecDepth 100000 in
theorem isId_any (i : Int) (w : World) : Calls Try.prog 44 #[.int .i64 i] w fun e w' => e = .returned (.bool (isIdI i)) ∧ w' = w := by
  by_cases h0 : 1 ≤ i
  · have d0 : decide (1 ≤ i) = true := by simpa using h0
    by_cases h1 : i ≤ 2147483647
    · have d1 : decide (i ≤ 2147483647) = true := by simpa using h1
      have e : isIdI i = true := by unfold isIdI; simp; omega
      rw [e]
      go_enter Try.func44, Try.ntmps44
      go_wp2_with fail
      go_ret
      exact ⟨rfl, rfl⟩
    · have d1 : decide (i ≤ 2147483647) = false := by simpa using h1
      have e : isIdI i = false := by unfold isIdI; simp; omega
      rw [e]
      go_enter Try.func44, Try.ntmps44
      go_wp2_with fail
      go_ret
      exact ⟨rfl, rfl⟩
  · have d0 : decide (1 ≤ i) = false := by simpa using h0
    have e : isIdI i = false := by unfold isIdI; simp; omega
    rw [e]
    go_enter Try.func44, Try.ntmps44
    go_wp2_with fail
    go_ret
    exact ⟨rfl, rfl⟩

set_option maxRecDepth 100000 in
theorem count_any (b : Bool) (w : World) : Calls Try.prog 52 #[.bool b] w fun e w' => e = .returned (.int .i64 (if b then 1 else 0)) ∧ w' = w := by
  cases b
  · go_enter Try.func52, Try.ntmps52
    go_wp2_with fail
    go_ret
    exact ⟨rfl, rfl⟩
  · go_enter Try.func52, Try.ntmps52
    go_wp2_with fail
    go_ret
    exact ⟨rfl, rfl⟩

section

variable {f g B bv be : Nat} {S : Nat → Prop} {whoV freeV : Value} {M : RM SV} {pv : Int → Option Nat} {pe : Int → Option (Nat × Nat)} {who : List Tok} {free : List Nat}

set_option maxRecDepth 100000 in
set_option maxHeartbeats 1000000 in
theorem fHas (w : World) (h : FAt w f g B S bv be whoV freeV M pv pe who free) (id : Int) (hi : I64 id) :
    Calls Try.prog 13 #[.pointer (some ⟨f, 0, none⟩), .int .i64 id] w fun e w' => e = .returned (.bool (pe id).isSome) ∧ Below w.heap.size w w' := by
  have a2 : w.cell? ⟨f, 2, none⟩ = some (.map (some be)) := h.blk.cell 2
  obtain ⟨u1, u2, hv⟩ : ∃ u1 u2 : Int, ((pe id).map fun x => Value.agg #[.int .i64 (x.1 : Int), .int .i64 (x.2 : Int)]).getD (.agg #[.int .i64 0, .int .i64 0]) = .agg #[.int .i64 u1, .int .i64 u2] := by
    cases pe id with
    | none => exact ⟨0, 0, rfl⟩
    | some x => exact ⟨_, _, rfl⟩
  obtain ⟨y, hy⟩ : ∃ y, y = (pe id).isSome := ⟨_, rfl⟩
  have hs : ((pe id).map fun x => Value.agg #[.int .i64 (x.1 : Int), .int .i64 (x.2 : Int)]).isSome = y := by rw [hy]; cases pe id <;> rfl
  rw [← hy]
  have HM := Lib.hid h.edges
  have HV := Lib.hid hv
  have HS := Lib.hid hs
  clear h hv hs hy
  go_enter Try.func13, Try.ntmps13
  go_wp2_with (at_lookup; refine wpList_lookG (X := kI) rfl _ _ _ rfl _ Try.underlying70 (zeroP _) pP_zero be 4096 rfl HM.out id rfl hi _ _ HV.out HS.out ?_)
  go_ret
  exact ⟨rfl, (Below.refl _ _).alloc (Nat.le_refl _) _⟩

set_option maxRecDepth 100000 in
set_option maxHeartbeats 1000000 in
theorem fLen (w : World) (h : FAt w f g B S bv be whoV freeV M pv pe who free) {L : List Int} (hL : L.Nodup) (hin : ∀ i, i ∈ L ↔ I64 i ∧ (pv i).isSome = true) :
    Calls Try.prog 12 #[.pointer (some ⟨f, 0, none⟩)] w fun e w' => e = .returned (.int .i64 (L.length : Nat)) ∧ w' = w := by
  have a1 : w.cell? ⟨f, 1, none⟩ = some (.map (some bv)) := h.blk.cell 1
  have hin2 : ∀ i, i ∈ L ↔ I64 i ∧ ((pv i).map fun a => Value.int .i64 (a : Int)).isSome = true := fun i => by rw [hin]; cases pv i <;> simp
  have hlen := fun ty => MapG.len (X := kI) h.verts Try.underlying69 hL hin2 ty
  clear h
  go_enter Try.func12, Try.ntmps12
  go_wp2_with fail
  go_ret
  exact ⟨rfl, rfl⟩

set_option maxRecDepth 100000 in
set_option maxHeartbeats 1000000 in
theorem fJoined (w : World) (h : FAt w f g B S bv be whoV freeV M pv pe who free) (u v : Int) (hu : I64 u) (hv : I64 v) :
    Calls Try.prog 25 #[.pointer (some ⟨f, 0, none⟩), .int .i64 u, .int .i64 v] w fun e w' => (match pv u, pv v with
      | some a, some b => e = .returned (.tuple #[.bool (M.sameA (a : Int) (b : Int)), .int .i64 (M.errAB (a : Int) (b : Int))])
      | _, _ => e = .returned (.tuple #[.bool false, .int .i64 51])) ∧ w' = w := by
  have a0 : w.cell? ⟨f, 0, none⟩ = _ := h.blk.cell 0
  have a1 : w.cell? ⟨f, 1, none⟩ = some (.map (some bv)) := h.blk.cell 1
  have HM := Lib.hid h.verts
  have hsame := fun a b => rSame w g S M h.rope a b
  have HSAME := Lib.hid hsame
  clear h hsame
  cases eu : pv u with
  | none =>
    have HV : Hid (((pv u).map fun a => Value.int .i64 (a : Int)).getD (.int .i64 0) = .int .i64 0 ∧ ((pv u).map fun a => Value.int .i64 (a : Int)).isSome = false) := Lib.hid (by rw [eu]; exact ⟨rfl, rfl⟩)
    obtain ⟨x, y, hx⟩ : ∃ (x : Int) (y : Bool), ((pv v).map fun a => Value.int .i64 (a : Int)).getD (.int .i64 0) = .int .i64 x ∧ ((pv v).map fun a => Value.int .i64 (a : Int)).isSome = y := by
      cases pv v with
      | none => exact ⟨0, false, rfl, rfl⟩
      | some b => exact ⟨_, true, rfl, rfl⟩
    have HX := Lib.hid hx
    clear hx eu
    go_enter Try.func25, Try.ntmps25
    go_wp2_with (first
      | (at_lookup; refine wpList_lookG (X := kI) rfl _ _ _ rfl _ Try.underlying69 (zeroI _) pN_zero bv 4096 rfl HM.out u rfl hu _ _ HV.out.1 HV.out.2 ?_)
      | (at_lookup; refine wpList_lookG (X := kI) rfl _ _ _ rfl _ Try.underlying69 (zeroI _) pN_zero bv 4096 rfl HM.out v rfl hv _ _ HX.out.1 HX.out.2 ?_))
    go_ret2
    exact ⟨rfl, rfl⟩
  | some a =>
    have HV : Hid (((pv u).map fun a => Value.int .i64 (a : Int)).getD (.int .i64 0) = .int .i64 (a : Int) ∧ ((pv u).map fun a => Value.int .i64 (a : Int)).isSome = true) := Lib.hid (by rw [eu]; exact ⟨rfl, rfl⟩)
    clear eu
    cases ev : pv v with
    | none =>
      have HX : Hid (((pv v).map fun a => Value.int .i64 (a : Int)).getD (.int .i64 0) = .int .i64 0 ∧ ((pv v).map fun a => Value.int .i64 (a : Int)).isSome = false) := Lib.hid (by rw [ev]; exact ⟨rfl, rfl⟩)
      clear ev
      go_enter Try.func25, Try.ntmps25
      go_wp2_with (first
        | (at_lookup; refine wpList_lookG (X := kI) rfl _ _ _ rfl _ Try.underlying69 (zeroI _) pN_zero bv 4096 rfl HM.out u rfl hu _ _ HV.out.1 HV.out.2 ?_)
        | (at_lookup; refine wpList_lookG (X := kI) rfl _ _ _ rfl _ Try.underlying69 (zeroI _) pN_zero bv 4096 rfl HM.out v rfl hv _ _ HX.out.1 HX.out.2 ?_))
      go_ret2
      exact ⟨rfl, rfl⟩
    | some b =>
      have HX : Hid (((pv v).map fun a => Value.int .i64 (a : Int)).getD (.int .i64 0) = .int .i64 (b : Int) ∧ ((pv v).map fun a => Value.int .i64 (a : Int)).isSome = true) := Lib.hid (by rw [ev]; exact ⟨rfl, rfl⟩)
      clear ev
      go_enter Try.func25, Try.ntmps25
      go_wp2_with (first
        | (at_lookup; refine wpList_lookG (X := kI) rfl _ _ _ rfl _ Try.underlying69 (zeroI _) pN_zero bv 4096 rfl HM.out u rfl hu _ _ HV.out.1 HV.out.2 ?_)
        | (at_lookup; refine wpList_lookG (X := kI) rfl _ _ _ rfl _ Try.underlying69 (zeroI _) pN_zero bv 4096 rfl HM.out v rfl hv _ _ HX.out.1 HX.out.2 ?_))
      refine (HSAME.out (a : Int) (b : Int)).mono ?_
      rintro e w1 ⟨rfl, h1⟩
      subst w1
      go_wp2_with fail
      go_ret2
      exact ⟨rfl, rfl⟩

end

end Go.Proofs.Ytpimbgijimbmhaa

/-
  The walk of turn.
-/
namespace Go.Proofs.Ytpimbgijimbmhaa
open Go.RowKit Go.Maps
set_option linter.unusedVariables false

section

variable {w w1 w2 : World} {f g : Nat} {S S1 : Nat → Prop} {M M1 M2 : RM SV}

theorem turn_then (m1 : Mod S w w1) (n1 : ∀ k, S1 k → S k ∨ w.heap.size ≤ k) (h2 : Turn w1 g S1 M2 w2) : Turn w g S M2 w2 := by
  obtain ⟨S2, r2, m2, n2⟩ := h2
  refine ⟨S2, r2, m1.trans m2 (fun k hk hs => (n1 k hs).resolve_right (by omega)), fun k hk => ?_⟩
  rcases n2 k hk with h | h
  · exact n1 k h
  · exact .inr (Nat.le_trans m1.size h)

theorem Rp.types3 (h : Rp w g S M) {k : Nat} (hk : S k) : ∃ cs t fr, w.heap[k]? = some (Obj.cells cs t fr) ∧ (t = 100 ∨ t = 108 ∨ t = 3) := by
  obtain ⟨B, sv, nb, cap, N, ss, h1, h2⟩ := h
  rcases (h2 k).2 hk with rfl | rfl | ⟨e1, e2⟩
  · exact ⟨_, _, _, h1.mem.blk, .inl rfl⟩
  · rcases h1.mem.nodes.2.2 with ⟨e, _⟩ | ⟨q, c, cur, e, hq, hh, r⟩
    · cases e
    · injection e with e
      injection e with e
      injection e with e
      subst e
      exact ⟨_, _, _, hh, .inr (.inl rfl)⟩
  · rcases h1.seeds with ⟨e, _⟩ | h
    · exact absurd e e1
    · rcases h.2.2 with ⟨e, _⟩ | ⟨q, c, cur, e, hq, hh, r⟩
      · rw [e] at e2; cases e2
      · rw [e] at e2
        injection e2 with e2
        subst e2
        exact ⟨_, _, _, hh, .inr (.inr rfl)⟩

/-- A block of another type is none of the rope's. -/
theorem Rp.other (h : Rp w g S M) {q : Nat} {t : TypeId} {cs : Array Value} (hb : Blk w q t cs) (h1 : t ≠ 100) (h2 : t ≠ 108) (h3 : t ≠ 3) : ¬ S q := by
  intro hq
  obtain ⟨cs', t', fr, e, ht⟩ := h.types3 hq
  unfold Blk at hb
  rw [hb] at e
  injection e with e
  injection e with e1 e2 e3
  rcases ht with h | h | h
  · exact h1 (e2.trans h)
  · exact h2 (e2.trans h)
  · exact h3 (e2.trans h)

theorem joinA_ok {a b : Nat} (ha : 1 ≤ a ∧ a ≤ M.own.length) (hb : 1 ≤ b ∧ b ≤ M.own.length) (hne : M.rowOf a ≠ M.rowOf b) : M.joinA (a : Int) (b : Int) = M.join a b := by
  have e : M.joinE (a : Int) (b : Int) = 0 := by
    unfold RM.joinE
    rw [if_pos ⟨known_of ha, known_of hb⟩, if_neg (by simpa using hne)]
  unfold RM.joinA
  rw [if_pos e, Int.toNat_natCast, Int.toNat_natCast]

theorem cutA_ok {a : Nat} (ha : 1 ≤ a ∧ a ≤ M.own.length) : M.cutA (a : Int) = M.cut a := by
  unfold RM.cutA; rw [if_pos (known_of ha), Int.toNat_natCast]

theorem atA_ok {a i : Nat} (ha : 1 ≤ a ∧ a ≤ M.own.length) (hi : i < (M.rowOf a).length) : M.atA (a : Int) (i : Int) = (((M.rowOf a)[i]?).getD 0 : Nat) := by
  unfold RM.atA
  rw [if_pos ⟨known_of ha, by omega, by rw [Int.toNat_natCast]; omega⟩, Int.toNat_natCast, Int.toNat_natCast]

set_option maxRecDepth 100000 in
set_option maxHeartbeats 1000000 in
theorem turn_any (w : World) (f g : Nat) (S : Nat → Prop) (M : RM SV) (hr : Rp w g S M) (c1 c2 c3 c4 : Value) (hf : Blk w f 73 #[.pointer (some ⟨g, 0, none⟩), c1, c2, c3, c4]) (a : Nat) (ha : 1 ≤ a ∧ a ≤ M.own.length) :
    Calls Try.prog 64 #[.pointer (some ⟨f, 0, none⟩), .int .i64 (a : Int)] w fun e w' => e = .returned (.tuple #[]) ∧ Turn w g S (turnM M a) w' := by
  have hok := hr.ok
  obtain ⟨hm, hmem⟩ := row_mem hok ha
  obtain ⟨x, hx⟩ : ∃ x, x = (M.rowOf a).headD 0 := ⟨_, rfl⟩
  have hne : 0 < (M.rowOf a).length := List.length_pos_iff.2 (fun e => by rw [e] at hmem; cases hmem)
  have hat : M.atA (a : Int) ((0 : Nat) : Int) = (x : Int) := by
    rw [atA_ok ha hne, hx]
    cases h : M.rowOf a with
    | nil => rw [h] at hne; cases hne
    | cons y r => rfl
  have HAT := Lib.hid hat
  have HR := Lib.hid hr
  have HF := Lib.hid hf
  have HX := Lib.hid hx
  have HA := Lib.hid ha
  have a0 : w.cell? ⟨f, 0, none⟩ = _ := hf.cell 0
  have hhead : (M.rowOf a).head? = some a ↔ x = a := by
    rw [hx]
    cases h : M.rowOf a with
    | nil => rw [h] at hne; cases hne
    | cons y r => simp
  have HH := Lib.hid hhead
  have hp : M.rows.Perm (M.rowOf a :: M.rows.erase (M.rowOf a)) := List.perm_cons_erase hm
  have htn : (M.rowOf a).head? ≠ some a → _ := turn_ne hok hp hmem
  have HTN := Lib.hid htn
  clear hr hf hat hok hm hmem hne hx ha hhead hp htn
  go_enter Try.func64, Try.ntmps64
  go_wp2_with fail
  refine (rAt w g S M HR.out (a : Int) 0).mono ?_
  rw [show M.atA (a : Int) 0 = (x : Int) from HAT.out]
  rintro e w1 ⟨rfl, t1⟩
  have HR1 := Lib.hid (HR.out.below t1)
  have HF1 := Lib.hid (HF.out.below t1 HF.out.lt)
  have T1 := Lib.hid t1
  clear t1 a0
  have a1 : w1.cell? ⟨f, 0, none⟩ = _ := HF1.out.cell 0
  by_cases hxa : x = a
  · have HT : Hid (Turn w g S (turnM M a) w1) := Lib.hid (by
      have e : turnM M a = M := by unfold turnM; rw [if_pos (HH.out.2 hxa)]
      rw [e]
      exact turn_same HR.out T1.out)
    have d1 : ((x : Int) == (a : Int)) = true := by simp [hxa]
    have d2 : (x == a) = true := by simp [hxa]
    clear hxa
    go_wp2_with fail
    try simp only [Exit.inBlock, Exit.then]
    refine bodyPost_ret (results_none Try.results64 _ _ _) rfl ?_
    exact ⟨rfl, HT.out⟩
  · have d1 : ((x : Int) == (a : Int)) = false := by simp; omega
    have d2 : (x == a) = false := by simp; omega
    have hneq : (M.rowOf a).head? ≠ some a := fun e => hxa (HH.out.1 e)
    obtain ⟨x', hx', k1, k2, k3⟩ := HTN.out hneq
    rw [← HX.out] at hx'
    subst hx'
    have HT : Hid (turnM M a = (M.cut a).join a x) := Lib.hid (by unfold turnM; rw [if_neg hneq, HX.out])
    have HK := Lib.hid k2
    have HN := Lib.hid k3
    clear hneq k1 k2 k3
    go_wp2_with fail
    refine (rCut w1 g S M HR1.out (a : Int)).mono ?_
    rw [cutA_ok HA.out]
    rintro e w2 ⟨rfl, t2⟩
    obtain ⟨S2, r2, m2, n2⟩ := t2
    have HR2 := Lib.hid r2
    have HF2 := Lib.hid (HF1.out.mod m2 (HR1.out.other HF1.out (by decide) (by decide) (by decide)))
    have M2 : Hid (Mod S w w2) := Lib.hid ((Mod.of_below T1.out S).trans' m2)
    have N2 : Hid (∀ k, S2 k → S k ∨ w.heap.size ≤ k) := Lib.hid (fun k hk => (n2 k hk).imp id (fun h => Nat.le_trans T1.out.size h))
    clear r2 m2 n2 a1
    have a2 : w2.cell? ⟨f, 0, none⟩ = _ := HF2.out.cell 0
    go_wp2_with fail
    refine (rJoin w2 g S2 (M.cut a) HR2.out (a : Int) (x : Int)).mono ?_
    rw [joinA_ok (M := M.cut a) HA.out HK.out HN.out]
    rintro e w3 ⟨rfl, t3⟩
    have HT3 := Lib.hid (turn_then M2.out N2.out t3)
    rw [← HT.out] at HT3
    clear t3
    go_wp2_with fail
    go_end0
    exact ⟨rfl, HT3.out⟩

end

end Go.Proofs.Ytpimbgijimbmhaa
