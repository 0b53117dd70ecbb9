/-
  The walk of Link where it links.
-/
import Derived.Test.YtlhkajlkapoabaaZLK30
namespace Go.Proofs.Ytlhkajlkapoabaa
open Go.RowKit Go.Maps
set_option linter.unusedVariables false

theorem run_ix0 (x y : Int) (w : World) : (Instr.index 80 (.agg #[.int .i64 x, .int .i64 y]) (.int .i64 0)).run Try.prog w = .ok (.int .i64 x) w := by kernel_rfl

theorem run_ix1 (x y : Int) (w : World) : (Instr.index 80 (.agg #[.int .i64 x, .int .i64 y]) (.int .i64 1)).run Try.prog w = .ok (.int .i64 y) w := by kernel_rfl

section

variable {w w' : World} {f bv be : Nat} {S : Nat → Prop} {P : Nat → Option Nat} {N : Nat → NdL} {K : List (ST × Option Nat)} {vs es : Int → Option Nat} {F : LF}

set_option maxRecDepth 100000 in
set_option maxHeartbeats 4000000 in
theorem link_yes (h : LFAt w f bv be S P N K vs es F) (e : Eg) (hi : I64 e.id) (hu : I64 e.u) (hv : I64 e.v) (hw : I64 (e.w : Int)) (hz : F.linkE e.id e.u e.v (e.w : Int) = 0) :
    Calls Try.prog 17 #[.pointer (some ⟨f, 0, none⟩), .agg #[.int .i64 e.id, .int .i64 e.u, .int .i64 e.v, .int .i64 (e.w : Int)]] w fun r w' => r = .returned (.int .i64 0) ∧ ∃ k, w.heap.size ≤ k ∧ Linked w f bv be S vs es F e k w' := by
  obtain ⟨h1, h2, h3, h4, h5, h6, h7, h8, h9⟩ := linkE_ok hz
  have k1 := fun w => isId_any e.id w
  have k2 := fun w => isId_any e.u w
  have k3 := fun w => isId_any e.v w
  rw [isIdI_yes h1] at k1
  rw [isIdI_yes h2] at k2
  rw [isIdI_yes h3] at k3
  obtain ⟨a, ha⟩ := (h.gd.vk e.u).2 h7
  obtain ⟨b, hb⟩ := (h.gd.vk e.v).2 h8
  obtain ⟨id, u, v, wt⟩ := e
  dsimp only at *
  have hbx : Below w.heap.size w (w.alloc (.cells #[.int .i64 id, .int .i64 u, .int .i64 v, .int .i64 (wt : Int)] 33)) := (Below.refl _ _).alloc (Nat.le_refl _) _
  have d0 : decide ((wt : Int) < 0) = false := by simp
  have d1 : decide ((wt : Int) > 1099511627776) = false := by simpa using h5
  obtain ⟨W, hW⟩ : ∃ W, W = (w.alloc (.cells #[.int .i64 id, .int .i64 u, .int .i64 v, .int .i64 (wt : Int)] 33)) := ⟨_, rfl⟩
  obtain ⟨g, hg⟩ : ∃ g, g = w.heap.size := ⟨_, rfl⟩
  have kW : Blk W g 33 #[.int .i64 id, .int .i64 u, .int .i64 v, .int .i64 (wt : Int)] := by rw [hW, hg]; exact Blk.new _ _ _
  rw [← hW] at hbx
  have HW := Lib.hid hW
  have HGG := Lib.hid hg
  have f1 : W.cell? ⟨f, 1, none⟩ = some (.map (some be)) := (h.at_.blk.below hbx h.at_.blk.lt).cell 1
  have b0 : W.cell? ⟨g, 0, none⟩ = some (.int .i64 id) := kW.cell 0
  have b1 : W.cell? ⟨g, 1, none⟩ = some (.int .i64 u) := kW.cell 1
  have b2 : W.cell? ⟨g, 2, none⟩ = some (.int .i64 v) := kW.cell 2
  have b3 : W.cell? ⟨g, 3, none⟩ = some (.int .i64 (wt : Int)) := kW.cell 3
  have hbd := hbx.drew
  have hlk := (MapG.look_ok (X := kI) (h.at_.edges.same (hbd.block be h.at_.edges.lt)) Try.underlying62 (zeroQ _) pQ_zero (a := id) hi).1
  rw [h.eNone h6] at hlk
  have hl : (Instr.lookup 62 (.map (some be)) (.int .i64 id) true).run Try.prog W.drew = .ok (.tuple #[.pointer none, .bool false]) W.drew := hlk
  have hj := joined_any (h.below hbd) u v hu hv
  have e2 : F.joinX u v = 0 := by unfold LF.joinX; rw [if_pos ⟨h7, h8⟩]
  have e1 : F.joinB u v = false := F.joinB_no fun hh => h9 hh.2.2
  rw [e1, e2] at hj
  have HJ := Lib.hid hj
  have HB := Lib.hid hbd
  have KW := Lib.hid kW.drew
  have NG : Hid (¬ S g ∧ f ≠ g ∧ f < W.drew.heap.size) := Lib.hid ⟨fun hs => by rw [hg] at hs; exact Nat.lt_irrefl _ (h.at_.at_ _ hs).lt, by rw [hg]; exact Nat.ne_of_lt h.at_.blk.lt, (h.below hbd).at_.blk.lt⟩
  have K1 := Lib.hid k1
  have K2 := Lib.hid k2
  have K3 := Lib.hid k3
  have HA := Lib.hid ha
  have HBB := Lib.hid hb
  have HZ := Lib.hid hz
  have HU := Lib.hid hu
  have HV := Lib.hid hv
  have HGS : Hid (w.heap.size ≤ W.drew.heap.size) := Lib.hid hbd.size
  clear h k1 k2 k3 h1 h2 h3 h4 h5 h6 h7 h8 h9 hbx hW hg kW hbd hlk hj e1 e2 ha hb hz
  have hix0 := run_ix0
  have hix1 := run_ix1
  go_enter Try.func17, Try.ntmps17
  go_wp2_with fail
  refine (K1.out _).mono ?_
  rintro e w1 ⟨rfl, rfl⟩
  go_wp2_with fail
  refine (K2.out _).mono ?_
  rintro e w1 ⟨rfl, rfl⟩
  go_wp2_with fail
  refine (K3.out _).mono ?_
  rintro e w1 ⟨rfl, rfl⟩
  go_wp2_with fail
  rw [← HW.out, ← HGG.out]
  go_region
  go_wp2_with fail
  refine HJ.out.mono ?_
  rintro e w1 ⟨rfl, P1, N1, K1', hA, m1⟩
  have KW1 := KW.out.mod m1 NG.out.1
  clear f1 b0 b1 b2 b3 hl
  have f1 : w1.cell? ⟨f, 1, none⟩ = some (.map (some be)) := hA.at_.blk.cell 1
  have b0 : w1.cell? ⟨g, 0, none⟩ = some (.int .i64 id) := KW1.cell 0
  have b1 : w1.cell? ⟨g, 1, none⟩ = some (.int .i64 u) := KW1.cell 1
  have b2 : w1.cell? ⟨g, 2, none⟩ = some (.int .i64 v) := KW1.cell 2
  have b3 : w1.cell? ⟨g, 3, none⟩ = some (.int .i64 (wt : Int)) := KW1.cell 3
  obtain ⟨k, hk⟩ : ∃ k, k = w1.heap.size := ⟨_, rfl⟩
  obtain ⟨W2, hW2⟩ : ∃ W2, W2 = w1.alloc (.cells #[.pointer none, .pointer none, .pointer none, .bool false, .int .i64 0, .int .i64 id, .int .i64 u, .int .i64 v, .int .i64 (wt : Int), .int .i64 0, .int .i64 0, .int .i64 0, .int .i64 0, .complex .f64 0 0] 71) := ⟨_, rfl⟩
  obtain ⟨St0, Q1, St1, Q2, PL, w3, hrun, hm3, hst⟩ := link_plan hA ⟨id, u, v, wt⟩ HZ.out HA.out HBB.out hk (W := W2.drew) (by rw [hW2, made_cells])
  have hg3 : be ≠ g := hA.at_.edges.notBlk KW1
  have KW3 := KW1.mod hm3 (fun e => hg3 e.symm)
  have hb2 : Below w1.heap.size w1 W2 := by rw [hW2]; exact (Below.refl _ _).alloc (Nat.le_refl _) _
  have KW2 := KW1.below hb2 KW1.lt
  have f2 : W2.cell? ⟨f, 1, none⟩ = some (.map (some be)) := (hA.at_.blk.below hb2 hA.at_.blk.lt).cell 1
  have p0 : W2.cell? ⟨g, 0, none⟩ = some (.int .i64 id) := KW2.cell 0
  have p1 : W2.cell? ⟨g, 1, none⟩ = some (.int .i64 u) := KW2.cell 1
  have p2 : W2.cell? ⟨g, 2, none⟩ = some (.int .i64 v) := KW2.cell 2
  have HST := Lib.hid hst
  have HWW := Lib.hid hW2
  have HK := Lib.hid hk
  have KW3 := Lib.hid KW3
  have HM1 := Lib.hid m1
  have HSZ : Hid (w.heap.size ≤ k) := Lib.hid (by rw [hk]; exact Nat.le_trans HGS.out m1.size)
  obtain ⟨du, hdu⟩ : ∃ d, d = F.deg u := ⟨_, rfl⟩
  obtain ⟨dv, hdv⟩ : ∃ d, d = F.deg v := ⟨_, rfl⟩
  have bu := deg_le hA u
  have bv' := deg_le hA v
  rw [← hdu] at bu
  rw [← hdv] at bv'
  have PL : LkPlan f bv vs k a b (F.deg u) (F.deg v) St0 Q1 St1 Q2 _ := PL
  rw [← hdu, ← hdv] at PL
  have wu : IntKind.i64.wrap (du + 1) = du + 1 := by rw [IntKind.wrap_i64]; omega
  have wv : IntKind.i64.wrap (dv + 1) = dv + 1 := by rw [IntKind.wrap_i64]; omega
  have HPL := Lib.hid PL
  clear hA m1 KW1 KW2 hb2 hst hm3 hg3 PL hW2 hk bu bv' hdu hdv
  go_upto_region 14 with fail
  rw [← HWW.out, ← HK.out]
  clear f1 b0 b1 b2 b3
  go_region
  clear f2 p0 p1 p2 hrun
  have b1 : w3.cell? ⟨g, 1, none⟩ = some (.int .i64 u) := KW3.out.cell 1
  have b2 : w3.cell? ⟨g, 2, none⟩ = some (.int .i64 v) := KW3.out.cell 2
  have HPA : Hid ((ptrO (vs u)).getD (.pointer none) = .pointer (some ⟨a, 0, none⟩)) := Lib.hid (by rw [HA.out]; rfl)
  have HPB : Hid ((ptrO (vs v)).getD (.pointer none) = .pointer (some ⟨b, 0, none⟩)) := Lib.hid (by rw [HBB.out]; rfl)
  go_wp2_with fail
  go_loopg [11, 75] 2 (fun q s11 s75 wr => Hid ((q = 2 ∧ s75 = .int .i64 0 ∧ St0 wr) ∨ (q = 1 ∧ s75 = .int .i64 1 ∧ St1 wr) ∨ (q = 0 ∧ s75 = .int .i64 2 ∧ Linked w1 f bv be S vs es F ⟨id, u, v, wt⟩ k wr)))
  case atStart => exact Lib.hid (.inl ⟨rfl, rfl, HST.out _ (Below.refl _ _)⟩)
  case round =>
    rcases hrel.out with ⟨hq, rfl, hs⟩ | ⟨hq, rfl, hs⟩ | ⟨hq, rfl, hs⟩
    · have SE := HPL.out.s0 _ hs
      have c0 : wr.cell? ⟨f, 0, none⟩ = some (.map (some bv)) := SE.1
      have HM := Lib.hid SE.2
      have HC := Lib.hid (HPL.out.c1 _ hs)
      clear SE hs hrel
      go_wp2_with (at_lookup; refine wpList_lookG1 (X := kI) rfl _ _ _ rfl _ Try.underlying62 (zeroQ _) pQ_zero bv 4096 rfl HM.out u rfl HU.out _ HPA.out ?_)
      refine HC.out.mono ?_
      rintro r w4 ⟨rfl, q1⟩
      have CN := HPL.out.n1 _ q1
      have c0' : w4.cell? ⟨f, 0, none⟩ = some (.map (some bv)) := CN.see.1
      have HM' := Lib.hid CN.see.2
      have c4 := CN.cell
      have f4 := CN.frozen
      have HS := Lib.hid CN.st
      clear CN q1 c0 HC HM
      go_wp2_with (at_lookup; refine wpList_lookG1 (X := kI) rfl _ _ _ rfl _ Try.underlying62 (zeroQ _) pQ_zero bv 4096 rfl HM'.out u rfl HU.out _ HPA.out ?_)
      go_roundg 1
      case rel => exact Lib.hid (.inr (.inl ⟨rfl, rfl, HS.out⟩))
      case measure => omega
    · have SE := HPL.out.s1 _ hs
      have c0 : wr.cell? ⟨f, 0, none⟩ = some (.map (some bv)) := SE.1
      have HM := Lib.hid SE.2
      have HC := Lib.hid (HPL.out.c2 _ hs)
      clear SE hs hrel
      go_wp2_with (at_lookup; refine wpList_lookG1 (X := kI) rfl _ _ _ rfl _ Try.underlying62 (zeroQ _) pQ_zero bv 4096 rfl HM.out v rfl HV.out _ HPB.out ?_)
      refine HC.out.mono ?_
      rintro r w4 ⟨rfl, q1⟩
      have CN := HPL.out.n2 _ q1
      have c0' : w4.cell? ⟨f, 0, none⟩ = some (.map (some bv)) := CN.see.1
      have HM' := Lib.hid CN.see.2
      have c4 := CN.cell
      have f4 := CN.frozen
      have HS := Lib.hid CN.st
      clear CN q1 c0 HC HM
      go_wp2_with (at_lookup; refine wpList_lookG1 (X := kI) rfl _ _ _ rfl _ Try.underlying62 (zeroQ _) pQ_zero bv 4096 rfl HM'.out v rfl HV.out _ HPB.out ?_)
      go_roundg 0
      case rel => exact Lib.hid (.inr (.inr ⟨rfl, rfl, HS.out⟩))
      case measure => omega
    · have HL := Lib.hid hs
      clear hs hrel
      go_wp2_with fail
      go_ret
      obtain ⟨P, N, K, h1, h2⟩ := HL.out
      exact ⟨rfl, k, HSZ.out, P, N, K, h1, ((Mod.of_below HB.out _).trans' (HM1.out.mono fun x _ hx => .inl hx)).trans' h2⟩

end

end Go.Proofs.Ytlhkajlkapoabaa

/-
  Where Cut refuses; Cut's loop of two, laid out ahead of its walk.
-/
namespace Go.Proofs.Ytlhkajlkapoabaa
open Go.RowKit Go.Maps
set_option linter.unusedVariables false

open Classical in
/-- Cut's answer. -/
noncomputable def LF.cutE (F : LF) (id : Int) : Int := if okId id then (if id ∈ F.es.map Eg.id then 0 else 152) else 1

section

variable {w w' : World} {f bv be : Nat} {S : Nat → Prop} {P : Nat → Option Nat} {N : Nat → NdL} {K : List (ST × Option Nat)} {vs es : Int → Option Nat} {F : LF}

set_option maxRecDepth 100000 in
set_option maxHeartbeats 4000000 in
theorem cut_no (h : LFAt w f bv be S P N K vs es F) (id : Int) (hi : I64 id) (hne : F.cutE id ≠ 0) :
    Calls Try.prog 18 #[.pointer (some ⟨f, 0, none⟩), .int .i64 id] w fun e w' => e = .returned (.int .i64 (F.cutE id)) ∧ w' = w := by
  have k1 := fun w => isId_any id w
  by_cases h1 : okId id
  · rw [isIdI_yes h1] at k1
    have h2 : id ∉ F.es.map Eg.id := fun h2 => hne (by unfold LF.cutE; rw [if_pos h1, if_pos h2])
    have e : F.cutE id = 152 := by unfold LF.cutE; rw [if_pos h1, if_neg h2]
    rw [e]
    have K1 := Lib.hid k1
    have c1 : w.cell? ⟨f, 1, none⟩ = some (.map (some be)) := h.at_.blk.cell 1
    have HM := Lib.hid h.at_.edges
    have HV : Hid ((ptrO (es id)).getD (.pointer none) = .pointer none ∧ (ptrO (es id)).isSome = false) := Lib.hid (by rw [h.eNone h2]; exact ⟨rfl, rfl⟩)
    clear h k1 h1 h2 e hne
    go_enter Try.func18, Try.ntmps18
    go_wp2_with fail
    refine (K1.out w).mono ?_
    rintro e w1 ⟨rfl, hw⟩
    subst w1
    go_wp2_with (at_lookup; refine wpList_lookG (X := kI) rfl _ _ _ rfl _ Try.underlying62 (zeroQ _) pQ_zero be 4096 rfl HM.out id rfl hi _ _ HV.out.1 HV.out.2 ?_)
    go_ret
    exact ⟨rfl, rfl⟩
  · rw [isIdI_no h1] at k1
    have e : F.cutE id = 1 := by unfold LF.cutE; rw [if_neg h1]
    rw [e]
    have K1 := Lib.hid k1
    clear h k1 h1 e hne
    go_enter Try.func18, Try.ntmps18
    go_wp2_with fail
    refine (K1.out w).mono ?_
    rintro e w1 ⟨rfl, hw⟩
    subst w1
    go_wp2_with fail
    go_ret
    exact ⟨rfl, rfl⟩

/-- The loop's plan. -/
structure CtPlan (f bv be : Nat) (vs : Int → Option Nat) (id : Int) (k a b : Nat) (du dv : Int) (St0 Q1 St1 Q2 Fin : World → Prop) : Prop where
  s0 : ∀ w, St0 w → See w f bv vs
  c1 : ∀ w, St0 w → Calls Try.prog 31 #[.pointer (some ⟨k, 0, none⟩), .pointer (some ⟨a, 0, none⟩)] w fun r w' => r = .returned (.tuple #[]) ∧ Q1 w'
  n1 : ∀ w, Q1 w → Cnt w f bv vs a du (du - 1) St1
  s1 : ∀ w, St1 w → See w f bv vs
  c2 : ∀ w, St1 w → Calls Try.prog 31 #[.pointer (some ⟨k, 0, none⟩), .pointer (some ⟨b, 0, none⟩)] w fun r w' => r = .returned (.tuple #[]) ∧ Q2 w'
  n2 : ∀ w, Q2 w → Cnt w f bv vs b dv (dv - 1) fun w2 => w2.cell? ⟨f, 1, none⟩ = some (.map (some be)) ∧ ∃ w', (Builtin.delete_ #[62, kI.K] 0 #[.map (some be), kI.kv id]).run Try.prog w2 = .ok (.tuple #[]) w' ∧ Fin w'

/-- A forest that an edge has gone from. -/
def Parted (w0 : World) (f bv be : Nat) (S : Nat → Prop) (vs es : Int → Option Nat) (F : LF) (id : Int) (k : Nat) (w' : World) : Prop :=
  ∃ P N K, LFAt w' f bv be (fun x => S x ∧ x ≠ k) P N K vs (fun i => if i = id then none else es i) ⟨F.vs, F.es.filter fun x => x.id != id⟩ ∧ Mod (fun x => S x ∨ x = be) w0 w'

theorem cut_plan (h : LFAt w f bv be S P N K vs es F) (e : Eg) (he : e ∈ F.es) {k a b : Nat} (hk : es e.id = some k) (ha : vs e.u = some a) (hb : vs e.v = some b) :
    ∃ St0 Q1 St1 Q2 : World → Prop, CtPlan f bv be vs e.id k a b (F.deg e.u) (F.deg e.v) St0 Q1 St1 Q2 (Parted w f bv be S vs es F e.id k) ∧ ∀ w2, Below w.heap.size w w2 → St0 w2 := by
  have haS := h.at_.vS _ _ ha
  have hbS := h.at_.vS _ _ hb
  have hkS := h.at_.eS _ _ hk
  obtain ⟨hu, hv, huv⟩ := h.gd.ends e he
  have hab : a ≠ b := fun e1 => huv (h.gd.vinj _ _ a ha (e1 ▸ hb))
  have hak : a ≠ k := fun e1 => h.gd.apart _ _ a ha (e1 ▸ hk)
  have hbk : b ≠ k := fun e1 => h.gd.apart _ _ b hb (e1 ▸ hk)
  have hka : Adj P k a := (h.gd.adj e he k hk a haS).2 (.inl ha)
  have hkb : Adj P k b := (h.gd.adj e he k hk b hbS).2 (.inr hb)
  have hid : I64 e.id := I64_of ⟨(h.eids e he).1, (h.eids e he).2.1⟩
  have hT : ∀ x, x < w.heap.size → S x → S x ∨ x = be := fun x _ hs => .inl hs
  have hda : (N a).d = F.deg e.u := (h.gd.vN _ a ha).2
  have hdb : (N b).d = F.deg e.v := (h.gd.vN _ b hb).2
  have hfe : f ≠ be := fun e => h.at_.edges.notBlk h.at_.blk e.symm
  refine ⟨fun w2 => LkM f bv be S vs es (Adj P) (fun x => (N x).e) (fun x => (N x).d) w2 P N K ∧ Mod (fun x => S x ∨ x = be) w w2,
    fun w2 => ∃ P2 N2 K2, LkM f bv be S vs es (fun x y => Adj P x y ∧ ¬ Two k a x y) (fun x => (N x).e) (fun x => (N x).d) w2 P2 N2 K2 ∧ Mod (fun x => S x ∨ x = be) w w2,
    fun w2 => ∃ P2 N2 K2, LkM f bv be S vs es (fun x y => Adj P x y ∧ ¬ Two k a x y) (fun x => (N x).e) (fun x => if x = a then F.deg e.u - 1 else (N x).d) w2 P2 N2 K2 ∧ Mod (fun x => S x ∨ x = be) w w2,
    fun w2 => ∃ P2 N2 K2, LkM f bv be S vs es (fun x y => (Adj P x y ∧ ¬ Two k a x y) ∧ ¬ Two k b x y) (fun x => (N x).e) (fun x => if x = a then F.deg e.u - 1 else (N x).d) w2 P2 N2 K2 ∧ Mod (fun x => S x ∨ x = be) w w2,
    ⟨fun w2 h2 => h2.1.at_.box.see, fun w2 h2 => ?_, fun w2 h2 => ?_, fun w2 h2 => ?_, fun w2 h2 => ?_, fun w2 h2 => ?_⟩, fun w2 hb2 => ⟨⟨h.at_.below hb2, fun x y => Iff.rfl, fun x => ⟨rfl, rfl⟩⟩, Mod.of_below hb2 _⟩⟩
  · refine (h2.1.cut hkS haS hka).mono ?_
    rintro r w3 ⟨rfl, P2, N2, K2, L, m⟩
    exact ⟨rfl, P2, N2, K2, L, h2.2.trans m hT⟩
  · obtain ⟨P2, N2, K2, L, m⟩ := h2
    exact L.cnt haS hda m hT fun w3 N3 L3 m3 => ⟨P2, N3, K2, L3, m3⟩
  · obtain ⟨P2, N2, K2, L, m⟩ := h2
    exact L.at_.box.see
  · obtain ⟨P2, N2, K2, L, m⟩ := h2
    refine (L.cut hkS hbS ⟨hkb, ?_⟩).mono ?_
    · rintro (⟨-, h1⟩ | ⟨h1, -⟩)
      · exact hab h1.symm
      · exact hak h1.symm
    · rintro r w3 ⟨rfl, P3, N3, K3, L3, m3⟩
      exact ⟨rfl, P3, N3, K3, L3, m.trans m3 hT⟩
  · obtain ⟨P2, N2, K2, L, m⟩ := h2
    refine L.cnt (d := F.deg e.v) hbS (by rw [if_neg (fun e1 : b = a => hab e1.symm)]; exact hdb) m hT fun w3 N3 L3 m3 => ⟨L3.at_.blk.cell 1, ?_⟩
    obtain ⟨w4, hrun, m4, t4⟩ := MapG.drop (X := kI) L3.at_.edges Try.underlying62 (a := e.id) hid 0
    have hmw : Mod (fun x => x = be) w3 w4 := (Mod.refl _ w3).turned t4 (fun _ => rfl)
    refine ⟨w4, hrun, ?_⟩
    have hgd : Gd (fun x => S x ∧ x ≠ k) P2 N3 ⟨F.vs, F.es.filter fun x => x.id != e.id⟩ vs (fun i => if i = e.id then none else es i) := by
      refine h.gd.cut he hk ha hb (fun x y sx sy hx hy => ?_) (fun x hx hxk => (L3.nod x).1) (fun x hx hxk => ?_)
      · rw [L3.adj x y]
        unfold Two
        constructor
        · exact fun hh => hh.1.1
        · refine fun hh => ⟨⟨hh, ?_⟩, ?_⟩
          · rintro (⟨h1, -⟩ | ⟨-, h1⟩)
            · exact hx h1
            · exact hy h1
          · rintro (⟨h1, -⟩ | ⟨-, h1⟩)
            · exact hx h1
            · exact hy h1
      · rw [(L3.nod x).2]
        show _ = (if x = b then F.deg e.v - 1 else if x = a then F.deg e.u - 1 else (N x).d) + _
        by_cases e1 : x = b
        · rw [if_pos e1, if_pos (.inr e1), e1, hdb]; omega
        · rw [if_neg e1]
          by_cases e2 : x = a
          · rw [if_pos e2, if_pos (.inl e2), e2, hda]; omega
          · rw [if_neg e2, if_neg (fun hh => hh.elim e2 e1)]; omega
    obtain ⟨t, K', hp, hno⟩ := L3.at_.fs.lone hkS (fun x hx hh => by
      obtain ⟨⟨h1, h2⟩, h3⟩ := (L3.adj k x).1 hh
      rcases (h.gd.adj e he k hk x hx).1 h1 with e1 | e1
      · rw [ha] at e1; injection e1 with e1; exact h2 (.inl ⟨rfl, e1.symm⟩)
      · rw [hb] at e1; injection e1 with e1; exact h3 (.inl ⟨rfl, e1.symm⟩))
    have hfs := (L3.at_.fs.perm hp).drop hno
    refine ⟨P2, N3, K', ⟨⟨L3.at_.blk.mod hmw hfe, L3.at_.verts.mod hmw h.at_.ne, ?_, fun x hx => (L3.at_.at_ x hx.1).mod hmw (fun e => h.at_.beS (e ▸ hx.1)), hfs, fun u a hu => (hgd.full a).2 (.inl ⟨u, hu⟩), fun i a hi => (hgd.full a).2 (.inr ⟨i, hi⟩), fun hk => h.at_.bvS hk.1, fun hk => h.at_.beS hk.1, h.at_.ne⟩, hgd, h.few, h.ids, ?_⟩, m3.trans' (hmw.mono fun x _ hx => .inr hx)⟩
    · exact MapG.cast (X := kI) m4 (fun u _ => by
        by_cases hu : u = e.id
        · rw [if_pos hu, if_pos hu]; rfl
        · rw [if_neg hu, if_neg hu])
    · intro x hx
      exact h.eids x (List.mem_filter.1 hx).1

end

end Go.Proofs.Ytlhkajlkapoabaa

/-
  The walk of Cut where it cuts.
-/
namespace Go.Proofs.Ytlhkajlkapoabaa
open Go.RowKit Go.Maps
set_option linter.unusedVariables false

section

variable {w w' : World} {f bv be : Nat} {S : Nat → Prop} {P : Nat → Option Nat} {N : Nat → NdL} {K : List (ST × Option Nat)} {vs es : Int → Option Nat} {F : LF}

set_option maxRecDepth 100000 in
set_option maxHeartbeats 4000000 in
theorem cut_yes (h : LFAt w f bv be S P N K vs es F) (id : Int) (hi : I64 id) (hz : F.cutE id = 0) :
    Calls Try.prog 18 #[.pointer (some ⟨f, 0, none⟩), .int .i64 id] w fun r w' => r = .returned (.int .i64 0) ∧ ∃ k, S k ∧ Parted w f bv be S vs es F id k w' := by
  have h1 : okId id := by
    by_cases h1 : okId id
    · exact h1
    · unfold LF.cutE at hz; rw [if_neg h1] at hz; cases hz
  have h2 : id ∈ F.es.map Eg.id := by
    by_cases h2 : id ∈ F.es.map Eg.id
    · exact h2
    · unfold LF.cutE at hz; rw [if_pos h1, if_neg h2] at hz; cases hz
  have k1 := fun w => isId_any id w
  rw [isIdI_yes h1] at k1
  obtain ⟨e, he, rfl⟩ := List.mem_map.1 h2
  obtain ⟨k, hk⟩ := (h.gd.ek e.id).2 ⟨e, he, rfl⟩
  obtain ⟨a, ha⟩ := (h.gd.vk e.u).2 (h.gd.ends e he).1
  obtain ⟨b, hb⟩ := (h.gd.vk e.v).2 (h.gd.ends e he).2.1
  have hu : I64 e.u := I64_of (h.ids _ (h.gd.ends e he).1)
  have hv : I64 e.v := I64_of (h.ids _ (h.gd.ends e he).2.1)
  obtain ⟨St0, Q1, St1, Q2, PL, hst⟩ := cut_plan h e he hk ha hb
  have c1 : w.cell? ⟨f, 1, none⟩ = some (.map (some be)) := h.at_.blk.cell 1
  have HM := Lib.hid h.at_.edges
  have HX : Hid ((ptrO (es e.id)).getD (.pointer none) = .pointer (some ⟨k, 0, none⟩) ∧ (ptrO (es e.id)).isSome = true) := Lib.hid (by rw [hk]; exact ⟨rfl, rfl⟩)
  obtain ⟨-, -, -, -, -, ⟨k5, k6, k7, k8⟩, -, -⟩ := node_cells (h.at_.at_ k (h.at_.eS _ _ hk))
  rw [h.gd.eN e he k hk] at k5 k6 k7 k8
  obtain ⟨id, u, v, wt⟩ := e
  dsimp only at *
  obtain ⟨du, hdu⟩ : ∃ d, d = F.deg u := ⟨_, rfl⟩
  obtain ⟨dv, hdv⟩ : ∃ d, d = F.deg v := ⟨_, rfl⟩
  have bu := deg_le h u
  have bv' := deg_le h v
  rw [← hdu] at bu
  rw [← hdv] at bv'
  rw [← hdu, ← hdv] at PL
  have wu : IntKind.i64.wrap (du - 1) = du - 1 := by rw [IntKind.wrap_i64]; omega
  have wv : IntKind.i64.wrap (dv - 1) = dv - 1 := by rw [IntKind.wrap_i64]; omega
  have HPL := Lib.hid PL
  have HST := Lib.hid hst
  have HU := Lib.hid hu
  have HV := Lib.hid hv
  have HI := Lib.hid hi
  have HKS := Lib.hid (h.at_.eS _ _ hk)
  have HPA : Hid ((ptrO (vs u)).getD (.pointer none) = .pointer (some ⟨a, 0, none⟩)) := Lib.hid (by rw [ha]; rfl)
  have HPB : Hid ((ptrO (vs v)).getD (.pointer none) = .pointer (some ⟨b, 0, none⟩)) := Lib.hid (by rw [hb]; rfl)
  have K1 := Lib.hid k1
  have hix0 := run_ix0
  have hix1 := run_ix1
  clear h k1 h1 h2 he hk ha hb hu hv hst PL hdu hdv bu bv' hz hi k5 k8
  go_enter Try.func18, Try.ntmps18
  go_wp2_with fail
  refine (K1.out w).mono ?_
  rintro e w1 ⟨rfl, hw⟩
  subst w1
  go_wp2_with (at_lookup; refine wpList_lookG (X := kI) rfl _ _ _ rfl _ Try.underlying62 (zeroQ _) pQ_zero be 4096 rfl HM.out id rfl HI.out _ _ HX.out.1 HX.out.2 ?_)
  go_region
  clear k6 k7 c1
  go_wp2_with fail
  go_loopg [8, 34] 2 (fun q s8 s34 wr => Hid ((q = 2 ∧ s34 = .int .i64 0 ∧ St0 wr) ∨ (q = 1 ∧ s34 = .int .i64 1 ∧ St1 wr) ∨ (q = 0 ∧ s34 = .int .i64 2 ∧ wr.cell? ⟨f, 1, none⟩ = some (.map (some be)) ∧ ∃ w', (Builtin.delete_ #[62, kI.K] 0 #[.map (some be), kI.kv id]).run Try.prog wr = .ok (.tuple #[]) w' ∧ Parted w f bv be S vs es F id k w')))
  case atStart => exact Lib.hid (.inl ⟨rfl, rfl, HST.out _ (Below.refl _ _).drew⟩)
  case round =>
    rcases hrel.out with ⟨hq, rfl, hs⟩ | ⟨hq, rfl, hs⟩ | ⟨hq, rfl, c1, w5, hrun, hf⟩
    · have SE := HPL.out.s0 _ hs
      have c0 : wr.cell? ⟨f, 0, none⟩ = some (.map (some bv)) := SE.1
      have HM := Lib.hid SE.2
      have HC := Lib.hid (HPL.out.c1 _ hs)
      clear SE hs hrel
      go_wp2_with (at_lookup; refine wpList_lookG1 (X := kI) rfl _ _ _ rfl _ Try.underlying62 (zeroQ _) pQ_zero bv 4096 rfl HM.out u rfl HU.out _ HPA.out ?_)
      refine HC.out.mono ?_
      rintro r w4 ⟨rfl, q1⟩
      have CN := HPL.out.n1 _ q1
      have c0' : w4.cell? ⟨f, 0, none⟩ = some (.map (some bv)) := CN.see.1
      have HM' := Lib.hid CN.see.2
      have c4 := CN.cell
      have f4 := CN.frozen
      have HS := Lib.hid CN.st
      clear CN q1 c0 HC HM
      go_wp2_with (at_lookup; refine wpList_lookG1 (X := kI) rfl _ _ _ rfl _ Try.underlying62 (zeroQ _) pQ_zero bv 4096 rfl HM'.out u rfl HU.out _ HPA.out ?_)
      go_roundg 1
      case rel => exact Lib.hid (.inr (.inl ⟨rfl, rfl, HS.out⟩))
      case measure => omega
    · have SE := HPL.out.s1 _ hs
      have c0 : wr.cell? ⟨f, 0, none⟩ = some (.map (some bv)) := SE.1
      have HM := Lib.hid SE.2
      have HC := Lib.hid (HPL.out.c2 _ hs)
      clear SE hs hrel
      go_wp2_with (at_lookup; refine wpList_lookG1 (X := kI) rfl _ _ _ rfl _ Try.underlying62 (zeroQ _) pQ_zero bv 4096 rfl HM.out v rfl HV.out _ HPB.out ?_)
      refine HC.out.mono ?_
      rintro r w4 ⟨rfl, q1⟩
      have CN := HPL.out.n2 _ q1
      have c0' : w4.cell? ⟨f, 0, none⟩ = some (.map (some bv)) := CN.see.1
      have HM' := Lib.hid CN.see.2
      have c4 := CN.cell
      have f4 := CN.frozen
      have HS := Lib.hid CN.st
      clear CN q1 c0 HC HM
      go_wp2_with (at_lookup; refine wpList_lookG1 (X := kI) rfl _ _ _ rfl _ Try.underlying62 (zeroQ _) pQ_zero bv 4096 rfl HM'.out v rfl HV.out _ HPB.out ?_)
      go_roundg 0
      case rel => exact Lib.hid (.inr (.inr ⟨rfl, rfl, HS.out.1, HS.out.2⟩))
      case measure => omega
    · have HF := Lib.hid hf
      clear hf hrel
      go_wp2_with fail
      go_ret
      exact ⟨rfl, k, HKS.out, HF.out⟩

end

end Go.Proofs.Ytlhkajlkapoabaa

/-
  Ways and being joined, in plain words; which edges are on the way between two vertices; what is told of them.
-/
namespace Go.Proofs.Ytlhkajlkapoabaa
open Go.RowKit Go.Maps
set_option linter.unusedVariables false

theorem nxt_snoc {l : List Nat} {b c x y : Nat} (h : Nxt (l ++ [b] ++ [c]) x y) : Nxt (l ++ [b]) x y ∨ (x = b ∧ y = c) := by
  obtain ⟨s, t, e⟩ := h
  rcases snoc_or (l := t) with rfl | ⟨k, d, rfl⟩
  · have e : (l ++ [b]) ++ [c] = (s ++ [x]) ++ [y] := by rw [e]; simp
    obtain ⟨e1, e2⟩ := List.append_inj' e rfl
    obtain ⟨e3, e4⟩ := List.append_inj' e1 rfl
    injection e2 with e2
    injection e4 with e4
    exact .inr ⟨e4.symm, e2.symm⟩
  · have e : (l ++ [b]) ++ [c] = (s ++ x :: y :: k) ++ [d] := by rw [e]; simp
    obtain ⟨e1, e2⟩ := List.append_inj' e rfl
    exact .inl ⟨s, k, e1⟩

/-- Whoever is joined has a way. -/
theorem con_way {R : Nat → Nat → Prop} {a b : Nat} (h : Con R a b) : ∃ L, Way R a b L ∧ ∀ x ∈ L, x = a ∨ ∃ y, R y x := by
  induction h with
  | refl => exact ⟨[a], ⟨by simp, ⟨[], rfl⟩, ⟨[], rfl⟩, fun x y hn => by
      obtain ⟨s, t, e⟩ := hn
      cases s with
      | nil => simp at e
      | cons z s => simp at e⟩, fun x hx => .inl (List.mem_singleton.1 hx)⟩
  | @step b c _ hbc ih =>
    obtain ⟨L, W, hm⟩ := ih
    by_cases hc : c ∈ L
    · obtain ⟨s, t, e⟩ := List.append_of_mem hc
      have hs : ∀ x ∈ s ++ [c], x ∈ L := fun x hx => by
        rw [e]
        rcases List.mem_append.1 hx with hx | hx
        · exact List.mem_append_left _ hx
        · rw [List.mem_singleton.1 hx]; simp
      refine ⟨s ++ [c], ⟨?_, ?_, ⟨s, rfl⟩, fun x y hxy => W.next x y ?_⟩, fun x hx => hm x (hs x hx)⟩
      · have hn := W.nodup
        have e : L = (s ++ [c]) ++ t := by rw [e]; simp
        rw [e] at hn
        exact (List.nodup_append.1 hn).1
      · obtain ⟨t', e'⟩ := W.first
        cases s with
        | nil =>
          rw [e'] at e
          injection e with e1 e2
          exact ⟨[], by rw [e1]; rfl⟩
        | cons z s =>
          rw [e'] at e
          injection e with e1 e2
          exact ⟨s ++ [c], by rw [e1]; rfl⟩
      · obtain ⟨p, q, e2⟩ := hxy
        exact ⟨p, q ++ t, by rw [e, show s ++ c :: t = (s ++ [c]) ++ t by simp, e2]; simp⟩
    · refine ⟨L ++ [c], ⟨?_, ?_, ⟨L, rfl⟩, fun x y hxy => ?_⟩, fun x hx => ?_⟩
      · exact List.nodup_append.2 ⟨W.nodup, by simp, fun x hx y hy e => hc (by rw [List.mem_singleton.1 hy] at e; exact e ▸ hx)⟩
      · obtain ⟨t, e⟩ := W.first
        exact ⟨t ++ [c], by rw [e]; rfl⟩
      · obtain ⟨s, e⟩ := W.last
        rw [e] at hxy
        rcases nxt_snoc hxy with h1 | ⟨rfl, rfl⟩
        · rw [← e] at h1; exact W.next x y h1
        · exact hbc
      · rcases List.mem_append.1 hx with hx | hx
        · exact hm x hx
        · rw [List.mem_singleton.1 hx]; exact .inr ⟨b, hbc⟩

theorem way_con_aux {R : Nat → Nat → Prop} {b : Nat} : ∀ (t : List Nat) (a : Nat), (∃ s, a :: t = s ++ [b]) → (∀ x y, Nxt (a :: t) x y → R x y) → Con (fun x y => R x y ∧ x ∈ a :: t ∧ y ∈ a :: t) a b
  | [], a, ⟨s, e⟩, _ => by
    cases s with
    | nil => injection e with e _; subst e; exact .refl _
    | cons z s => simp at e
  | c :: t, a, ⟨s, e⟩, h => by
    have h1 := h a c ⟨[], t, rfl⟩
    have e' : ∃ s, c :: t = s ++ [b] := by
      cases s with
      | nil => simp at e
      | cons z s => injection e with _ e; exact ⟨s, e⟩
    have ih := way_con_aux t c e' fun x y hxy => h x y (hxy.cons a)
    exact (Con.step (.refl _) ⟨h1, by simp, by simp⟩).trans (con_congr (fun x y hh => ⟨hh.1, List.mem_cons_of_mem _ hh.2.1, List.mem_cons_of_mem _ hh.2.2⟩) ih)

/-- A way joins its ends. -/
theorem Way.con {R : Nat → Nat → Prop} {a b : Nat} {L : List Nat} (W : Way R a b L) : Con (fun x y => R x y ∧ x ∈ L ∧ y ∈ L) a b := by
  obtain ⟨t, e⟩ := W.first
  have h1 := W.last
  have h2 := W.next
  rw [e] at h1 h2 ⊢
  exact way_con_aux t a h1 h2

/-- Without an edge. -/
def LF.less (F : LF) (id : Int) : LF := ⟨F.vs, F.es.filter fun x => x.id != id⟩

section

variable {S : Nat → Prop} {P : Nat → Option Nat} {N : Nat → NdL} {F : LF} {vs es : Int → Option Nat}

theorem Gd.joinLess (h : Gd S P N F vs es) {e : Eg} (he : e ∈ F.es) {k : Nat} (hk : es e.id = some k) {u v : Int} {a b : Nat} (ha : vs u = some a) (hb : vs v = some b) : Con (AdjS (fun x => S x ∧ x ≠ k) P) a b ↔ (F.less e.id).Join u v := by
  obtain ⟨h1, h2, -⟩ := h.ends e he
  obtain ⟨p, hp⟩ := (h.vk e.u).2 h1
  obtain ⟨q, hq⟩ := (h.vk e.v).2 h2
  have hg : Gd (fun x => S x ∧ x ≠ k) P (fun x => { N x with d := (N x).d - if x = p ∨ x = q then 1 else 0 }) (F.less e.id) vs (fun i => if i = e.id then none else es i) :=
    h.cut he hk hp hq (fun x y _ _ _ _ => Iff.rfl) (fun x _ _ => rfl) (fun x _ _ => by show (N x).d = (N x).d - (if x = p ∨ x = q then 1 else 0) + _; omega)
  exact hg.join ha hb

/-- An edge is on a way just if the two are not joined without it. -/
theorem Gd.onWay (h : Gd S P N F vs es) (hr : ∃ rk, Ranks P rk) {e : Eg} (he : e ∈ F.es) {k : Nat} (hk : es e.id = some k) {u v : Int} {a b : Nat} (ha : vs u = some a) (hb : vs v = some b) {L : List Nat} (W : Way (Adj P) a b L) (hL : ∀ x ∈ L, S x) : k ∈ L ↔ ¬ (F.less e.id).Join u v := by
  have hak : a ≠ k := fun e1 => h.apart _ _ a ha (e1 ▸ hk)
  constructor
  · intro hm hj
    obtain ⟨L', W', hm'⟩ := con_way ((h.joinLess he hk ha hb).2 hj)
    have W2 : Way (Adj P) a b L' := ⟨W'.nodup, W'.first, W'.last, fun x y hxy => (W'.next x y hxy).2.2⟩
    rw [way_one hr W W2] at hm
    rcases hm' k hm with e1 | ⟨y, hy⟩
    · exact hak e1.symm
    · exact hy.2.1.2 rfl
  · intro hn
    by_cases hm : k ∈ L
    · exact hm
    · exact absurd ((h.joinLess he hk ha hb).1 (con_congr (fun x y hxy => ⟨⟨hL x hxy.2.1, fun e1 => hm (e1 ▸ hxy.2.1)⟩, ⟨hL y hxy.2.2, fun e1 => hm (e1 ▸ hxy.2.2)⟩, hxy.1⟩) W.con)) hn

/-- An edge's ends are not joined without it. -/
theorem Gd.tree (h : Gd S P N F vs es) (hr : ∃ rk, Ranks P rk) {e : Eg} (he : e ∈ F.es) : ¬ (F.less e.id).Join e.u e.v := by
  obtain ⟨h1, h2, h3⟩ := h.ends e he
  obtain ⟨a, ha⟩ := (h.vk e.u).2 h1
  obtain ⟨b, hb⟩ := (h.vk e.v).2 h2
  obtain ⟨k, hk⟩ := (h.ek e.id).2 ⟨e, he, rfl⟩
  have haS : S a := (h.full a).2 (.inl ⟨_, ha⟩)
  have hbS : S b := (h.full b).2 (.inl ⟨_, hb⟩)
  have hkS : S k := (h.full k).2 (.inr ⟨_, hk⟩)
  have hak : a ≠ k := fun e1 => h.apart _ _ a ha (e1 ▸ hk)
  have hbk : b ≠ k := fun e1 => h.apart _ _ b hb (e1 ▸ hk)
  have hab : a ≠ b := fun e1 => h3 (h.vinj _ _ a ha (e1 ▸ hb))
  have W : Way (Adj P) a b [a, k, b] := by
    refine ⟨?_, ⟨_, rfl⟩, ⟨[a, k], rfl⟩, fun x y hxy => ?_⟩
    · simp [hak, hab, hbk.symm]
    · have e3 : [a, k, b] = [a] ++ [k] ++ [b] := rfl
      rw [e3] at hxy
      rcases nxt_snoc hxy with hxy | ⟨rfl, rfl⟩
      · have e2 : [a] ++ [k] = [] ++ [a] ++ [k] := rfl
        rw [e2] at hxy
        rcases nxt_snoc hxy with hxy | ⟨rfl, rfl⟩
        · obtain ⟨s, t, e⟩ := hxy
          cases s with
          | nil => simp at e
          | cons z s => simp at e
        · exact ((h.adj e he y hk x haS).2 (.inl ha)).symm
      · exact (h.adj e he x hk y hbS).2 (.inr hb)
  exact (h.onWay hr he hk ha hb W (fun x hx => by simp at hx; rcases hx with rfl | rfl | rfl <;> assumption)).1 (by simp)

end

end Go.Proofs.Ytlhkajlkapoabaa

/-
  What is told of a way is that of the edges without which its ends are not joined; the contract of Along.
-/
namespace Go.Proofs.Ytlhkajlkapoabaa
open Go.RowKit Go.Maps
set_option linter.unusedVariables false

open Classical in
/-- The edges between two vertices. -/
noncomputable def LF.path (F : LF) (u v : Int) : List Eg := if u ∈ F.vs ∧ v ∈ F.vs ∧ F.Join u v then F.es.filter fun e => decide (¬ (F.less e.id).Join u v) else []

open Classical in
theorem LF.path_yes {F : LF} {u v : Int} (h : u ∈ F.vs ∧ v ∈ F.vs ∧ F.Join u v) (e : Eg) : e ∈ F.path u v ↔ e ∈ F.es ∧ ¬ (F.less e.id).Join u v := by
  unfold LF.path
  rw [if_pos h, List.mem_filter, decide_eq_true_iff]

theorem LF.path_no {F : LF} {u v : Int} (h : ¬ (u ∈ F.vs ∧ v ∈ F.vs ∧ F.Join u v)) : F.path u v = [] := by
  unfold LF.path
  rw [if_neg h]

theorem LF.path_sub (F : LF) (u v : Int) : (F.path u v).Sublist F.es := by
  unfold LF.path
  split
  · exact List.filter_sublist
  · exact List.nil_sublist _

/-- The greatest of some edges; none is the zero edge. -/
def best : List Eg → Eg
  | [] => Eg.zero
  | e :: L => if e.above (best L) then e else best L

theorem isMax_one (e : Eg) : IsMax e [e] := ⟨List.mem_singleton.2 rfl, fun x hx => by rw [List.mem_singleton.1 hx]; exact (above_no _ _).2 (by omega)⟩

theorem best_max : ∀ L : List Eg, IsMax (best L) (Eg.zero :: L)
  | [] => isMax_one _
  | e :: L => by
    have k := isMax_pick (best_max L) (isMax_one e)
    refine k.perm ?_
    show (Eg.zero :: (L ++ [e])).Perm (Eg.zero :: e :: L)
    exact (List.perm_append_singleton e L).cons _

theorem IsMax.congr {m : Eg} {L L' : List Eg} (h : IsMax m L) (hm : ∀ x, x ∈ L' ↔ x ∈ L) : IsMax m L' := ⟨(hm m).2 h.1, fun e he => h.2 e ((hm e).1 he)⟩

theorem max_one {m m' : Eg} {L : List Eg} (h : IsMax m L) (h' : IsMax m' L) (hu : ∀ x ∈ L, ∀ y ∈ L, x.id = y.id → x = y) : m = m' := by
  have h1 := (above_no _ _).1 (h.2 m' h'.1)
  have h2 := (above_no _ _).1 (h'.2 m h.1)
  exact hu m h.1 m' h'.1 (by omega)

theorem sum_skip : ∀ L : List Eg, sumE L = sumE (L.filter fun e => decide (e ≠ Eg.zero)) ∧ cntE L = cntE (L.filter fun e => decide (e ≠ Eg.zero))
  | [] => ⟨rfl, rfl⟩
  | e :: L => by
    obtain ⟨h1, h2⟩ := sum_skip L
    by_cases h : e = Eg.zero
    · rw [List.filter_cons, if_neg (by simpa using h), sumE_cons, cntE_cons, h1, h2]
      unfold Eg.stepS Eg.stepK
      rw [if_pos h, if_pos h]
      omega
    · rw [List.filter_cons, if_pos (by simpa using h), sumE_cons, cntE_cons, sumE_cons, cntE_cons, h1, h2]
      exact ⟨rfl, rfl⟩

section

variable {w w' : World} {f bv be : Nat} {S : Nat → Prop} {P : Nat → Option Nat} {N : Nat → NdL} {K : List (ST × Option Nat)} {vs es : Int → Option Nat} {F : LF}

theorem LFAt.told (h : LFAt w f bv be S P N K vs es F) {u v : Int} {a b : Nat} (ha : vs u = some a) (hb : vs v = some b) {B A : ST} {P1 : Nat → Option Nat} {N' : Nat → NdL} {K' : List (ST × Option Nat)} (D : ToD S P w N K a b w' B P1 N' K' A) (hj : Anc P1 a b) :
    (N' b).m = best (F.path u v) ∧ (N' b).s = sumE (F.path u v) ∧ (N' b).k = cntE (F.path u v) := by
  obtain ⟨W, T⟩ := D.way (line_rev_nd h.at_.fs.rank D.line) hj
  have hL : ∀ x ∈ A.list ++ [b], S x := fun x hx => by
    refine (D.fs.part x).2 ?_
    rw [allK_cons]
    refine List.mem_append_left _ ?_
    have e : (ST.node A b false .nil).list = A.list ++ [b] := by simp [ST.list]
    rw [← e] at hx
    exact (ST.perm_flat _).mem_iff.1 hx
  obtain ⟨L, hLe⟩ : ∃ L, L = A.list ++ [b] := ⟨_, rfl⟩
  rw [← hLe] at W T hL
  have hj' : u ∈ F.vs ∧ v ∈ F.vs ∧ F.Join u v := ⟨(h.gd.vk u).1 ⟨a, ha⟩, (h.gd.vk v).1 ⟨b, hb⟩, (h.reach ha hb D).1 hj⟩
  have hmem := F.path_yes hj'
  have hez : ∀ e ∈ F.es, e ≠ Eg.zero := fun e he hz => by have := (h.eids e he).1; rw [hz] at this; exact absurd this (by decide)
  have hnode : ∀ x ∈ L, (N x).e ≠ Eg.zero → (N x).e ∈ F.es ∧ es (N x).e.id = some x := fun x hx hz => by
    rcases (h.gd.full x).1 (hL x hx) with ⟨y, hy⟩ | ⟨i, hi⟩
    · exact absurd (h.gd.vN y x hy).1 hz
    · obtain ⟨e, he, rfl⟩ := (h.gd.ek i).1 ⟨x, hi⟩
      rw [h.gd.eN e he x hi]
      exact ⟨he, hi⟩
  have hin : ∀ e, e ∈ F.path u v ↔ e ∈ eds N L ∧ e ≠ Eg.zero := fun e => by
    rw [hmem e]
    constructor
    · rintro ⟨he, hs⟩
      obtain ⟨k, hk⟩ := (h.gd.ek e.id).2 ⟨e, he, rfl⟩
      have hkL := (h.gd.onWay h.at_.fs.rank he hk ha hb W hL).2 hs
      exact ⟨List.mem_map.2 ⟨k, hkL, h.gd.eN e he k hk⟩, hez e he⟩
    · rintro ⟨he, hz⟩
      obtain ⟨x, hx, rfl⟩ := List.mem_map.1 he
      obtain ⟨h1, h2⟩ := hnode x hx hz
      exact ⟨h1, (h.gd.onWay h.at_.fs.rank h1 h2 ha hb W hL).1 hx⟩
  have hnd1 : ((eds N L).filter fun e => decide (e ≠ Eg.zero)).Nodup := by
    unfold eds
    rw [List.filter_map]
    refine List.pairwise_map.2 (List.Pairwise.imp_of_mem (fun {x y} hx hy hne e => hne ?_) (W.nodup.filter _))
    obtain ⟨hx1, hx2⟩ := List.mem_filter.1 hx
    obtain ⟨hy1, hy2⟩ := List.mem_filter.1 hy
    have hx2 : (N x).e ≠ Eg.zero := by simpa using hx2
    have hy2 : (N y).e ≠ Eg.zero := by simpa using hy2
    have k1 := (hnode x hx1 hx2).2
    have k2 := (hnode y hy1 hy2).2
    rw [e, k2] at k1
    injection k1 with k1
    exact k1.symm
  have hp : ((eds N L).filter fun e => decide (e ≠ Eg.zero)).Perm (F.path u v) := (List.perm_ext_iff_of_nodup hnd1 (h.gd.esnd.sublist (F.path_sub u v))).2 fun e => by
    rw [hin e, List.mem_filter, decide_eq_true_iff]
  refine ⟨?_, ?_, ?_⟩
  · refine max_one (T.max.congr (L' := Eg.zero :: F.path u v) fun x => ?_) (best_max _) (fun x hx y hy hxy => ?_)
    · rw [List.mem_cons, hin x]
      constructor
      · rintro (rfl | h1)
        · obtain ⟨t, e⟩ := W.first
          exact List.mem_map.2 ⟨a, by rw [e]; exact List.mem_cons_self .., (h.gd.vN u a ha).1⟩
        · exact h1.1
      · intro hx
        by_cases hz : x = Eg.zero
        · exact .inl hz
        · exact .inr ⟨hx, hz⟩
    · have hid : ∀ z ∈ F.path u v, z ∈ F.es ∧ z.id ≠ 0 := fun z hz => ⟨((hmem z).1 hz).1, by have := (h.eids z ((hmem z).1 hz).1).1; omega⟩
      rcases List.mem_cons.1 hx with rfl | hx <;> rcases List.mem_cons.1 hy with rfl | hy
      · rfl
      · exact absurd hxy.symm (hid y hy).2
      · exact absurd hxy (hid x hx).2
      · exact one_of_nodup h.gd.idnd x (hid x hx).1 y (hid y hy).1 hxy
  · rw [T.s, (sum_skip _).1, sumE_perm hp]
  · rw [T.k, (sum_skip _).2, cntE_perm hp]

open Classical in
noncomputable def LF.alongX (F : LF) (u v : Int) : Int := if u ∈ F.vs ∧ v ∈ F.vs then (if F.Join u v then 0 else 61) else 51

/-- What is told of a way. -/
noncomputable def LF.alongV (F : LF) (u v : Int) : Value := .agg (agC (best (F.path u v)) (fl (sumE (F.path u v))) (fl (cntE (F.path u v))))

theorem LF.alongV_no {F : LF} {u v : Int} (h : ¬ (u ∈ F.vs ∧ v ∈ F.vs ∧ F.Join u v)) : F.alongV u v = .agg (agC Eg.zero 0 0) := by
  unfold LF.alongV
  rw [F.path_no h]
  show Value.agg (agC Eg.zero (fl 0) (fl 0)) = _
  rw [fl_zero']

theorem along_any (h : LFAt w f bv be S P N K vs es F) (u v : Int) (hu : I64 u) (hv : I64 v) :
    Calls Try.prog 16 #[.pointer (some ⟨f, 0, none⟩), .int .i64 u, .int .i64 v] w fun e w' => e = .returned (.tuple #[F.alongV u v, .int .i64 (F.alongX u v)]) ∧ LTurn w f bv be S vs es F w' := by
  by_cases hm : u ∈ F.vs ∧ v ∈ F.vs
  · obtain ⟨a, ha⟩ := (h.gd.vk u).2 hm.1
    obtain ⟨b, hb⟩ := (h.gd.vk v).2 hm.2
    refine (along_yes h.at_ u v hu hv a b ha hb).mono ?_
    rintro e w' ⟨B, P1, N', K', A, D, hh⟩
    have hr := h.reach ha hb D
    rcases hh with ⟨h1, rfl⟩ | ⟨h1, rfl⟩
    · have hj : ¬ F.Join u v := fun hj => h1 (hr.2 hj)
      have e2 : F.alongX u v = 61 := by unfold LF.alongX; rw [if_pos hm, if_neg hj]
      rw [e2, LF.alongV_no fun hh => hj hh.2.2]
      exact ⟨rfl, _, _, _, h.toD D, D.mod⟩
    · have hj := hr.1 h1
      have e2 : F.alongX u v = 0 := by unfold LF.alongX; rw [if_pos hm, if_pos hj]
      obtain ⟨t1, t2, t3⟩ := h.told ha hb D h1
      rw [e2, t1, t2, t3]
      exact ⟨rfl, _, _, _, h.toD D, D.mod⟩
  · have hn : vs u = none ∨ vs v = none := by
      by_cases h1 : u ∈ F.vs
      · exact .inr (h.vNone fun h2 => hm ⟨h1, h2⟩)
      · exact .inl (h.vNone h1)
    refine (along_no h.at_ u v hu hv hn).mono ?_
    rintro e w' ⟨rfl, hb⟩
    have e2 : F.alongX u v = 51 := by unfold LF.alongX; rw [if_neg hm]
    rw [e2, LF.alongV_no fun hh => hm ⟨hh.1, hh.2.1⟩]
    exact ⟨rfl, _, _, _, h.below hb, Mod.of_below hb _⟩

end

end Go.Proofs.Ytlhkajlkapoabaa
