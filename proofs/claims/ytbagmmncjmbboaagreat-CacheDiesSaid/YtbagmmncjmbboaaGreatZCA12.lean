/-
  The walks of the pool's Get, Pin, Unpin, Frames.
-/
import Derived.Test.YtbagmmncjmbboaaGreatShelf
import Derived.Test.YtbagmmncjmbboaaGreatZCA9
namespace Go.Proofs.YtbagmmncjmbboaaGreat
open Go.RowKit Go.Maps
set_option linter.unusedVariables false

/-- What Get answers: a page of its own. -/
def GetRes (w : World) (I : PI) (Q : Nat → Prop) (c : CP) (n : Int) (e : Ending) (w' : World) : Prop := ∃ k a c', FindOut c n k a c' ∧ PoolAt w' I Q c' ∧ Mod I.Turn w w' ∧
  ((k ≠ 0 ∧ e = .returned (.tuple #[.pointer none, .int .i64 k])) ∨
   (k = 0 ∧ ∃ i x pg p' v' xs', a = some i ∧ c'.fs[i]? = some x ∧ isAt n x = true ∧ x.1.page = some pg ∧ e = .returned (.tuple #[.pointer (some ⟨p', 0, none⟩), .int .i64 0]) ∧ PageAt w' p' w.heap.size v' xs' pg ∧ ItemsIn (fun k => w.heap.size ≤ k) xs' pg.items ∧ pg.Fit))

def CP.pin (c : CP) (i : Nat) (x : Fr × FrM) : CP := { c with fs := c.fs.set i ({ x.1 with pins := x.1.pins + 1 }, x.2) }

def CP.unpin (c : CP) (i : Nat) (x : Fr × FrM) : CP := { c with fs := c.fs.set i ({ x.1 with pins := x.1.pins - 1 }, x.2) }

def PinRes (w : World) (I : PI) (Q : Nat → Prop) (c : CP) (n : Int) (e : Ending) (w' : World) : Prop := ∃ k a c1 c', FindOut c n k a c1 ∧ e = .returned (.int .i64 k) ∧ (∃ w1, PoolAt w1 I Q c1) ∧ PoolAt w' I Q c' ∧ Mod I.Turn w w' ∧
  ((k ≠ 0 ∧ c' = c1) ∨ (k = 0 ∧ ∃ i x, a = some i ∧ c1.fs[i]? = some x ∧ isAt n x = true ∧ c' = c1.pin i x))

def UnpinRes (w : World) (I : PI) (Q : Nat → Prop) (c : CP) (n : Int) (e : Ending) (w' : World) : Prop := ∃ c', PoolAt w' I Q c' ∧ Mod I.Turn w w' ∧
  ((pinsOf c.fs n = 0 ∧ c' = c ∧ e = .returned (.int .i64 101)) ∨ (∃ i x, idx c.fs n = some i ∧ c.fs[i]? = some x ∧ x.1.pins ≠ 0 ∧ c' = c.unpin i x ∧ e = .returned (.int .i64 0)))

section

variable {w w' : World} {I : PI} {Q : Nat → Prop} {c : CP}

set_option maxRecDepth 100000 in
set_option maxHeartbeats 4000000 in
theorem Get_pool (h : PoolAt w I Q c) (n : Int) (hn64 : I64 n) (hst : c.s.steps < 1000000000000000) (htn : c.o.turn < 1000000000000000) :
    Calls Tryz.prog 32 #[.pointer (some ⟨I.q, 0, none⟩), .int .i64 n] w (GetRes w I Q c n) := by
  have HF := Lib.hid (find_pool h n hn64 hst htn)
  clear h hst htn
  go_enter Tryz.func32, Tryz.ntmps32
  go_wp2_with fail
  refine HF.out.mono ?_
  rintro e w1 ⟨k, a, c', rfl, ho, hp, hm, -⟩
  have HO := Lib.hid ho
  have HP := Lib.hid hp
  have HM := Lib.hid hm
  clear ho hp hm HF
  by_cases hk : k = 0
  · subst hk
    obtain ⟨i, x, ha, hx, hat⟩ := find_some HO.out
    subst ha
    obtain ⟨pg, hpg⟩ := Option.isSome_iff_exists.1 (isAt_yes.1 hat).1
    have k1 : w1.cell? ⟨I.fb, i * 6 + 1, none⟩ = some (.pointer (some ⟨x.2.p, 0, none⟩)) := HP.out.frs.cell hx 1 _ (by unfold encFr; rw [hpg]; rfl)
    have HIN := Lib.hid (HP.out.page i x pg hx hpg)
    have HX := Lib.hid hx
    have HAT := Lib.hid hat
    have HPG := Lib.hid hpg
    clear hx hat hpg
    unfold ptrF
    dsimp only [Option.map]
    go_wp2_with fail
    refine (copyOf_any w1 x.2.p 0 x.2.v x.2.xs pg HIN.out.at_ HIN.out.fit).mono ?_
    rintro e w2 ⟨p', v', xs', rfl, h2, h3, h4⟩
    have HP2 := Lib.hid h2
    have HIT := Lib.hid h3
    have HB2 := Lib.hid h4
    clear h2 h3 h4
    go_wp2_with fail
    go_ret2
    have hz := HM.out.size
    exact ⟨0, some i, c', HO.out, HP.out.below HB2.out, HM.out.trans' (Mod.of_below HB2.out _), .inr ⟨rfl, i, x, pg, p', v', xs', rfl, HX.out, HAT.out, HPG.out, rfl, HP2.out.base' hz, HIT.out.mono fun q hq => Nat.le_trans hz hq, HIN.out.fit⟩⟩
  · have ha := find_none HO.out hk
    subst ha
    have e2 : (k != 0) = true := by simpa using hk
    have HK := Lib.hid hk
    clear hk
    unfold ptrF
    dsimp only [Option.map]
    go_wp2_with fail
    go_ret2
    exact ⟨k, none, c', HO.out, HP.out, HM.out, .inl ⟨HK.out, rfl⟩⟩

set_option maxRecDepth 100000 in
set_option maxHeartbeats 4000000 in
theorem Pin_pool (h : PoolAt w I Q c) (n : Int) (hn64 : I64 n) (hst : c.s.steps < 1000000000000000) (htn : c.o.turn < 1000000000000000) :
    Calls Tryz.prog 33 #[.pointer (some ⟨I.q, 0, none⟩), .int .i64 n] w (PinRes w I Q c n) := by
  have HF := Lib.hid (find_pool h n hn64 hst htn)
  have HL := Lib.hid (fun (c' : CP) (k : Int) (a : Option Nat) (ho : FindOut c n k a c') => (find_turn ho : c'.o.turn ≤ c.o.turn + 1))
  have HTN := Lib.hid htn
  clear h hst htn
  go_enter Tryz.func33, Tryz.ntmps33
  go_wp2_with fail
  refine HF.out.mono ?_
  rintro e w1 ⟨k, a, c', rfl, ho, hp, hm, hpin⟩
  have HO := Lib.hid ho
  have HP := Lib.hid hp
  have HM := Lib.hid hm
  have HPI := Lib.hid hpin
  clear ho hp hm hpin HF
  by_cases hk : k = 0
  · subst hk
    obtain ⟨i, x, ha, hx, hat⟩ := find_some HO.out
    subst ha
    obtain ⟨pn, hpn⟩ : ∃ pn, pn = x.1.pins := ⟨_, rfl⟩
    have hlt := HPI.out i x rfl hx
    have hlt2 := HL.out c' 0 (some i) HO.out
    have hw : IntKind.i64.wrap ((pn : Int) + 1) = ((pn + 1 : Nat) : Int) := by have := HTN.out; rw [IntKind.wrap_i64]; omega
    have k2 : w1.cell? ⟨I.fb, i * 6 + 2, none⟩ = some (.int .i64 (pn : Int)) := by rw [hpn]; exact HP.out.frs.cell hx 2 _ rfl
    have f2 : w1.frozen? ⟨I.fb, i * 6 + 2, none⟩ = false := Blk.frozen HP.out.frs _
    have HX := Lib.hid hx
    have HAT := Lib.hid hat
    have HLT := Lib.hid hlt
    have HPN := Lib.hid hpn
    clear hx hat hlt hlt2 hpn
    unfold ptrF
    dsimp only [Option.map]
    go_wp2_with fail
    go_ret
    have hend := HP.out.frame (w' := w1.setCell ⟨I.fb, i * 6 + 2, none⟩ (.int .i64 ((pn + 1 : Nat) : Int))) (y := ({ x.1 with pins := x.1.pins + 1 }, x.2)) (o' := c'.o) HX.out (isAt_yes.1 HAT.out).1 ((mod_set1 w1 I.fb (i * 6 + 2) _).mono fun _ _ e => .inr e) (HP.out.blk.mod (mod_set1 _ _ _ _) HP.out.ne.1) (HP.out.frs.set_ HX.out (by omega) (by rw [HPN.out]; rfl)) rfl (.inl ⟨rfl, rfl⟩) rfl rfl (Nat.le_refl _) (HP.out.turn i x HX.out).1 (by have := HLT.out; dsimp only; omega)
    exact ⟨0, some i, c', c'.pin i x, HO.out, rfl, ⟨_, HP.out⟩, hend.1, HM.out.trans' hend.2, .inr ⟨rfl, i, x, rfl, HX.out, HAT.out, rfl⟩⟩
  · have ha := find_none HO.out hk
    subst ha
    have e2 : (k != 0) = true := by simpa using hk
    have HK := Lib.hid hk
    clear hk
    unfold ptrF
    dsimp only [Option.map]
    go_wp2_with fail
    go_ret
    exact ⟨k, none, c', c', HO.out, rfl, ⟨_, HP.out⟩, HP.out, HM.out, .inl ⟨HK.out, rfl⟩⟩

set_option maxRecDepth 100000 in
set_option maxHeartbeats 4000000 in
theorem Unpin_pool (h : PoolAt w I Q c) (n : Int) (hn64 : I64 n) (htn : c.o.turn < 1000000000000000) :
    Calls Tryz.prog 35 #[.pointer (some ⟨I.q, 0, none⟩), .int .i64 n] w (UnpinRes w I Q c n) := by
  have c5 := h.c5
  have H := Lib.hid h
  have HMP := Lib.hid h.map
  have HTN := Lib.hid htn
  clear h htn
  cases hi : idx c.fs n with
  | none =>
    have HI := Lib.hid hi
    have HV : Hid ((holdF I.fb c.fs n).getD (.pointer none) = .pointer none) := Lib.hid (by unfold holdF; rw [hi]; rfl)
    have HS : Hid ((holdF I.fb c.fs n).isSome = false) := Lib.hid (by unfold holdF; rw [hi]; rfl)
    clear hi
    go_enter Tryz.func35, Tryz.ntmps35
    go_wp2_with (at_lookup; refine wpList_lookG (X := kI) rfl _ _ _ rfl _ Tryz.underlying111 (zeroP _) isPtr_nil I.mp I.nf rfl HMP.out n rfl hn64 _ _ HV.out HS.out ?_)
    go_ret
    exact ⟨c, H.out, Mod.refl _ _, .inl ⟨by unfold pinsOf; rw [fr_none.2 HI.out]; rfl, rfl, rfl⟩⟩
  | some i =>
    obtain ⟨x, hx, hat⟩ := idx_some hi
    have HV : Hid ((holdF I.fb c.fs n).getD (.pointer none) = .pointer (some ⟨I.fb, i * 6, none⟩)) := Lib.hid (by unfold holdF; rw [hi]; rfl)
    have HS : Hid ((holdF I.fb c.fs n).isSome = true) := Lib.hid (by unfold holdF; rw [hi]; rfl)
    obtain ⟨pn, hpn⟩ : ∃ pn, pn = x.1.pins := ⟨_, rfl⟩
    have k2 : w.cell? ⟨I.fb, i * 6 + 2, none⟩ = some (.int .i64 (pn : Int)) := by rw [hpn]; exact H.out.frs.cell hx 2 _ rfl
    have f2 : w.frozen? ⟨I.fb, i * 6 + 2, none⟩ = false := Blk.frozen H.out.frs _
    have hlt := (H.out.turn i x hx).2
    have HPO : Hid (pinsOf c.fs n = pn) := Lib.hid (by unfold pinsOf; rw [fr_of H.out.uniq hx hat, hpn]; rfl)
    have HI := Lib.hid hi
    have HX := Lib.hid hx
    have HAT := Lib.hid hat
    have HLT := Lib.hid hlt
    have HPN := Lib.hid hpn
    clear hi hx hat
    by_cases h0 : pn = 0
    · have e0 : (pn == 0) = true := by simpa using h0
      have e0' : ((pn : Int) == 0) = true := by simpa using h0
      have H0 := Lib.hid h0
      clear h0 hlt hpn
      go_enter Tryz.func35, Tryz.ntmps35
      go_wp2_with (at_lookup; refine wpList_lookG (X := kI) rfl _ _ _ rfl _ Tryz.underlying111 (zeroP _) isPtr_nil I.mp I.nf rfl HMP.out n rfl hn64 _ _ HV.out HS.out ?_)
      go_ret
      exact ⟨c, H.out, Mod.refl _ _, .inl ⟨HPO.out.trans H0.out, rfl, rfl⟩⟩
    · have e0 : (pn == 0) = false := by simpa using h0
      have e0' : ((pn : Int) == 0) = false := by simpa using h0
      have hw : IntKind.i64.wrap ((pn : Int) - 1) = ((pn - 1 : Nat) : Int) := by have := HTN.out; rw [IntKind.wrap_i64]; omega
      have H0 := Lib.hid h0
      clear h0 hlt hpn
      go_enter Tryz.func35, Tryz.ntmps35
      go_wp2_with (at_lookup; refine wpList_lookG (X := kI) rfl _ _ _ rfl _ Tryz.underlying111 (zeroP _) isPtr_nil I.mp I.nf rfl HMP.out n rfl hn64 _ _ HV.out HS.out ?_)
      go_ret
      have hend := H.out.frame (w' := w.setCell ⟨I.fb, i * 6 + 2, none⟩ (.int .i64 ((pn - 1 : Nat) : Int))) (y := ({ x.1 with pins := x.1.pins - 1 }, x.2)) (o' := c.o) HX.out (isAt_yes.1 HAT.out).1 ((mod_set1 w I.fb (i * 6 + 2) _).mono fun _ _ e => .inr e) (H.out.blk.mod (mod_set1 _ _ _ _) H.out.ne.1) (H.out.frs.set_ HX.out (by omega) (by rw [HPN.out]; rfl)) rfl (.inl ⟨rfl, rfl⟩) rfl rfl (Nat.le_refl _) (H.out.turn i x HX.out).1 (by have := HLT.out; dsimp only; omega)
      exact ⟨c.unpin i x, hend.1, hend.2, .inr ⟨i, x, HI.out, HX.out, by rw [← HPN.out]; exact H0.out, rfl, rfl⟩⟩

theorem Frames_pool (h : PoolAt w I Q c) : Calls Tryz.prog 17 #[.pointer (some ⟨I.q, 0, none⟩)] w fun e w' => e = .returned (.int .i64 ((keysOf c.fs).length : Int)) ∧ w' = w := by
  have c5 := h.c5
  have HMP := Lib.hid h.map
  have HU := Lib.hid h.uniq
  have HH := Lib.hid h.held
  clear h
  go_enter Tryz.func17, Tryz.ntmps17
  go_wp2_with (at_len; refine wpList_lenG (X := kI) rfl _ _ rfl _ Tryz.underlying111 I.mp I.nf rfl HMP.out (keysOf c.fs) (keys_nodup HU.out) HH.out _ rfl ?_)
  go_ret
  exact ⟨rfl, rfl⟩
end
end Go.Proofs.YtbagmmncjmbboaaGreat

/-
  The walk of the pool's Put.
-/
namespace Go.Proofs.YtbagmmncjmbboaaGreat
open Go.RowKit Go.Maps
set_option linter.unusedVariables false

/-- A frame that was put. -/
def frPut (x : Fr) (pg : PG) : Fr := { x with page := some pg, dirty := true, recl := if x.dirty = true then x.recl else pg.lsn }

def CP.put (c : CP) (i : Nat) (x : Fr × FrM) (pg : PG) (v : FrM) : CP := { c with fs := c.fs.set i (frPut x.1 pg, v) }

def PutRes (w : World) (I : PI) (Q : Nat → Prop) (c : CP) (n : Int) (pg : PG) (e : Ending) (w' : World) : Prop := ∃ k a c1 c', FindOut c n k a c1 ∧ e = .returned (.int .i64 k) ∧ (∃ w1, PoolAt w1 I Q c1) ∧ PoolAt w' I Q c' ∧ Mod I.Turn w w' ∧
  ((k ≠ 0 ∧ c' = c1) ∨ (k = 0 ∧ ∃ i x v, a = some i ∧ c1.fs[i]? = some x ∧ isAt n x = true ∧ c' = c1.put i x pg v))

section

variable {w w' : World} {I : PI} {Q : Nat → Prop} {c : CP}

theorem PoolAt.wrote {w5 : World} {i : Nat} {x : Fr × FrM} {pg : PG} {v : FrM} (h : PoolAt w I Q c) (hx : c.fs[i]? = some x) (hp : x.1.page.isSome = true) (hm : Mod (fun k => k = I.fb) w w5) (hf : FrAt w5 I.fb (c.fs.set i (frPut x.1 pg, v))) (hpg : PgIn w5 (I.Far Q) v pg) :
    PoolAt w5 I Q (c.put i x pg v) ∧ Mod I.Turn w w5 :=
  h.frame (y := (frPut x.1 pg, v)) (o' := c.o) hx hp (hm.mono fun _ _ e => .inr e) (h.blk.mod hm h.ne.1) hf rfl (.inr ⟨pg, rfl, hpg⟩) rfl rfl (Nat.le_refl _) (h.turn i x hx).1 (h.turn i x hx).2

set_option maxRecDepth 100000 in
set_option maxHeartbeats 4000000 in
theorem Put_pool (h : PoolAt w I Q c) (n : Int) (hn64 : I64 n) (hst : c.s.steps < 1000000000000000) (htn : c.o.turn < 1000000000000000) (y : FrM) (gm : PG) (hg : PgIn w (fun k => ¬ I.Turn k) y gm) (lsn : Int) (hlsn : lsn ≤ 9223372036854775807) :
    Calls Tryz.prog 22 #[.pointer (some ⟨I.q, 0, none⟩), .int .i64 n, .pointer (some ⟨y.p, 0, none⟩), .int .i64 lsn] w (PutRes w I Q c n { gm with lsn := max lsn 0 }) := by
  have HF := Lib.hid (find_pool h n hn64 hst htn)
  have HG := Lib.hid hg
  have HLS := Lib.hid hlsn
  clear h hst htn hg hlsn
  go_enter Tryz.func22, Tryz.ntmps22
  go_wp2_with fail
  refine HF.out.mono ?_
  rintro e w1 ⟨k, a, c', rfl, ho, hp, hm, -⟩
  have HO := Lib.hid ho
  have HP := Lib.hid hp
  have HM := Lib.hid hm
  clear ho hp hm HF
  by_cases hk : k = 0
  · subst hk
    obtain ⟨i, x, ha, hx, hat⟩ := find_some HO.out
    subst ha
    have HX := Lib.hid hx
    have HAT := Lib.hid hat
    clear hx hat
    have HG1 := Lib.hid (HG.out.mod (F' := fun k => ¬ I.Turn k) HM.out (fun _ _ hf => hf) (fun _ _ hf => hf))
    unfold ptrF
    dsimp only [Option.map]
    go_wp2_with fail
    refine (copyOf_any w1 y.p 0 y.v y.xs gm HG1.out.at_ HG1.out.fit).mono ?_
    rintro e w2 ⟨p', v', xs', rfl, h2, h3, h4⟩
    have HP2 := Lib.hid h2
    have HIT := Lib.hid h3
    have HB2 := Lib.hid h4
    clear h2 h3 h4
    have HF2 : Hid (FrAt w2 I.fb c'.fs) := Lib.hid (Blk.below HP.out.frs HB2.out (Blk.lt HP.out.frs))
    have k1 := HF2.out.cell HX.out 1 _ rfl
    have f1 : w2.frozen? ⟨I.fb, i * 6 + 1, none⟩ = false := Blk.frozen HF2.out _
    go_wp2_with fail
    obtain ⟨w3, hw3⟩ : ∃ w3, w3 = w2.setCell ⟨I.fb, i * 6 + 1, none⟩ (.pointer (some ⟨p', 0, none⟩)) := ⟨_, rfl⟩
    have hz1 := HB2.out.size
    have hfl : I.fb < w1.heap.size := Blk.lt HP.out.frs
    have hpl := HP2.out.base
    have hm3 : Mod (fun k => k = I.fb) w2 w3 := by rw [hw3]; exact mod_set1 _ _ _ _
    have HX3 : Hid (FrAt w3 I.fb (c'.fs.set i ({ x.1 with page := some { gm with lsn := max lsn 0 } }, ⟨p', v', xs'⟩))) := Lib.hid (by rw [hw3]; exact HF2.out.set_ HX.out (by omega) rfl)
    have HM3 : Hid (Mod (fun k => k = I.fb) w1 w3) := Lib.hid ((Mod.of_below HB2.out (fun k => k = I.fb)).trans' hm3)
    have HP3 : Hid (PageAt w3 p' w1.heap.size v' xs' gm) := Lib.hid (HP2.out.mod hm3 (by omega) (fun b hb e => by have := (HP2.out.row.lt b hb).1; omega) (HIT.out.off fun q hq e => by have : w1.heap.size ≤ q := e; omega))
    rw [← hw3]
    clear hw3 hm3 k1 f1
    refine (pageSetLSN_any w3 p' w1.heap.size v' xs' gm HP3.out lsn HLS.out).mono ?_
    rintro e w4 ⟨rfl, hp4, hst4⟩
    have hm4 : Mod (fun k => k = p' ∨ v'.ownBlock = some k) w3 w4 := hst4.mod
    have hnf : ¬ (I.fb = p' ∨ v'.ownBlock = some I.fb) := by
      rintro (e | e)
      · omega
      · have := (HP3.out.row.lt _ e).1; omega
    have HX4 : Hid (FrAt w4 I.fb (c'.fs.set i ({ x.1 with page := some { gm with lsn := max lsn 0 } }, ⟨p', v', xs'⟩))) := Lib.hid (Blk.mod HX3.out hm4 hnf)
    have HM4 : Hid (Mod (fun k => k = I.fb) w1 w4) := Lib.hid (HM3.out.trans (hm4.mono fun k _ e => e) fun k hk e => by
      rcases e with e | e
      · omega
      · have := (HP3.out.row.lt _ e).1; omega)
    have HP4 := Lib.hid hp4
    clear hp4 hst4 hm4 hnf
    have HX1 : Hid ((c'.fs.set i (({ x.1 with page := some { gm with lsn := max lsn 0 } }, ⟨p', v', xs'⟩) : Fr × FrM))[i]? = some ({ x.1 with page := some { gm with lsn := max lsn 0 } }, ⟨p', v', xs'⟩)) := Lib.hid (set_self HX.out)
    have HNEW : Hid (∀ w5, Mod (fun k => k = I.fb) w4 w5 → PgIn w5 (I.Far Q) ⟨p', v', xs'⟩ { gm with lsn := max lsn 0 }) := Lib.hid (by
      intro w5 hm5
      have hz4 : w1.heap.size ≤ w4.heap.size := HM4.out.size
      have hin : PgIn w4 (fun k => w1.heap.size ≤ k) ⟨p', v', xs'⟩ { gm with lsn := max lsn 0 } := by
        refine ⟨HP4.out.base' (Nat.zero_le _), HG1.out.fit, hpl, fun k hk => (HP4.out.row.lt k hk).1, fun j z l hz hl => ?_⟩
        have a1 := HIT.out j z l hz hl
        have a2 := HP4.out.itemsIn j z l hz hl
        rcases a1 with a1 | a1
        · exact .inl a1
        · rcases a2 with a2 | a2
          · exact .inl a2
          · exact .inr fun b hb e => e ⟨Classical.not_not.1 (a2 b hb), Classical.not_not.1 (a1 b hb)⟩
      exact hin.mod hm5 (fun k _ hf e => by omega) (fun k _ hf => HP.out.new_far hf))
    obtain ⟨d, hd⟩ : ∃ d, d = x.1.dirty := ⟨_, rfl⟩
    have g1 : w4.cell? ⟨I.fb, i * 6 + 1, none⟩ = some (.pointer (some ⟨p', 0, none⟩)) := HX4.out.cell HX1.out 1 _ rfl
    have g3 : w4.cell? ⟨I.fb, i * 6 + 3, none⟩ = some (.bool d) := by rw [hd]; exact HX4.out.cell HX1.out 3 _ rfl
    have HD := Lib.hid hd
    clear hd
    cases d with
    | true =>
      go_wp2_with fail
      go_ret
      have he : (({ x.1 with page := some { gm with lsn := max lsn 0 } }, ⟨p', v', xs'⟩) : Fr × FrM) = (frPut x.1 { gm with lsn := max lsn 0 }, ⟨p', v', xs'⟩) := by
        have e : x.1.dirty = true := HD.out.symm
        unfold frPut; simp [e]
      have hx4 := HX4.out
      rw [he] at hx4
      have hend := HP.out.wrote HX.out (isAt_yes.1 HAT.out).1 HM4.out hx4 (HNEW.out _ (Mod.refl _ _))
      exact ⟨0, some i, c', _, HO.out, rfl, ⟨_, HP.out⟩, hend.1, HM.out.trans' hend.2, .inr ⟨rfl, i, x, _, rfl, HX.out, HAT.out, rfl⟩⟩
    | false =>
      obtain ⟨r4, hr4⟩ : ∃ r4, w4.cell? ⟨I.fb, i * 6 + 4, none⟩ = some r4 := ⟨_, HX4.out.cell HX1.out 4 _ rfl⟩
      have f3 : w4.frozen? ⟨I.fb, i * 6 + 3, none⟩ = false := Blk.frozen HX4.out _
      have f4 : w4.frozen? ⟨I.fb, i * 6 + 4, none⟩ = false := Blk.frozen HX4.out _
      go_wp2_with (first
        | (go_at_call 37; refine (pageLSN_any w4 p' w1.heap.size v' xs' _ HP4.out).mono ?_; rintro e w5 ⟨rfl, rfl⟩))
      go_ret
      have he : ((c'.fs.set i (({ x.1 with page := some { gm with lsn := max lsn 0 } }, ⟨p', v', xs'⟩) : Fr × FrM)).set i ({ x.1 with page := some { gm with lsn := max lsn 0 }, dirty := true }, ⟨p', v', xs'⟩)).set i (({ x.1 with page := some { gm with lsn := max lsn 0 }, dirty := true, recl := max lsn 0 }, ⟨p', v', xs'⟩) : Fr × FrM) = c'.fs.set i (frPut x.1 { gm with lsn := max lsn 0 }, ⟨p', v', xs'⟩) := by
        rw [List.set_set, List.set_set]; unfold frPut; rw [← HD.out]; rfl
      have hx5 := (HX4.out.set_ (x' := ({ x.1 with page := some { gm with lsn := max lsn 0 }, dirty := true }, ⟨p', v', xs'⟩)) (u := .bool true) HX1.out (by omega : 3 < 6) rfl).set_ (x' := ({ x.1 with page := some { gm with lsn := max lsn 0 }, dirty := true, recl := max lsn 0 }, ⟨p', v', xs'⟩)) (u := .int .i64 (max lsn 0)) (set_self HX1.out) (by omega : 4 < 6) rfl
      rw [he] at hx5
      have hm5 : Mod (fun k => k = I.fb) w4 ((w4.setCell ⟨I.fb, i * 6 + 3, none⟩ (.bool true)).setCell ⟨I.fb, i * 6 + 4, none⟩ (.int .i64 (max lsn 0))) := (mod_set1 w4 I.fb (i * 6 + 3) (.bool true)).setCell (p := ⟨I.fb, i * 6 + 4, none⟩) (fun _ => rfl) _
      have hend := HP.out.wrote HX.out (isAt_yes.1 HAT.out).1 (HM4.out.trans' hm5) hx5 (HNEW.out _ hm5)
      exact ⟨0, some i, c', _, HO.out, rfl, ⟨_, HP.out⟩, hend.1, HM.out.trans' hend.2, .inr ⟨rfl, i, x, _, rfl, HX.out, HAT.out, rfl⟩⟩
  · have ha := find_none HO.out hk
    subst ha
    have e2 : (k != 0) = true := by simpa using hk
    have HK := Lib.hid hk
    clear hk
    unfold ptrF
    dsimp only [Option.map]
    go_wp2_with fail
    go_ret
    exact ⟨k, none, c', c', HO.out, rfl, ⟨_, HP.out⟩, HP.out, HM.out, .inl ⟨HK.out, rfl⟩⟩
end
end Go.Proofs.YtbagmmncjmbboaaGreat

/-
  The walk of the pool's numbers: which pages are held, rising.
-/
namespace Go.Proofs.YtbagmmncjmbboaaGreat
open Go.RowKit Go.Maps Go.Sort Go.Shelf
set_option linter.unusedVariables false

/-- The numbers of the pages that are held, rising. -/
def numsOf (fs : List (Fr × FrM)) : List Int := (keysOf fs).mergeSort leI

theorem numsOf_perm (fs : List (Fr × FrM)) : (numsOf fs).Perm (keysOf fs) := List.mergeSort_perm _ _

theorem mem_numsOf {fs : List (Fr × FrM)} {n : Int} : n ∈ numsOf fs ↔ (idx fs n).isSome = true := by rw [(numsOf_perm fs).mem_iff]; exact keys_mem

theorem numsOf_up {fs : List (Fr × FrM)} (hu : Uniq fs) : (numsOf fs).Pairwise fun a b => a < b := by
  have h1 : (numsOf fs).Pairwise fun a b => leI a b = true := List.pairwise_mergeSort (fun a b c h1 h2 => by simp only [leI, decide_eq_true_eq] at h1 h2 ⊢; omega) (fun a b => by simp only [leI, Bool.or_eq_true, decide_eq_true_eq]; omega) (keysOf fs)
  have h2 : (numsOf fs).Pairwise fun a b => a ≠ b := (numsOf_perm fs).nodup_iff.2 (keys_nodup hu)
  exact (h1.and h2).imp fun {a b} h => by
    have := h.1
    simp only [leI, decide_eq_true_eq] at this
    have := h.2
    omega

theorem numsOf_sorted (fs : List (Fr × FrM)) : (numsOf fs).mergeSort leI = numsOf fs := mergeSort_of_perm_i (numsOf_perm fs)

theorem flat_encI (l : List Int) : l.flatMap encI = l.map encZ := by
  induction l with
  | nil => rfl
  | cons x r ih => rw [List.flatMap_cons, List.map_cons, ih]; rfl

theorem sortsI (m : Nat) : AnyZI.SortsIn Tryz.prog Tryz.sortedI_ren Fence.wide m :=
  ⟨fun blk off cap ss W hH hblk hsz => callsIn_wide.2 (Tryz.slices_Sort_int blk off cap ss W hH hblk hsz),
   fun p cap W => callsIn_wide.2 (Tryz.slices_Sort_int_none p cap W)⟩

set_option maxRecDepth 100000 in
set_option maxHeartbeats 1000000 in
theorem numbers_pool {w : World} {I : PI} {Q : Nat → Prop} {c : CP} (h : PoolAt w I Q c) :
    Calls Tryz.prog 59 #[.pointer (some ⟨I.q, 0, none⟩)] w fun e w' => ∃ v, e = .returned v ∧ OK encI 1 3 w' w.heap.size v (numsOf c.fs) ∧ Below w.heap.size w w' := by
  have hfew : (numsOf c.fs).length ≤ 64 := by rw [(numsOf_perm c.fs).length_eq]; have := keys_len c.fs; have := h.num; have := h.nf; omega
  obtain ⟨D, hown, hD⟩ := h.map
  have a1 := h.c5
  have hperm : (numsOf c.fs).Perm (intKeys D) := by
    obtain ⟨es, hD1, hpw, _⟩ := hown.entries keyed3
    obtain ⟨es', hD', hko⟩ := hown.keysOf
    obtain rfl : es = es' := by rw [hD1] at hD'; simpa using hD'
    subst hD1
    refine perm_intKeys hpw (fun q hq => by obtain ⟨v, hv⟩ := hko q hq; obtain ⟨x, _, _, hx⟩ := invI hv; exact ⟨x, hx⟩) ((numsOf_perm c.fs).nodup_iff.2 (keys_nodup h.uniq)) (fun x => ?_)
    rw [mem_numsOf]
    have hh := h.held x
    rw [keys_mem] at hh
    constructor
    · intro hx
      have hi := hh.1 hx
      exact (MapG.has_eq (X := kI) hD hi.1).trans hi.2
    · intro hx
      obtain ⟨q, hq, hs⟩ := List.any_eq_true.1 hx
      obtain ⟨v, hv⟩ := hko q hq
      obtain ⟨y, hy, _, hl⟩ := invI hv
      have e := WideAt.sameKey_eq hs
      rw [hl] at e
      injection e with _ e
      subst e
      have := MapG.has_eq (X := kI) hD hy
      rw [show Maps.has (.map es) (kI.kl y) = true from hx] at this
      exact hh.2 ⟨hy, this.symm⟩
  have hsize : Maps.size D ≤ I.nf := hown.size_le
  have hnf := h.nf.2
  have hmax : Maps.size D ≤ maxLen := by unfold maxLen; omega
  have hbl := hown.lt
  have HLL := Lib.hid hfew
  have HP := Lib.hid hperm
  clear hfew hperm
  refine (callsIn_wide (n := 6)).1 ?_
  have hseq : SeqGives Fence.wide 2 Tryz.prog 116 #[.pointer (some ⟨w.heap.size, 0, none⟩)] encZ (fun ss => ss.Perm (intKeys D)) (Maps.size D) (w.alloc (.cells #[.map (some I.mp)] 111)) :=
    AnyZI.keys_gives (ρ := Tryz.keysI_ren) { Tryz.keysI with } Fence.wide _ trivial rfl (by omega) w.heap.size I.mp I.nf D _ (by simp) (by simp) (by
      obtain ⟨es, clock, hb, Ft, hs, hD⟩ := hown
      exact ⟨es, clock, (Below.heap_alloc _ _ I.mp hbl).trans hb, Ft, hs, hD⟩)
  have cK : ∀ m W, CallsIn Fence.wide 5 Tryz.prog 92 #[.map m] W fun e w' => e = .returned (.func (.func 116) #[] #[.pointer (some ⟨W.heap.size, 0, none⟩)]) ∧ w' = W.alloc (.cells #[.map m] 111) := fun m W => AnyZI.keys_in Tryz.keysI Fence.wide 5 trivial rfl m W
  have cS := AnyZI.sorted_in Tryz.sortedI Fence.wide 5 trivial trivial trivial trivial rfl (by omega) (sortsI _) (enters_of Tryz.func115 (by kernel_rfl) rfl) 116 #[.pointer (some ⟨w.heap.size, 0, none⟩)] trivial (enters_of Tryz.func116 (by kernel_rfl) rfl) _ _ hmax (by omega) _ hseq
  change CallsIn _ _ Tryz.prog 91 _ _ _ at cS
  have hfK : Fence.wide.fn 92 := trivial
  have hfS : Fence.wide.fn 91 := trivial
  clear hown hD hsize hmax h hseq hnf
  refine callsIn_of_wp Tryz.func59 rfl trivial ?_ rfl
  simp only [Tryz.ntmps59, List.size_toArray, List.length_cons, List.length_nil, Nat.reduceAdd, Nat.reduceSub, Array.replicate_succ, Array.replicate_zero, List.push_toArray, List.append_toArray, List.nil_append, List.cons_append]
  gi_wp2_with (first
    | (gi_at_call 92; refine (cK _ _).mono ?_; rintro e w' ⟨rfl, rfl⟩)
    | (gi_at_call 91; refine cS.mono ?_; rintro e w' ⟨v, ss, rfl, hS, hrow, hnil, hb⟩))
  go_ret
  have e1 : ss.mergeSort leI = (numsOf c.fs) := by rw [mergeSort_of_perm_i (hS.trans HP.out.symm), numsOf_sorted]
  have e2 : ss.length = (numsOf c.fs).length := (hS.trans HP.out.symm).length_eq
  refine ⟨v, rfl, ⟨by have := HLL.out; omega, ?_⟩, ((Below.refl _ w).alloc (Nat.le_refl _) _).trans (hb.mono (by simp))⟩
  have h3 := ownsRow_base_a (base' := w.heap.size) hrow (by simp)
  have e3 : (ss.mergeSort fun x y => decide (x ≤ y)) = (numsOf c.fs) := e1
  rw [e3, e2] at h3
  rw [flat_encI]
  exact h3

end Go.Proofs.YtbagmmncjmbboaaGreat
