/-
  The walk of Link where it links.
-/
import Derived.Test.YtlakcldgolpaiaaZEC11
namespace Go.Proofs.Ytlakcldgolpaiaa
open Go.RowKit Go.Maps
set_option linter.unusedVariables false

theorem linkE_ok {F : FS} {id u v : Int} (h : F.linkE id u v = 0) : okId id ∧ okId u ∧ okId v ∧ id ∉ ids F.edges ∧ u ∈ F.vs ∧ v ∈ F.vs ∧ ¬ Conn F.edges u v := by
  unfold FS.linkE at h
  split at h
  · rename_i h1
    split at h
    · cases h
    · rename_i h2
      split at h
      · rename_i h3
        split at h
        · cases h
        · rename_i h4
          exact ⟨h1.1, h1.2.1, h1.2.2, h2, h3.1, h3.2, h4⟩
      · cases h
  · cases h

theorem wLink {w : World} {k : Nat} {S : Nat → Prop} {M : RM SV} {free : List Nat} (h : Wk w k S M free) {a b p0 p1 : Nat} {xs ys P Q Z : List Nat} {R : List (List Nat)} (L : LinkOut M xs ys R a b p0 p1 P Q Z) :
    Calls Try.prog 46 #[.pointer (some ⟨k, 0, none⟩), .int .i64 (a : Int), .int .i64 (b : Int), .agg #[.int .i64 (p0 : Int), .int .i64 (p1 : Int)]] w fun e w' => e = .returned (.tuple #[]) ∧ WTurn w k S (linkM M a b p0 p1) free w' := by
  obtain ⟨g, fv, S0, hX, hS⟩ := h
  refine (link_any w k g S0 M hX.rope fv hX.blk a b p0 p1 L).mono ?_
  rintro e w' ⟨h1, h2⟩
  exact ⟨h1, hX.turn hS h2⟩

theorem wPart {w : World} {k : Nat} {S : Nat → Prop} {M : RM SV} {free : List Nat} (h : Wk w k S M free) {p0 p1 : Nat} {xs X Y : List Nat} {R : List (List Nat)} (L : CutOutM M xs R p0 p1 X Y) :
    Calls Try.prog 47 #[.pointer (some ⟨k, 0, none⟩), .agg #[.int .i64 (p0 : Int), .int .i64 (p1 : Int)]] w fun e w' => e = .returned (.tuple #[]) ∧ WTurn w k S (cutM M p0 p1) free w' := by
  obtain ⟨g, fv, S0, hX, hS⟩ := h
  refine (part_any w k g S0 M hX.rope fv hX.blk p0 p1 L).mono ?_
  rintro e w' ⟨h1, h2⟩
  exact ⟨h1, hX.turn hS h2⟩

theorem step_off {S S' : Nat → Prop} {w w' : World} (h : Step S w S' w') {p : Nat} (hp : ¬ S p) (hl : p < w.heap.size) : ¬ S' p := fun hk => by
  rcases h.2 p hk with e | e
  · exact hp e
  · omega

/-- Two places are taken and their pair lies in q. -/
def LMid (w : World) (f g bv be : Nat) (S : Nat → Prop) (F : FS) (id : Int) (w' : World) (q : Nat) : Prop :=
  ∃ whoV S5, FMX w' f g bv be whoV S5 F.M2 F.pv F.pe (F.w2 id) F.free.dropLast.dropLast ∧ Step S w (ownF f bv be whoV S5) w' ∧ Blk w' q 79 #[.int .i64 (F.p0 : Int), .int .i64 (F.p1 : Int)] ∧ ¬ ownF f bv be whoV S5 q

section

variable {w w4 : World} {f g bv be q : Nat} {S S4 : Nat → Prop} {F : FS} {id : Int} {whoV : Value}

theorem lmid_alloc (x : FMX w4 f g bv be whoV S4 F.M2 F.pv F.pe (F.w2 id) F.free.dropLast.dropLast) (s : Step S w (ownF f bv be whoV S4) w4) : LMid w f g bv be S F id (w4.alloc (.cells #[.int .i64 (F.p0 : Int), .int .i64 (F.p1 : Int)] 79)) w4.heap.size :=
  ⟨_, _, x.below ((Below.refl _ _).alloc (Nat.le_refl _) _), s.trans (Step.below _ ((Below.refl _ _).alloc (Nat.le_refl _) _)), Blk.new _ _ _, fun hk => by have := x.lt hk; omega⟩

theorem lmid_store (x : FMX w4 f g bv be whoV S4 F.M2 F.pv F.pe (F.w2 id) F.free.dropLast.dropLast) (s : Step S w (ownF f bv be whoV S4) w4) (hb : Blk w4 q 79 #[.int .i64 0, .int .i64 0]) (hq : ¬ ownF f bv be whoV S4 q) (hw : w.heap.size ≤ q) : LMid w f g bv be S F id ((w4.setCell ⟨q, 0, none⟩ (.int .i64 (F.p0 : Int))).setCell ⟨q, 1, none⟩ (.int .i64 (F.p1 : Int))) q := by
  have m : Mod (fun k => k = q) w4 ((w4.setCell ⟨q, 0, none⟩ (.int .i64 (F.p0 : Int))).setCell ⟨q, 1, none⟩ (.int .i64 (F.p1 : Int))) := ((Mod.refl (fun k => k = q) _).setCell (p := ⟨q, 0, none⟩) (fun _ => rfl) _).setCell (p := ⟨q, 1, none⟩) (fun _ => rfl) _
  refine ⟨_, _, x.frame m (fun k hk e => hq (e ▸ hk)), ⟨s.1.trans m (fun k hk e => by omega), fun k hk => s.2 k hk⟩, ?_, hq⟩
  have := (hb.set_ 0 (.int .i64 (F.p0 : Int))).set_ 1 (.int .i64 (F.p1 : Int))
  exact this

end

set_option maxRecDepth 100000 in
set_option maxHeartbeats 4000000 in
theorem link_yes (w : World) (f : Nat) (S : Nat → Prop) (F : FS) (h : FR w f S F) (id u v : Int) (hi : I64 id) (hu : I64 u) (hv : I64 v) (hz : F.linkE id u v = 0) :
    Calls Try.prog 18 #[.pointer (some ⟨f, 0, none⟩), .int .i64 id, .int .i64 u, .int .i64 v] w fun e w' => e = .returned (.int .i64 0) ∧ FRT w f S (F.linkA id u v) w' := by
  obtain ⟨h1, h2, h3, h4, h5, h6, h7⟩ := linkE_ok hz
  have k1 := fun w => isId_any id w
  have k2 := fun w => isId_any u w
  have k3 := fun w => isId_any v w
  rw [isIdI_yes h1] at k1
  rw [isIdI_yes h2] at k2
  rw [isIdI_yes h3] at k3
  have hhas := fHasR w f S F h id hi
  rw [decide_eq_false h4] at hhas
  have hj : ∀ W, Below w.heap.size w W → _ := fun W hb => fJoinedR W f S F (h.below hb) u v hu hv
  have e1 : F.joinX u v = 0 := by unfold FS.joinX; rw [if_pos ⟨h5, h6⟩]
  have e2 : F.joinB u v = false := F.joinB_no fun h => h7 h.2.2
  rw [e1, e2] at hj
  obtain ⟨a, ea⟩ := Option.ne_none_iff_exists'.1 ((h.2.vs u).1 h5)
  obtain ⟨b, eb⟩ := Option.ne_none_iff_exists'.1 ((h.2.vs v).1 h6)
  have hA : F.linkA id u v = F.link id u v a b := by unfold FS.linkA; rw [hz, if_pos rfl, ea, eb]; rfl
  obtain ⟨hgood, xs, ys, R, P, Q, Z, L⟩ := h.2.linkOut h1 h4 ea eb h7
  rw [hA]
  obtain ⟨WW, hW⟩ := h.2.ok
  have T1 := takeP (R := WW) hW.ok hW.len hW.rows (et id) (⟨0, 0, 0⟩ : SV)
  have T2 := takeP (R := [F.p0] :: WW) T1.ok T1.len T1.rows (et id) (⟨0, 0, 0⟩ : SV)
  have hown := h.2.own
  have ht1 : ∀ W g bv be whoV S0, FMX W f g bv be whoV S0 F.M F.pv F.pe F.who F.free → Calls Try.prog 45 #[.pointer (some ⟨f, 0, none⟩), .agg #[.bool true, .int .i64 id], .agg #[.int .i64 0, .int .i64 0, .int .i64 0]] W fun e w' => e = .returned (.int .i64 (F.p0 : Nat)) ∧ FTX W f g bv be (ownF f bv be whoV S0) w' F.M1 F.pv F.pe (takeW F.who F.free (et id)) F.free.dropLast :=
    fun W g bv be whoV S0 hX => take_any W hX (fun k => Iff.rfl) hW.ok hW.rows hW.len (by omega) (et id) (⟨0, 0, 0⟩ : SV)
  have hown1 : F.M1.own.length ≤ 6200 := by
    rcases T1.own with e | ⟨-, e⟩
    · have e : F.M1.own.length = F.M.own.length := e; omega
    · have e : F.M1.own.length = F.M.own.length + 1 := e; omega
  have ht2 : ∀ W g bv be whoV S0, FMX W f g bv be whoV S0 F.M1 F.pv F.pe (takeW F.who F.free (et id)) F.free.dropLast → Calls Try.prog 45 #[.pointer (some ⟨f, 0, none⟩), .agg #[.bool true, .int .i64 id], .agg #[.int .i64 0, .int .i64 0, .int .i64 0]] W fun e w' => e = .returned (.int .i64 (F.p1 : Nat)) ∧ FTX W f g bv be (ownF f bv be whoV S0) w' F.M2 F.pv F.pe (F.w2 id) F.free.dropLast.dropLast :=
    fun W g bv be whoV S0 hX => take_any (R := [F.p0] :: WW) W hX (fun k => Iff.rfl) T1.ok T1.rows T1.len hown1 (et id) (⟨0, 0, 0⟩ : SV)
  have K1 := Lib.hid k1
  have K2 := Lib.hid k2
  have K3 := Lib.hid k3
  have KH := Lib.hid hhas
  have KJ := Lib.hid hj
  have HFR := Lib.hid h
  have HG := Lib.hid hgood
  have HL := Lib.hid L
  have HT1 := Lib.hid ht1
  have HT2 := Lib.hid ht2
  have EA := Lib.hid ea
  have EB := Lib.hid eb
  clear h k1 k2 k3 h1 h2 h3 h4 hhas e1 e2 h5 h6 h7 hj ea eb hA hgood L hW T1 T2 hown ht1 hown1 ht2 hz
  go_enter Try.func18, Try.ntmps18
  go_wp2_with fail
  refine (K1.out w).mono ?_
  rintro e w1 ⟨rfl, hw⟩
  subst w1
  go_wp2_with fail
  refine (K2.out w).mono ?_
  rintro e w1 ⟨rfl, hw⟩
  subst w1
  go_wp2_with fail
  refine (K3.out w).mono ?_
  rintro e w1 ⟨rfl, hw⟩
  subst w1
  go_wp2_with fail
  refine KH.out.mono ?_
  rintro e w1 ⟨rfl, b1⟩
  have B1 := Lib.hid b1
  clear b1
  go_wp2_with fail
  refine (KJ.out w1 B1.out).mono ?_
  rintro e w2 ⟨rfl, hw⟩
  subst w2
  obtain ⟨p, hp⟩ : ∃ p, p = w1.heap.size := ⟨_, rfl⟩
  obtain ⟨W, hW⟩ : ∃ W, W = w1.alloc (.cells #[.bool true, .int .i64 id] 85) := ⟨_, rfl⟩
  have hbW : Below w1.heap.size w1 W := by rw [hW]; exact (Below.refl _ _).alloc (Nat.le_refl _) _
  have kW : Blk W p 85 #[.bool true, .int .i64 id] := by rw [hW, hp]; exact Blk.new _ _ _
  have HP := Lib.hid hp
  have HW := Lib.hid hW
  have BW : Hid (Below w.heap.size w W) := Lib.hid (B1.out.trans (hbW.mono B1.out.size))
  have KW := Lib.hid kW
  obtain ⟨⟨g, bv, be, whoV, S0, hX, hS⟩, hG⟩ := HFR.out.below BW.out
  have HX := Lib.hid hX
  have HS := Lib.hid hS
  have HPL : Hid (¬ ownF f bv be whoV S0 p) := Lib.hid (fun hk => by
    have h1 := HFR.out.1.lt ((hS p).1 hk)
    have h2 := B1.out.size
    omega)
  clear hp hW hbW kW hX hS hG
  go_upto_region 11 with fail
  rw [← HW.out, ← HP.out]
  have q0 : W.cell? ⟨p, 0, none⟩ = some (.bool true) := KW.out.cell 0
  have q1 : W.cell? ⟨p, 1, none⟩ = some (.int .i64 id) := KW.out.cell 1
  have q0' : (W.alloc (.cells #[.int .i64 0, .int .i64 0] 79)).cell? ⟨p, 0, none⟩ = some (.bool true) := (KW.out.alloc _).cell 0
  have q1' : (W.alloc (.cells #[.int .i64 0, .int .i64 0] 79)).cell? ⟨p, 1, none⟩ = some (.int .i64 id) := (KW.out.alloc _).cell 1
  have HC1a := Lib.hid (HT1.out W.drew g bv be whoV S0 (HX.out.below ((Below.refl _ _).drew)))
  have HC1b := Lib.hid (HT1.out (W.alloc (.cells #[.int .i64 0, .int .i64 0] 79)).drew g bv be whoV S0 (HX.out.below (((Below.refl _ _).alloc (Nat.le_refl _) _).drew)))
  have STa : Hid (Step S w (ownF f bv be whoV S0) W.drew) := Lib.hid (((Step.below _ BW.out).trans (Step.below _ ((Below.refl _ _).drew))).iff HS.out)
  have STb : Hid (Step S w (ownF f bv be whoV S0) (W.alloc (.cells #[.int .i64 0, .int .i64 0] 79)).drew) := Lib.hid (((Step.below _ BW.out).trans (Step.below _ (((Below.refl _ _).alloc (Nat.le_refl _) _).drew))).iff HS.out)
  have HQL : Hid (¬ ownF f bv be whoV S0 W.heap.size) := Lib.hid (fun hk => by have := HX.out.lt hk; omega)
  have KWa := Lib.hid KW.out.drew
  have KWb := Lib.hid (KW.out.alloc (.cells #[.int .i64 0, .int .i64 0] 79)).drew
  have QB : Hid (Blk (W.alloc (.cells #[.int .i64 0, .int .i64 0] 79)).drew W.heap.size 79 #[.int .i64 0, .int .i64 0]) := Lib.hid (Blk.new W _ _)
  have HWS := Lib.hid BW.out.size
  go_cut [12] from 42 (fun x wx => ∃ q, x = .pointer (some ⟨q, 0, none⟩) ∧ Hid (LMid w f g bv be S F id wx q))
  case first =>
    go_wp2_with fail
    go_region_law (first
      | (go_simp; go_at_call 45; (with_reducible refine HC1a.out.mono ?_); rintro e w3 ⟨rfl, whoV3, S3, x3, s3⟩; have K3W := Lib.hid (KWa.out.mod s3.1 HPL.out); have ST3 := Lib.hid (STa.out.trans s3); have k0 := K3W.out.cell 0; have k1 := K3W.out.cell 1; have k0' := (K3W.out.alloc (.cells #[.int .i64 0, .int .i64 0] 79)).cell 0; have k1' := (K3W.out.alloc (.cells #[.int .i64 0, .int .i64 0] 79)).cell 1; have HC2a := Lib.hid (HT2.out w3 g bv be whoV3 S3 x3); have HC2b := Lib.hid (HT2.out (w3.alloc (.cells #[.int .i64 0, .int .i64 0] 79)) g bv be whoV3 S3 (x3.below ((Below.refl _ _).alloc (Nat.le_refl _) _))); have ST3b := Lib.hid (ST3.out.trans (Step.below _ ((Below.refl _ w3).alloc (Nat.le_refl _) (.cells #[.int .i64 0, .int .i64 0] 79)))); have HQL3 : Hid (¬ ownF f bv be whoV3 S3 w3.heap.size) := Lib.hid (fun hk => by have := x3.lt hk; omega); have HQW : Hid (w.heap.size ≤ w3.heap.size) := Lib.hid ST3.out.1.size; have QB3 : Hid (Blk (w3.alloc (.cells #[.int .i64 0, .int .i64 0] 79)) w3.heap.size 79 #[.int .i64 0, .int .i64 0]) := Lib.hid (Blk.new w3 _ _); clear x3 s3 HC1a HC1b)
      | (go_simp; go_at_call 45; (with_reducible refine HC1b.out.mono ?_); rintro e w3 ⟨rfl, whoV3, S3, x3, s3⟩; have K3W := Lib.hid (KWb.out.mod s3.1 HPL.out); have ST3 := Lib.hid (STb.out.trans s3); have k0 := K3W.out.cell 0; have k1 := K3W.out.cell 1; have HC2c := Lib.hid (HT2.out w3 g bv be whoV3 S3 x3); have QB3 := Lib.hid (QB.out.mod s3.1 HQL.out); have HQW := HWS; have HQL3 := Lib.hid (step_off s3 HQL.out QB.out.lt); clear x3 s3 HC1a HC1b)
      | (go_simp; go_at_call 45; (with_reducible refine HC2a.out.mono ?_); rintro e w4 ⟨rfl, whoV4, S4, x4, s4⟩; have HM := Lib.hid (lmid_alloc x4 (ST3.out.trans s4)); clear x4 s4)
      | (go_simp; go_at_call 45; (with_reducible refine HC2b.out.mono ?_); rintro e w4 ⟨rfl, whoV4, S4, x4, s4⟩; have QB4 := Lib.hid (QB3.out.mod s4.1 HQL3.out); have j0 := QB4.out.cell 0; have j1 := QB4.out.cell 1; have f0 := QB4.out.frozen 0; have f1 := QB4.out.frozen 1; have HM := Lib.hid (lmid_store x4 (ST3b.out.trans s4) QB4.out (step_off s4 HQL3.out QB3.out.lt) HQW.out); clear x4 s4)
      | (go_simp; go_at_call 45; (with_reducible refine HC2c.out.mono ?_); rintro e w4 ⟨rfl, whoV4, S4, x4, s4⟩; have QB4 := Lib.hid (QB3.out.mod s4.1 HQL3.out); have j0 := QB4.out.cell 0; have j1 := QB4.out.cell 1; have f0 := QB4.out.frozen 0; have f1 := QB4.out.frozen 1; have HM := Lib.hid (lmid_store x4 (ST3.out.trans s4) QB4.out (step_off s4 HQL3.out QB3.out.lt) HQW.out); clear x4 s4))
    all_goals (
      go_wp2_with fail
      go_meet
      exact ⟨_, rfl, HM⟩)
  case rest =>
  obtain ⟨q, rfl, HM⟩ := hcut
  clear q0 q1 q0' q1' HC1a HC1b STa STb HQL KWa KWb QB HPL KW HX HS
  obtain ⟨whoV5, S5, x5, s5, b5, n5⟩ := HM.out
  obtain ⟨w6, hrun, m6, k6⟩ := store_e (F := F) (F' := F.link id u v a b) (w := wc.drew) (x5.below ((Below.refl _ _).drew)).at_.edges hi HG.out (x := (F.p0, F.p1)) rfl
  have x6 := (x5.below ((Below.refl _ _).drew)).setE k6 m6
  have f2 : wc.cell? ⟨f, 2, none⟩ = some (.map (some be)) := x5.at_.blk.cell 2
  have c0 : wc.cell? ⟨q, 0, none⟩ = some (.int .i64 (F.p0 : Int)) := b5.cell 0
  have c1 : wc.cell? ⟨q, 1, none⟩ = some (.int .i64 (F.p1 : Int)) := b5.cell 1
  have X6 := Lib.hid x6.1
  have ST6 := Lib.hid (s5.trans ((Step.below _ ((Below.refl _ _).drew)).trans (Step.same x6.2)))
  have QB6 := Lib.hid (b5.drew.mod x6.2 n5)
  have NQ6 := Lib.hid n5
  clear x5 s5 b5 n5 m6 k6 x6 HM
  go_wp2_with fail
  go_region
  clear f2 c0 c1 hrun
  go_wp2_with fail
  obtain ⟨W7, hW7⟩ : ∃ W7, W7 = w6.drew := ⟨_, rfl⟩
  have hb7 : Below w6.heap.size w6 W7 := by rw [hW7]; exact (Below.refl _ _).drew
  have x7 := X6.out.below hb7
  have f1 : W7.cell? ⟨f, 1, none⟩ = some (.map (some bv)) := x7.at_.blk.cell 1
  have b7 := QB6.out.below hb7 QB6.out.lt
  have c0 : W7.cell? ⟨q, 0, none⟩ = some (.int .i64 (F.p0 : Int)) := b7.cell 0
  have c1 : W7.cell? ⟨q, 1, none⟩ = some (.int .i64 (F.p1 : Int)) := b7.cell 1
  have hu1 : (Instr.lookup 69 (.map (some bv)) (.int .i64 u) false).run Try.prog W7 = .ok (.int .i64 (a : Int)) W7 := by
    have := MapG.look (X := kI) x7.at_.verts Try.underlying69 (zeroI _) pN_zero (a := u) hu
    rw [EA.out] at this
    exact this
  have hv1 : (Instr.lookup 69 (.map (some bv)) (.int .i64 v) false).run Try.prog W7 = .ok (.int .i64 (b : Int)) W7 := by
    have := MapG.look (X := kI) x7.at_.verts Try.underlying69 (zeroI _) pN_zero (a := v) hv
    rw [EB.out] at this
    exact this
  have hlink := wLink x7.at_.rope HL.out
  have f0 : W7.cell? ⟨f, 0, none⟩ = some (.pointer (some ⟨g, 0, none⟩)) := x7.at_.blk.cell 0
  have HLK := Lib.hid hlink
  have X7 := Lib.hid x7
  have ST7 := Lib.hid (ST6.out.trans (Step.below _ hb7))
  clear x7 b7 hlink
  refine still_tail_at 17 W7 hW7 (by kernel_rfl) (by kernel_rfl) ?_
  clear hW7 hb7
  simp only [List.take_succ_cons, List.take_zero, List.drop_succ_cons, List.drop_zero]
  iterate 17 still_step
  try refine wpStill_nil ?_
  go_wp2_with fail
  refine HLK.out.mono ?_
  rintro e w8 ⟨rfl, t8⟩
  obtain ⟨S8, x8, s8⟩ := X7.out.ropeS t8
  have HT : Hid (FTX w f g bv be S w8 (linkM F.M2 a b F.p0 F.p1) F.pv (F.link id u v a b).pe (F.w2 id) F.free.dropLast.dropLast) := Lib.hid (x8.ftx (ST7.out.trans s8))
  clear t8 x8 s8 f0 f1 c0 c1 hu1 hv1
  go_wp2_with fail
  go_ret
  exact ⟨rfl, FTurn.frt (F := F.link id u v a b) HT.out.fturn HG.out⟩

/-- Link, whatever comes in. -/
theorem fLink (w : World) (f : Nat) (S : Nat → Prop) (F : FS) (h : FR w f S F) (id u v : Int) (hi : I64 id) (hu : I64 u) (hv : I64 v) :
    Calls Try.prog 18 #[.pointer (some ⟨f, 0, none⟩), .int .i64 id, .int .i64 u, .int .i64 v] w fun e w' => e = .returned (.int .i64 (F.linkE id u v)) ∧ FRT w f S (F.linkA id u v) w' := by
  by_cases hz : F.linkE id u v = 0
  · rw [hz]; exact link_yes w f S F h id u v hi hu hv hz
  · refine (link_no w f S F h id u v hi hu hv hz).mono ?_
    rintro e w' ⟨rfl, hb⟩
    rw [F.linkA_no rfl hz]
    exact ⟨rfl, FRT.same h hb⟩

end Go.Proofs.Ytlakcldgolpaiaa

/-
  The walk of Cut.
-/
namespace Go.Proofs.Ytlakcldgolpaiaa
open Go.RowKit Go.Maps
set_option linter.unusedVariables false

open Classical in
noncomputable def FS.cutE (F : FS) (id : Int) : Int := if okId id then (if id ∈ ids F.edges then 0 else 152) else 1

open Classical in
noncomputable def FS.cutA (F : FS) (id : Int) : FS := if F.cutE id = 0 then F.cut id ((F.pe id).getD (0, 0)).1 ((F.pe id).getD (0, 0)).2 else F

theorem FS.Good.free_few {F : FS} (hG : F.Good) : F.free.length ≤ 6200 := by
  obtain ⟨WW, hW⟩ := hG.ok
  have h1 := own_count hW.ok hW.rows
  rw [List.flatten_append, List.length_append] at h1
  have h2 := lone_flat F.free
  have := hG.own
  omega

set_option maxRecDepth 100000 in
set_option maxHeartbeats 4000000 in
theorem fCut (w : World) (f : Nat) (S : Nat → Prop) (F : FS) (h : FR w f S F) (id : Int) (hi : I64 id) :
    Calls Try.prog 23 #[.pointer (some ⟨f, 0, none⟩), .int .i64 id] w fun e w' => e = .returned (.int .i64 (F.cutE id)) ∧ FRT w f S (F.cutA id) w' := by
  have k1 := fun w => isId_any id w
  by_cases h1 : okId id
  · rw [isIdI_yes h1] at k1
    have K1 := Lib.hid k1
    have HFR := Lib.hid h
    obtain ⟨⟨g, bv, be, whoV, S0, hX, hS⟩, hG⟩ := h
    have a2 : w.cell? ⟨f, 2, none⟩ = some (.map (some be)) := hX.at_.blk.cell 2
    have HM := Lib.hid hX.at_.edges
    rcases hG.lookE id with ⟨a, b, e1, e2, ha, hb⟩ | ⟨e1, e2⟩
    · have HV : Hid (((F.pe id).map fun x => Value.agg #[.int .i64 (x.1 : Int), .int .i64 (x.2 : Int)]).getD (.agg #[.int .i64 0, .int .i64 0]) = .agg #[.int .i64 (a : Int), .int .i64 (b : Int)] ∧ ((F.pe id).map fun x => Value.agg #[.int .i64 (x.1 : Int), .int .i64 (x.2 : Int)]).isSome = true) := Lib.hid (by rw [e1]; exact ⟨rfl, rfl⟩)
      have he : F.cutE id = 0 := by unfold FS.cutE; rw [if_pos h1, if_pos e2]
      have hc : F.cutA id = F.cut id a b := by unfold FS.cutA; rw [he, if_pos rfl, e1]; rfl
      rw [he, hc]
      obtain ⟨hgood, hk0, hk1, xs, R, X, Y, C⟩ := hG.cutOut e1
      have hlen := hG.len
      have hff := hG.free_few
      obtain ⟨p, hp⟩ : ∃ p, p = w.heap.size := ⟨_, rfl⟩
      obtain ⟨W, hW⟩ : ∃ W, W = w.alloc (.cells #[.int .i64 (a : Int), .int .i64 (b : Int)] 79) := ⟨_, rfl⟩
      have hbW : Below w.heap.size w W := by rw [hW]; exact (Below.refl _ _).alloc (Nat.le_refl _) _
      have kW : Blk W p 79 #[.int .i64 (a : Int), .int .i64 (b : Int)] := by rw [hW, hp]; exact Blk.new _ _ _
      have x1 := hX.below hbW
      have xd := x1.below ((Below.refl _ _).drew)
      have hcut := wPart xd.at_.rope C
      have hnp : ¬ S0 p := fun hk => by have := hX.at_.rope.lt hk; omega
      have HP := Lib.hid hp
      have HW := Lib.hid hW
      have HX := Lib.hid xd
      have HBX := Lib.hid x1.at_.blk
      have KW := Lib.hid kW
      have HCUT := Lib.hid hcut
      have ST := Lib.hid (((Step.below _ hbW).trans (Step.below _ ((Below.refl _ _).drew))).iff hS)
      have HG := Lib.hid hgood
      have HNP := Lib.hid hnp
      have HA : Hid (a < F.who.length ∧ b < F.who.length) := Lib.hid ⟨by omega, by omega⟩
      have HFF := Lib.hid hff
      clear hX hS hG e1 e2 he hc hgood hk0 hk1 C hlen hff hp hW hbW kW x1 xd hcut hnp ha hb h1
      have HI0 := run_idx0
      have HI1 := run_idx1
      go_enter Try.func23, Try.ntmps23
      go_wp2_with fail
      refine (K1.out w).mono ?_
      rintro e w1 ⟨rfl, hw⟩
      subst w1
      go_upto_region 4 with (at_lookup; refine wpList_lookG (X := kI) rfl _ _ _ rfl _ Try.underlying70 (zeroP _) pP_zero be 4096 rfl HM.out id rfl hi _ _ HV.out.1 HV.out.2 ?_)
      rw [← HW.out, ← HP.out]
      clear a2
      have c0 : W.cell? ⟨p, 0, none⟩ = some (.int .i64 (a : Int)) := KW.out.cell 0
      have c1 : W.cell? ⟨p, 1, none⟩ = some (.int .i64 (b : Int)) := KW.out.cell 1
      have f0 : W.cell? ⟨f, 0, none⟩ = some (.pointer (some ⟨g, 0, none⟩)) := HBX.out.cell 0
      have HD2 : Hid (W.drew.cell? ⟨f, 0, none⟩ = some (.pointer (some ⟨g, 0, none⟩)) ∧ W.drew.cell? ⟨p, 0, none⟩ = some (.int .i64 (a : Int)) ∧ W.drew.cell? ⟨p, 1, none⟩ = some (.int .i64 (b : Int))) := Lib.hid ⟨f0, c0, c1⟩
      go_wp2_with fail
      go_region_held3 (fun w' => w'.cell? ⟨f, 0, none⟩ = some (.pointer (some ⟨g, 0, none⟩)) ∧ w'.cell? ⟨p, 0, none⟩ = some (.int .i64 (a : Int)) ∧ w'.cell? ⟨p, 1, none⟩ = some (.int .i64 (b : Int))) (first | with_reducible exact HD2.out | with_reducible exact HC2.out | fail)
        ((go_at_call 47; refine HCUT.out.mono ?_; rintro e w2 ⟨rfl, t2⟩; obtain ⟨S2, x2, s2⟩ := HX.out.ropeS t2; have X2 := Lib.hid x2; have ST2 := Lib.hid (ST.out.trans s2); have HC2 : Hid (w2.cell? ⟨f, 0, none⟩ = some (.pointer (some ⟨g, 0, none⟩)) ∧ w2.cell? ⟨p, 0, none⟩ = some (.int .i64 (a : Int)) ∧ w2.cell? ⟨p, 1, none⟩ = some (.int .i64 (b : Int))) := (by obtain ⟨S3, r3, m3, n3⟩ := t2; exact Lib.hid ⟨x2.at_.blk.cell 0, ((KW.out.drew).mod m3 HNP.out).cell 0, ((KW.out.drew).mod m3 HNP.out).cell 1⟩); clear t2 x2 s2))
      clear c0 c1 f0
      obtain ⟨f0, d0, d1⟩ := HC2.out
      go_wp2_with fail
      clear f0 d0 d1
      go_loopw [30] (fun i wr => ∃ (whoV : Value) (S3 : Nat → Prop) (who : List Tok) (free : List Nat), ((i = .int .i64 0 ∧ who = F.who ∧ free = F.free) ∨ (i = .int .i64 1 ∧ who = F.who.set a (false, 0) ∧ free = F.free ++ [a]) ∨ (i = .int .i64 2 ∧ who = (F.who.set a (false, 0)).set b (false, 0) ∧ free = F.free ++ [a] ++ [b])) ∧ Hid (FMX wr f g bv be whoV S3 (cutM F.M a b) F.pv F.pe who free) ∧ Hid (Step S w (ownF f bv be whoV S3) wr)) (fun i _ => 2 - (intOf i).toNat)
      case atStart => exact ⟨_, S2, _, _, .inl ⟨rfl, rfl, rfl⟩, X2, ST2⟩
      case round =>
        obtain ⟨whoV3, S3, who3, free3, hor, X3, ST3⟩ := hrel
        rcases hor with ⟨rfl, hwho, hfree⟩ | ⟨rfl, hwho, hfree⟩ | ⟨rfl, hwho, hfree⟩
        · subst hwho hfree
          have hg := give_any wr X3.out (fun k => Iff.rfl) a HA.out.1 (by have := HFF.out; omega)
          have HGV := Lib.hid hg
          clear hg
          go_wp2_with fail
          refine HGV.out.mono ?_
          rintro e w4 ⟨rfl, whoV4, S4, x4, s4⟩
          have X4 := Lib.hid x4
          have ST4 := Lib.hid (ST3.out.trans s4)
          clear x4 s4
          go_wp2_with fail
          go_roundw
          case rel => exact ⟨_, S4, _, _, .inr (.inl ⟨rfl, rfl, rfl⟩), X4, ST4⟩
          case measure => simp [intOf]
        · subst hwho hfree
          have hg := give_any wr X3.out (fun k => Iff.rfl) b (by simpa using HA.out.2) (by have := HFF.out; simp; omega)
          have HGV := Lib.hid hg
          clear hg
          go_wp2_with fail
          refine HGV.out.mono ?_
          rintro e w4 ⟨rfl, whoV4, S4, x4, s4⟩
          have X4 := Lib.hid x4
          have ST4 := Lib.hid (ST3.out.trans s4)
          clear x4 s4
          go_wp2_with fail
          go_roundw
          case rel => exact ⟨_, S4, _, _, .inr (.inr ⟨rfl, rfl, rfl⟩), X4, ST4⟩
          case measure => simp [intOf]
        · subst hwho hfree
          have a2 : wr.cell? ⟨f, 2, none⟩ = some (.map (some be)) := X3.out.at_.blk.cell 2
          obtain ⟨w5, hrun, m5, k5⟩ := drop_e (F := F) (F' := F.cut id a b) X3.out.at_.edges hi HG.out rfl 0
          have M5 := Lib.hid m5
          have K5 := Lib.hid k5
          clear m5 k5
          go_wp2_with fail
          go_ret
          have x5 := X3.out.setE K5.out M5.out
          exact ⟨rfl, FTurn.frt (F := F.cut id a b) (x5.1.fturn (ST3.out.trans (Step.same x5.2))) HG.out⟩
    · have HV : Hid (((F.pe id).map fun x => Value.agg #[.int .i64 (x.1 : Int), .int .i64 (x.2 : Int)]).getD (.agg #[.int .i64 0, .int .i64 0]) = .agg #[.int .i64 0, .int .i64 0] ∧ ((F.pe id).map fun x => Value.agg #[.int .i64 (x.1 : Int), .int .i64 (x.2 : Int)]).isSome = false) := Lib.hid (by rw [e1]; exact ⟨rfl, rfl⟩)
      have he : F.cutE id = 152 := by unfold FS.cutE; rw [if_pos h1, if_neg e2]
      have hc : F.cutA id = F := by unfold FS.cutA; rw [he, if_neg (by decide)]
      rw [he, hc]
      clear hX hS hG e1 e2 he hc h1
      go_enter Try.func23, Try.ntmps23
      go_wp2_with fail
      refine (K1.out w).mono ?_
      rintro e w1 ⟨rfl, hw⟩
      subst w1
      go_wp2_with (at_lookup; refine wpList_lookG (X := kI) rfl _ _ _ rfl _ Try.underlying70 (zeroP _) pP_zero be 4096 rfl HM.out id rfl hi _ _ HV.out.1 HV.out.2 ?_)
      go_ret
      exact ⟨rfl, FRT.same HFR.out ((Below.refl _ _).alloc (Nat.le_refl _) _)⟩
  · rw [isIdI_no h1] at k1
    have K1 := Lib.hid k1
    have HFR := Lib.hid h
    have he : F.cutE id = 1 := by unfold FS.cutE; rw [if_neg h1]
    have hc : F.cutA id = F := by unfold FS.cutA; rw [he, if_neg (by decide)]
    rw [he, hc]
    clear h k1 he hc h1
    go_enter Try.func23, Try.ntmps23
    go_wp2_with fail
    refine (K1.out w).mono ?_
    rintro e w1 ⟨rfl, hw⟩
    subst w1
    go_wp2_with fail
    go_ret
    exact ⟨rfl, FRT.same HFR.out (Below.refl _ _)⟩

end Go.Proofs.Ytlakcldgolpaiaa
