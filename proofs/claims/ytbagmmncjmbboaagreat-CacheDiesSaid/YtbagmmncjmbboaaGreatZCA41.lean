/-
  skeinlaw10.asks at a document's pool without pages: Pin, Unpin, Flush, the log's flush.
-/
import Derived.BigQuiet
import Derived.Test.YtbagmmncjmbboaaGreatZCA39
import Derived.Test.YtbagmmncjmbboaaGreatYCA351
namespace Go.Proofs.YtbagmmncjmbboaaGreat
open Go.RowKit Go.Maps
set_option linter.unusedVariables false

theorem behind_drew {w W : World} {I : PI} {Q : Nat → Prop} {c c' : CP} {was : Nat → List Nat} (h : Behind w.drew W I Q c c' was) : Behind w W I Q c c' was :=
  ⟨h.at_, h.late, ⟨h.mod.os, h.mod.tape, h.mod.output, h.mod.size, h.mod.block⟩, h.steps, h.turn, h.base, h.count, h.nf, h.len, h.stepsM⟩

theorem behind_below {w W W' : World} {I : PI} {Q : Nat → Prop} {c c' : CP} {was : Nat → List Nat} (h : Behind w W I Q c c' was) (hb : Below W.heap.size W W') : Behind w W' I Q c c' was :=
  ⟨h.at_.below hb, h.late, h.mod.trans (Mod.of_below hb I.Turn) (fun _ _ e => e), h.steps, h.turn, h.base, h.count, h.nf, h.len, h.stepsM⟩

section

variable {w : World} {I : PI} {Q : Nat → Prop} {c : CP} {X : Nat} {q : Int} {was : Nat → List Nat}

set_option maxRecDepth 100000 in
theorem Flush_live2 (h : Live w I Q c X q was) (hst : c.s.steps < 900000000000000) :
    Calls Tryz.prog 25 #[.pointer (some ⟨I.q, 0, none⟩)] w fun e w' => e = .returned (.int .i64 c.flush.2) ∧ Behind w w' I Q c c.flush.1 was := by
  refine (Flush_pool h.at_ (by omega)).mono ?_
  rintro e w' ⟨rfl, hp, hm⟩
  have hst2 : c.flush.1.s.steps ≤ c.s.steps + 300000 ∧ c.flush.1.o.turn = c.o.turn ∧ c.flush.1.o.base = c.o.base ∧ c.flush.1.o.count = c.o.count ∧ c.flush.1.fs.length = c.fs.length := by
    have hl : (numsOf c.fs).length ≤ 64 := by rw [(numsOf_perm c.fs).length_eq]; have := keys_len c.fs; have := h.at_.num; have := h.at_.nf; omega
    obtain ⟨a1, a2, a3, a4, a5⟩ := cleanAll_steps (numsOf c.fs) c h.fine h.sh
    have hmul : (numsOf c.fs).length * 4098 ≤ 64 * 4098 := Nat.mul_le_mul_right _ hl
    unfold CP.flush
    split
    · exact ⟨by dsimp only; omega, rfl, rfl, rfl, rfl⟩
    · split
      · unfold CP.syncC
        split
        · exact ⟨by dsimp only; omega, a2, a3, a4, a5⟩
        · have := sync_stepsC (c.cleanAll (numsOf c.fs)).1.s
          split
          · exact ⟨by dsimp only; omega, a2, a3, a4, a5⟩
          · exact ⟨by dsimp only; omega, a2, a3, a4, a5⟩
      · exact ⟨by omega, a2, a3, a4, a5⟩
  have hst3 : c.flush.1.s.steps ≤ c.s.steps + 64 * (c.m.count + 2) + 1 := by
    have hl : (numsOf c.fs).length ≤ 64 := by rw [(numsOf_perm c.fs).length_eq]; have := keys_len c.fs; have := h.at_.num; have := h.at_.nf; omega
    have a1 := cleanAll_stepsN (numsOf c.fs) c h.fine h.sh
    have hmul : (numsOf c.fs).length * (c.m.count + 2) ≤ 64 * (c.m.count + 2) := Nat.mul_le_mul_right _ hl
    unfold CP.flush
    split
    · dsimp only; omega
    · split
      · unfold CP.syncC
        split
        · dsimp only; omega
        · have := sync_stepsC (c.cleanAll (numsOf c.fs)).1.s
          split
          · dsimp only; omega
          · dsimp only; omega
      · omega
  refine ⟨rfl, ⟨hp, h.late.flush h.fine h.sh, hm, hst2.1, by omega, hst2.2.2.1, hst2.2.2.2.1, hst2.2.2.2.2, flush_lenC c, hst3⟩⟩



set_option maxRecDepth 100000 in
set_option maxHeartbeats 4000000 in
theorem asks3 (h : Live w I Q c X q was) (n : Int) (hn64 : I64 n) (v2 v3 : Value) (hst : c.s.steps < 900000000000000) (htn : c.o.turn < 900000000000000) :
    Calls Tryz.prog 14 #[.pointer (some ⟨I.g, 0, none⟩), .pointer (some ⟨I.q, 0, none⟩), m0, .agg #[.int .i64 3, .int .i64 n, v2, v3]] w (AskE w I Q c X q was) := by
  have hrp := fun wx => refPin_empty wx n
  have hru := fun wx => refUnpin_empty wx n
  unfold m0 at hrp hru ⊢
  have HRP := Lib.hid hrp
  have HRU := Lib.hid hru
  have HAW := Lib.hid (askW_start w 3 n v2 v3)
  have HLV := Lib.hid h
  have HNN := Lib.hid hn64
  have HST := Lib.hid (And.intro hst htn)
  clear h hn64 hst htn hrp hru
  go_enter Tryz.func14, Tryz.ntmps14
  go_wp2_with fail
  obtain ⟨W1, hW1⟩ : ∃ W1, W1 = ((w.alloc (.cells #[.slice none 0 0, .slice none 0 0, .int .i64 0] 35)).alloc (.cells #[.int .i64 3, .int .i64 n, v2, v3] 43)).alloc (.cells #[.slice none 0 0, .slice none 0 0, .int .i64 0] 35) := ⟨_, rfl⟩
  rw [← hW1] at HAW ⊢
  clear hW1
  have HL1 := Lib.hid (HLV.out.guard HAW.out.bel HAW.out.size)
  have HB1 := Lib.hid HAW.out.b
  refine (Pin_live HL1.out n HNN.out HST.out.1 HST.out.2).mono ?_
  rintro e W2 ⟨k, c', rfl, hb, hor⟩
  have HBH := Lib.hid hb
  have HOR : Hid (AskR c c' X q) := Lib.hid (by
    rcases hor with ⟨-, hf, -, N, -, -, -, hlk, -, -, hlog, -, -⟩ | ⟨-, hmiss⟩
    · exact .inl ⟨hf, hlk, by rw [hlog]⟩
    · exact hmiss.askR HLV.out.fine)
  have HB2 := Lib.hid (HB1.out.turn hb.mod HLV.out.at_)
  clear hb hor
  obtain ⟨am0, am1, am2, ao0, ao1, ao2, ao3, ar0, ar1, ar2, af0, af1, af2⟩ := HB2.out.c
  go_wp2_with fail
  refine (HRP.out W2).mono ?_
  rintro e W3 ⟨rfl, hb3⟩
  have HB3 := Lib.hid (HB2.out.below hb3)
  have HBB := Lib.hid hb3
  clear hb3 am0 am1 am2 ao0 ao1 ao2 ao3 ar0 ar1 ar2 af0 af1 af2
  obtain ⟨bm0, bm1, bm2, bo0, bo1, bo2, bo3, br0, br1, br2, bf0, bf1, bf2⟩ := HB3.out.c
  have hz3 : w.heap.size + 2 < W3.heap.size := HB3.out.r.lt
  obtain ⟨bb, hbb⟩ : ∃ bb, bb = (k == 1) := ⟨_, rfl⟩
  have hbb2 : (k == 1) = bb := hbb.symm
  clear hbb
  go_wp2_with fail
  have hm3 := ((Mod.of_below HBB.out _).trans' (endMod w W3)).alloc (.cells #[.slice none 0 0, .slice none 0 0, .int .i64 0] 35)
  refine ret_pool Tryz.results14 rfl rfl (b := w.heap.size + 2) (v0 := .slice none 0 0) (v1 := .slice none 0 0) (v2 := .int .i64 0) ?_ rfl ⟨_, c', rfl, askE_of HLV.out HAW.out HBH.out HOR.out hm3, HOR.out⟩
  exact HB3.out.end_.alloc _


set_option maxRecDepth 100000 in
set_option maxHeartbeats 4000000 in
theorem asks4 (h : Live w I Q c X q was) (n : Int) (hn64 : I64 n) (v2 v3 : Value) (hst : c.s.steps < 900000000000000) (htn : c.o.turn < 900000000000000) :
    Calls Tryz.prog 14 #[.pointer (some ⟨I.g, 0, none⟩), .pointer (some ⟨I.q, 0, none⟩), m0, .agg #[.int .i64 4, .int .i64 n, v2, v3]] w (AskE w I Q c X q was) := by
  have hrp := fun wx => refPin_empty wx n
  have hru := fun wx => refUnpin_empty wx n
  unfold m0 at hrp hru ⊢
  have HRP := Lib.hid hrp
  have HRU := Lib.hid hru
  have HAW := Lib.hid (askW_start w 4 n v2 v3)
  have HLV := Lib.hid h
  have HNN := Lib.hid hn64
  have HST := Lib.hid (And.intro hst htn)
  clear h hn64 hst htn hrp hru
  go_enter Tryz.func14, Tryz.ntmps14
  go_wp2_with fail
  obtain ⟨W1, hW1⟩ : ∃ W1, W1 = ((w.alloc (.cells #[.slice none 0 0, .slice none 0 0, .int .i64 0] 35)).alloc (.cells #[.int .i64 4, .int .i64 n, v2, v3] 43)).alloc (.cells #[.slice none 0 0, .slice none 0 0, .int .i64 0] 35) := ⟨_, rfl⟩
  rw [← hW1] at HAW ⊢
  clear hW1
  have HL1 := Lib.hid (HLV.out.guard HAW.out.bel HAW.out.size)
  have HB1 := Lib.hid HAW.out.b
  refine (Unpin_live HL1.out n HNN.out HST.out.2).mono ?_
  rintro e W2 ⟨k, c', rfl, hb, hor⟩
  have HBH := Lib.hid hb
  have HOR : Hid (AskR c c' X q) := Lib.hid (by
    obtain ⟨hf, hlk, hlog, -⟩ := hor
    exact .inl ⟨hf, fun m _ => hlk m, by rw [hlog]⟩)
  have HB2 := Lib.hid (HB1.out.turn hb.mod HLV.out.at_)
  clear hb hor
  obtain ⟨am0, am1, am2, ao0, ao1, ao2, ao3, ar0, ar1, ar2, af0, af1, af2⟩ := HB2.out.c
  go_wp2_with fail
  refine (HRU.out W2).mono ?_
  rintro e W3 ⟨rfl, hb3⟩
  have HB3 := Lib.hid (HB2.out.below hb3)
  have HBB := Lib.hid hb3
  clear hb3 am0 am1 am2 ao0 ao1 ao2 ao3 ar0 ar1 ar2 af0 af1 af2
  obtain ⟨bm0, bm1, bm2, bo0, bo1, bo2, bo3, br0, br1, br2, bf0, bf1, bf2⟩ := HB3.out.c
  have hz3 : w.heap.size + 2 < W3.heap.size := HB3.out.r.lt
  obtain ⟨bb, hbb⟩ : ∃ bb, bb = (k == 101) := ⟨_, rfl⟩
  have hbb2 : (k == 101) = bb := hbb.symm
  clear hbb
  go_wp2_with fail
  have hm3 := ((Mod.of_below HBB.out _).trans' (endMod w W3)).alloc (.cells #[.slice none 0 0, .slice none 0 0, .int .i64 0] 35)
  refine ret_pool Tryz.results14 rfl rfl (b := w.heap.size + 2) (v0 := .slice none 0 0) (v1 := .slice none 0 0) (v2 := .int .i64 0) ?_ rfl ⟨_, c', rfl, askE_of HLV.out HAW.out HBH.out HOR.out hm3, HOR.out⟩
  exact HB3.out.end_.alloc _


set_option maxRecDepth 100000 in
set_option maxHeartbeats 4000000 in
theorem asks5 (h : Live w I Q c X q was) (hq : q = 0) (n : Int) (hn64 : I64 n) (v2 v3 : Value) (hst : c.s.steps < 900000000000000) (htn : c.o.turn < 900000000000000) :
    Calls Tryz.prog 14 #[.pointer (some ⟨I.g, 0, none⟩), .pointer (some ⟨I.q, 0, none⟩), m0, .agg #[.int .i64 5, .int .i64 n, v2, v3]] w (AskE w I Q c X q was) := by
  have hrp := fun wx => refPin_empty wx n
  have hru := fun wx => refUnpin_empty wx n
  unfold m0 at hrp hru ⊢
  have HRP := Lib.hid hrp
  have HRU := Lib.hid hru
  have HAW := Lib.hid (askW_start w 5 n v2 v3)
  have HLV := Lib.hid h
  have HNN := Lib.hid hn64
  subst hq
  have HST := Lib.hid (And.intro hst htn)
  clear h hn64 hst htn hrp hru
  go_enter Tryz.func14, Tryz.ntmps14
  go_wp2_with fail
  obtain ⟨W1, hW1⟩ : ∃ W1, W1 = ((w.alloc (.cells #[.slice none 0 0, .slice none 0 0, .int .i64 0] 35)).alloc (.cells #[.int .i64 5, .int .i64 n, v2, v3] 43)).alloc (.cells #[.slice none 0 0, .slice none 0 0, .int .i64 0] 35) := ⟨_, rfl⟩
  rw [← hW1] at HAW ⊢
  clear hW1
  have HL1 := Lib.hid (HLV.out.guard HAW.out.bel HAW.out.size)
  have HB1 := Lib.hid HAW.out.b
  have HBD : Hid (AskB w W1.drew 5 n v2 v3) := Lib.hid (HB1.out.below (Below.refl _ W1).drew)
  have HLD := Lib.hid (HL1.out.below (Below.refl _ W1).drew)
  obtain ⟨am0, am1, am2, ao0, ao1, ao2, ao3, ar0, ar1, ar2, af0, af1, af2⟩ := HB1.out.c
  obtain ⟨dm0, dm1, dm2, do0, do1, do2, do3, dr0, dr1, dr2, df0, df1, df2⟩ := HBD.out.c
  go_wp2_with fail
  have HFD := Lib.hid (HLV.out.fine.flush HLV.out.sh)
  have HOR : Hid (AskR c c.flush.1 X 0) := Lib.hid (by
    rcases HFD.out with ⟨-, hf, hk, -⟩ | ⟨-, h1, h2⟩
    · exact .inl ⟨hf, hk.look, by rw [hk.log.1]⟩
    · exact .inr ⟨h1, h2⟩)
  have HE0 : Hid (c.flush.2 = 0 → dirtyL c.flush.1.fs (numsOf c.flush.1.fs) = []) := Lib.hid (fun h0 => by
    rcases HFD.out with ⟨-, -, -, hd, -⟩ | ⟨h1, -⟩
    · rw [List.eq_nil_iff_forall_not_mem]
      rintro ⟨a, d⟩ hx
      have := mem_dirtyL.1 hx
      rw [hd a] at this
      cases this
    · exact absurd h0 h1)
  obtain ⟨k, hk⟩ : ∃ k, k = c.flush.2 := ⟨_, rfl⟩
  have HFL := Lib.hid (Flush_live2 HLD.out HST.out.1)
  rw [← hk] at HFL HE0
  have hk0 : k = 0 := by
    rw [hk]
    rcases HFD.out with ⟨h0, -⟩ | ⟨-, ⟨h1, -⟩, -⟩
    · exact h0
    · exact absurd rfl h1
  have gk : (k == 0) = true := by rw [hk0]; rfl
  have HEE := Lib.hid (HE0.out hk0)
  clear hk0 HE0 hk HFD
  go_region_with (first | (go_at_call 25; refine HFL.out.mono ?_; rintro e W2 ⟨rfl, hb⟩; have HBH := Lib.hid (behind_drew hb); have HB2 := (Lib.hid (HBD.out.turn hb.mod HLV.out.at_)); clear hb; obtain ⟨bm0, bm1, bm2, bo0, bo1, bo2, bo3, br0, br1, br2, bf0, bf1, bf2⟩ := HB2.out.c) | (go_at_call 26; refine (Dirty_pool HBH.out.at_).mono ?_; rintro e W3 ⟨v3, rfl, ho3, hb3⟩; rw [HEE.out] at ho3; obtain ⟨A3, c3, rfl, -, -, -, -⟩ := (ho3.rk encDr_len (Nat.le_refl _)).open_; have HBH3 := Lib.hid (behind_below HBH.out hb3); have HBH := HBH3; have HB3 := Lib.hid (HB2.out.below hb3); have HB2 := HB3; clear ho3 hb3; obtain ⟨em0, em1, em2, eo0, eo1, eo2, eo3, er0, er1, er2, ef0, ef1, ef2⟩ := HB2.out.c))
  all_goals go_wp2_with fail
  all_goals exact ret_pool Tryz.results14 rfl rfl (b := w.heap.size + 2) (v0 := .slice none 0 0) (v1 := .slice none 0 0) (v2 := .int .i64 0) HB2.out.end_ rfl ⟨_, _, rfl, askE_of HLV.out HAW.out HBH.out HOR.out (endMod w _), HOR.out⟩


set_option maxRecDepth 100000 in
set_option maxHeartbeats 4000000 in
theorem asks6 (h : Live w I Q c X q was) (hq : q = 0) (n : Int) (hn64 : I64 n) (v2 v3 : Value) (hst : c.s.steps < 900000000000000) (htn : c.o.turn < 900000000000000) :
    Calls Tryz.prog 14 #[.pointer (some ⟨I.g, 0, none⟩), .pointer (some ⟨I.q, 0, none⟩), m0, .agg #[.int .i64 6, .int .i64 n, v2, v3]] w (AskE w I Q c X q was) := by
  have hrp := fun wx => refPin_empty wx n
  have hru := fun wx => refUnpin_empty wx n
  unfold m0 at hrp hru ⊢
  have HRP := Lib.hid hrp
  have HRU := Lib.hid hru
  have HAW := Lib.hid (askW_start w 6 n v2 v3)
  have HLV := Lib.hid h
  have HNN := Lib.hid hn64
  subst hq
  have HST := Lib.hid (And.intro hst htn)
  clear h hn64 hst htn hrp hru
  go_enter Tryz.func14, Tryz.ntmps14
  go_wp2_with fail
  obtain ⟨W1, hW1⟩ : ∃ W1, W1 = ((w.alloc (.cells #[.slice none 0 0, .slice none 0 0, .int .i64 0] 35)).alloc (.cells #[.int .i64 6, .int .i64 n, v2, v3] 43)).alloc (.cells #[.slice none 0 0, .slice none 0 0, .int .i64 0] 35) := ⟨_, rfl⟩
  rw [← hW1] at HAW ⊢
  clear hW1
  have HL1 := Lib.hid (HLV.out.guard HAW.out.bel HAW.out.size)
  have HB1 := Lib.hid HAW.out.b
  have HBD : Hid (AskB w W1.drew 6 n v2 v3) := Lib.hid (HB1.out.below (Below.refl _ W1).drew)
  have HLD := Lib.hid (HL1.out.below (Below.refl _ W1).drew)
  obtain ⟨am0, am1, am2, ao0, ao1, ao2, ao3, ar0, ar1, ar2, af0, af1, af2⟩ := HB1.out.c
  obtain ⟨dm0, dm1, dm2, do0, do1, do2, do3, dr0, dr1, dr2, df0, df1, df2⟩ := HBD.out.c
  go_wp2_with fail
  go_region_with (go_at_call 58; refine (LogFlush_live HLD.out HST.out.1).mono ?_; rintro e W2 ⟨k, rfl, hb, hf, hlk⟩; have HOR : Hid (AskR c c.logFlush X 0) := (Lib.hid (.inl ⟨hf, hlk, flush_countL c.m c.s⟩)); have HBH := Lib.hid (behind_drew hb); have HB2 := (Lib.hid (HBD.out.turn hb.mod HLV.out.at_)); obtain ⟨bb, hbb⟩ : ∃ bb, (k == 0) = bb := ⟨_, rfl⟩; clear hb hf hlk; obtain ⟨bm0, bm1, bm2, bo0, bo1, bo2, bo3, br0, br1, br2, bf0, bf1, bf2⟩ := HB2.out.c)
  all_goals go_wp2_with fail
  all_goals exact ret_pool Tryz.results14 rfl rfl (b := w.heap.size + 2) (v0 := .slice none 0 0) (v1 := .slice none 0 0) (v2 := .int .i64 0) HB2.out.end_ rfl ⟨_, _, rfl, askE_of HLV.out HAW.out HBH.out HOR.out (endMod w _), HOR.out⟩

end
end Go.Proofs.YtbagmmncjmbboaaGreat
