/-
  The walks of Write's closure and of Sync's.
-/
import Derived.Test.YtbagmmncjmbboaaGreatD4
namespace Go.Proofs.YtbagmmncjmbboaaGreat
open Go.RowKit Go.Maps
set_option linter.unusedVariables false

theorem DiskAt.put {w w' : World} {p sb mb n : Nat} {pl : Option Nat} {s : DS} {i : Int} {l : List Nat} (h : DiskAt w p sb mb pl s) (hi : s.isSec i = true) (hl : SecOk l) (hM : MapI isSecV w' mb n (updI (fun k => (s.pend k).map secV) i (some (secV l)))) (hm : Mod (fun k => k = mb) w w') :
    DiskAt w' p sb mb pl (DS.put i l s) := by
  obtain ⟨n1, n2, n3, n4⟩ := h.ne
  have hb : 0 ≤ i ∧ i < s.safe.length := by simpa [DS.isSec] using hi
  refine ⟨⟨h.ok.num, h.ok.safe, fun k u hu => ?_⟩, h.blk.mod hm n2, h.rows.mod hm n3, ⟨n, hM.cast fun k => ?_⟩, ?_⟩
  · unfold DS.put at hu
    dsimp only at hu
    by_cases hk : k = i
    · rw [if_pos hk] at hu; injection hu with hu; subst hk hu; exact ⟨hb.1, hb.2, hl⟩
    · rw [if_neg hk] at hu; exact h.ok.pend k u hu
  · unfold updI DS.put
    dsimp only
    by_cases hk : k = i
    · rw [if_pos hk, if_pos hk]; rfl
    · rw [if_neg hk, if_neg hk]
  · rcases h.plan with hp | ⟨b, n, g, e, hne, hg, hk⟩
    · exact .inl hp
    · exact .inr ⟨b, n, g, e, hne, hg.mod hm hne, hk⟩

set_option maxRecDepth 100000 in
set_option maxHeartbeats 1000000 in
/-- What Write's closure does. qd, qp, qi: the blocks where data, the disk's pointer and the number lie. -/
theorem writeF_any (w : World) (p sb mb qd qp qi : Nat) (pl : Option Nat) (s : DS) (i : Int) (v : Value) (l : List Nat) (h : DiskAt w p sb mb pl s) (hd : Blk w qd 22 #[v]) (hp : Blk w qp 26 #[.pointer (some ⟨p, 0, none⟩)]) (hq : Blk w qi 3 #[.int .i64 i])
    (hv : RB w w.heap.size v l) (hl : l.length ≤ 512) (hi : s.isSec i = true) :
    Calls Tryz.prog 119 #[.pointer (some ⟨qd, 0, none⟩), .pointer (some ⟨qp, 0, none⟩), .pointer (some ⟨qi, 0, none⟩)] w fun e w' => e = .returned (.tuple #[]) ∧ DiskAt w' p sb mb pl (DS.put i (pad l) s) ∧ Mod (Own p sb mb) w w' := by
  have hov : over l sec0 = pad l := by rw [over_sec0, List.take_of_length_le hl]
  have hpo : SecOk (pad l) := .pad hl hv.1
  have hlt := h.lt
  obtain ⟨A, c, rfl, hv1, hv2, hv3, HA⟩ := hv.open_
  have HV := Lib.hid hv
  have HD := Lib.hid hd
  have HP := Lib.hid hp
  have HQ := Lib.hid hq
  have HO := Lib.hid hov
  have H := Lib.hid h
  have hb : 0 ≤ i ∧ i < s.safe.length := by simpa [DS.isSec] using hi
  have hn := h.ok.num
  have HI := Lib.hid hi
  clear hd hp hq hov h hi HA hv
  go_enter Tryz.func119, Tryz.ntmps119
  go_wp2_with (first | (refine wpList_allocS_ rfl rfl _ rfl ?_))
  obtain ⟨W, hS, hb0, hz, hW⟩ : ∃ W, Secs W w.heap.size [sec0] ∧ Mod (fun _ => False) w W ∧ W.heap.size = w.heap.size + 1 ∧ W = (w.alloc (.cells (flat [sec0]) 129)).drew :=
    ⟨(w.alloc (.cells (flat [sec0]) 129)).drew, ⟨(Secs.new w).blk, (Secs.new w).ok⟩, ((Mod.refl _ w).alloc _).drew, by simp, rfl⟩
  have HS := Lib.hid hS
  have HB0 := Lib.hid hb0
  have HZ := Lib.hid hz
  have d0 : W.cell? ⟨qd, 0, none⟩ = _ := (HD.out.mod hb0 id).cell 0
  clear hS hb0 hz
  refine still_tail_at 2 W hW (by kernel_rfl) (by kernel_rfl) ?_
  clear hW
  simp only [List.take_succ_cons, List.take_zero, List.drop_succ_cons, List.drop_zero]
  repeat still_step
  try refine wpStill_nil ?_
  go_wp2_with (first | (refine wpList_copyS_ rfl _ _ rfl w.heap.size W.heap.size [sec0] 0 sec0 l _ rfl rfl HS.out rfl ((HV.out.mod HB0.out (.inr (fun _ _ => id)))) ?_; intro W1 u1 hS1 hm1 hz1; have HS1 := Lib.hid hS1; have HM1 := Lib.hid hm1; have HZ1 := Lib.hid hz1; clear hS1 hm1 hz1))
  have hmw : Mod (fun k => k = w.heap.size) w W1 := (HB0.out.mono (fun _ _ e => e.elim)).trans HM1.out (fun k _ e => e)
  obtain ⟨W2, hm2, hS2, hW2⟩ : ∃ W2, Mod (fun k => k = w.heap.size) w W2 ∧ Secs W2 w.heap.size [pad l] ∧ W2 = W1.drew :=
    ⟨W1.drew, hmw.drew, by have := HS1.out; simp only [List.set_cons_zero] at this; rw [HO.out] at this; exact ⟨this.blk, this.ok⟩, rfl⟩
  have hne : ∀ k, k < w.heap.size → ¬ (k = w.heap.size) := fun k hk => by omega
  have q1 : W2.cell? ⟨qp, 0, none⟩ = _ := (HP.out.mod hm2 (hne _ HP.out.lt)).cell 0
  have q2 : W2.cell? ⟨qi, 0, none⟩ = _ := (HQ.out.mod hm2 (hne _ HQ.out.lt)).cell 0
  have p1 : W2.cell? ⟨p, 1, none⟩ = _ := (H.out.blk.mod hm2 (hne _ hlt.1)).cell 1
  have HS2 := Lib.hid hS2
  have hM := H.out.pendN.mod hm2 (hne _ hlt.2.2.1)
  have HM := Lib.hid hM
  have HM2 := Lib.hid hm2
  have HN := Lib.hid hne
  clear hmw hm2 hS2 hM hne d0 hlt
  refine still_tail_at 6 W2 hW2 (by kernel_rfl) (by kernel_rfl) ?_
  clear hW2
  simp only [List.take_succ_cons, List.take_zero, List.drop_succ_cons, List.drop_zero]
  iterate 5 still_step
  refine still_loadS rfl _ rfl w.heap.size [pad l] 0 (pad l) rfl HS2.out rfl ?_
  refine wpStill_nil ?_
  go_wp2_with (first | (refine wpList_storeI_ rfl _ _ _ 132 rfl 129 Tryz.underlying132 mb 4096 _ rfl HM.out (by omega) i rfl (by constructor <;> omega) (secV (pad l)) rfl (isSecV_mk hpo) ?_; intro W3 hM3 ht3; have HM3 := Lib.hid hM3; have HT3 := Lib.hid ht3; clear hM3 ht3))
  go_end0
  refine ⟨rfl, ?_, ?_⟩
  · have hD2 : DiskAt W2 p sb mb pl s := H.out.mod HM2.out (HN.out _ H.out.lt.1) (HN.out _ H.out.lt.2.1) (HN.out _ H.out.lt.2.2.1) (fun b hb => HN.out _ (H.out.lt.2.2.2 b hb))
    exact hD2.put HI.out hpo HM3.out ((Mod.refl _ _).turned HT3.out (fun _ => rfl))
  · exact (HM2.out.mono (fun k hk e => absurd e (HN.out k hk))).turned HT3.out (fun _ => .inr (.inr rfl))

/-- The safe sectors when of the pending ones just those are safe that are not left. -/
def DS.mid (s : DS) (left : Int → Bool) : List (List Nat) := (List.range s.safe.length).map fun i : Nat => if left (i : Int) then s.safe.getD i [] else s.has i

theorem mid_len (s : DS) (left : Int → Bool) : (s.mid left).length = s.safe.length := by unfold DS.mid; simp

theorem mid_get (s : DS) (left : Int → Bool) (i : Nat) (hi : i < s.safe.length) : (s.mid left)[i]? = some (if left (i : Int) then s.safe.getD i [] else s.has i) := by
  unfold DS.mid; simp [hi]

theorem mid_ext {s : DS} {left : Int → Bool} {L : List (List Nat)} (hl : L.length = s.safe.length) (h : ∀ i, i < s.safe.length → L[i]? = some (if left (i : Int) then s.safe.getD i [] else s.has i)) : s.mid left = L := by
  apply List.ext_getElem?
  intro i
  by_cases hi : i < s.safe.length
  · rw [mid_get s left i hi, h i hi]
  · rw [List.getElem?_eq_none (by rw [mid_len]; omega), List.getElem?_eq_none (by omega)]

theorem mid_start {s : DS} {left : Int → Bool} (h : ∀ i, left i = (s.pend i).isSome) : s.mid left = s.safe := by
  refine mid_ext rfl fun i hi => ?_
  have e : s.safe[i]? = some (s.safe.getD i []) := by simp [List.getD, hi]
  rw [e, h]
  unfold DS.has
  cases s.pend (i : Int) <;> simp

theorem mid_end {s : DS} {left : Int → Bool} (h : ∀ i, left i = false) : s.mid left = s.settle.safe := by
  unfold DS.mid DS.settle
  simp [h]

theorem mid_step {s : DS} {left : Int → Bool} {k : Nat} {l : List Nat} (hk : k < s.safe.length) (hp : s.pend (k : Int) = some l) : (s.mid left).set k l = s.mid (fun j => left j && !decide (j = (k : Int))) := by
  refine (mid_ext (by rw [List.length_set, mid_len]) fun i hi => ?_).symm
  by_cases e : i = k
  · subst e
    rw [List.getElem?_set_self (by rw [mid_len]; exact hi)]
    simp [DS.has, hp]
  · rw [List.getElem?_set_ne (Ne.symm e), mid_get s left i hi]
    have : ¬ ((i : Int) = (k : Int)) := by omega
    simp [this]

theorem DS.Ok.mid {s : DS} (h : s.Ok) (left : Int → Bool) : ∀ l ∈ s.mid left, SecOk l := by
  intro l hl
  obtain ⟨i, hi⟩ := List.getElem?_of_mem hl
  have hil := (List.getElem?_eq_some_iff.1 hi).1
  rw [mid_len] at hil
  rw [mid_get s left i hil] at hi
  injection hi with hi
  subst hi
  split
  · exact h.at_ hil
  · exact h.has hil

theorem DiskAt.settled {w w' : World} {p sb mb n : Nat} {pl : Option Nat} {s : DS} (h : DiskAt w p sb mb pl s) (hS : Secs w' sb s.settle.safe) (hM : MapI isSecV w' mb n (fun _ => none)) (hm : Mod (fun k => k = sb ∨ k = mb) w w') : DiskAt w' p sb mb pl s.settle := by
  obtain ⟨n1, n2, n3, n4⟩ := h.ne
  have hl : s.settle.safe.length = s.safe.length := by simp [DS.settle]
  refine ⟨⟨by rw [hl]; exact h.ok.num, hS.ok, fun i l hp => by cases hp⟩, ?_, hS, ⟨n, hM⟩, ?_⟩
  · rw [hl]; exact h.blk.mod hm (by rintro (e | e); exact n1 e; exact n2 e)
  · rcases h.plan with hp | ⟨b, n', g, e, hne, hg, hk⟩
    · exact .inl hp
    · exact .inr ⟨b, n', g, e, hne, hg.mod hm (by rintro (e' | e'); exact (n4 b e).2.1 e'; exact hne e'), hk⟩

set_option maxRecDepth 100000 in
set_option maxHeartbeats 2000000 in
/-- What Sync's closure does. qp: the block where the disk's pointer lies. -/
theorem syncF_any (w : World) (p sb mb qp : Nat) (pl : Option Nat) (s : DS) (h : DiskAt w p sb mb pl s) (hp : Blk w qp 26 #[.pointer (some ⟨p, 0, none⟩)]) (hqm : qp ≠ mb) :
    Calls Tryz.prog 101 #[.pointer (some ⟨qp, 0, none⟩)] w fun e w' => e = .returned (.tuple #[]) ∧ DiskAt w' p sb mb pl s.settle ∧ Mod (fun k => k = sb ∨ k = mb) w w' := by
  have hlt := h.lt
  have hne := h.ne
  have hql := hp.lt
  have hqs : qp ≠ sb := hp.ne_ h.rows.blk (by decide)
  have q0 := hp.cell 0
  have p1 := h.blk.cell 1
  have hn := h.ok.num
  have HM := Lib.hid h.pendN
  have HP := Lib.hid hp
  have H := Lib.hid h
  clear hp h
  go_enter Tryz.func101, Tryz.ntmps101
  go_wp2_with (first | (at_range; refine wpList_rangeI_ rfl _ 132 rfl 129 Tryz.underlying132 mb 4096 _ rfl HM.out ?_; intro W0 cnt0 hr0 hg0 hz0; have HR0 := Lib.hid hr0; have HG0 := Lib.hid hg0; have HZ0 := Lib.hid hz0; clear hr0 hg0 hz0))
  go_frame
  go_loopw [1] (fun _ wr => ∃ (left : Int → Bool) (cnt : Nat), Hid (RangeI isSecV wr mb w.heap.size 4096 (fun i => (s.pend i).map secV) left cnt) ∧ Hid (Secs wr sb (s.mid left)) ∧ Hid (Mod (fun k => k = sb) w wr)) (fun _ wr => wr.rangeLeft mb w.heap.size)
  case atStart =>
    have e : s.mid (fun i => ((s.pend i).map secV).isSome) = s.safe := mid_start fun i => by cases s.pend i <;> rfl
    have h1 : Secs W0 sb (s.mid (fun i => ((s.pend i).map secV).isSome)) := by rw [e]; exact H.out.rows.mod (Mod.of_grown HG0.out) (by simp)
    exact ⟨_, cnt0, HR0.out, h1, (Mod.of_grown HG0.out).mono (fun k _ e => by cases e)⟩
  case round =>
    obtain ⟨left, cnt, HR, HS, HW⟩ := hrel
    have q1 : wr.cell? ⟨qp, 0, none⟩ = _ := (HP.out.mod HW.out hqs).cell 0
    have p1 : wr.cell? ⟨p, 1, none⟩ = _ := (H.out.blk.mod HW.out hne.1).cell 1
    have hwz : w.heap.size ≤ wr.heap.size := HW.out.size
    go_wp2_with (first | (at_next; refine wpList_nextI_ rfl _ rfl secV (fun v hv => ⟨hv.choose, hv.choose_spec.2⟩) mb w.heap.size 4096 _ left cnt rfl HR.out ?_ ?_))
    · intro hl
      have he := mid_end (s := s) hl
      have HE := Lib.hid he
      clear hl he
      go_wp2_with (first | (refine wpList_clearI_ rfl _ 132 rfl 129 Tryz.underlying132 mb 4096 _ rfl HR.out.map ?_; intro W1 hM1 ht1; have HM1 := Lib.hid hM1; have HT1 := Lib.hid ht1; clear hM1 ht1))
      go_end0
      have hall : Mod (fun k => k = sb ∨ k = mb) w W1 := (HW.out.mono (fun k _ e => .inl e)).turned HT1.out (fun _ => .inr rfl)
      refine ⟨rfl, H.out.settled (n := 0) ?_ HM1.out hall, hall⟩
      have := HS.out
      rw [HE.out] at this
      exact this.mod (Mod.of_grown HT1.out.grown) (fun e => hne.2.2.1 (by injection e))
    · intro i c W2 cnt2 hni hr2 hlt2 hg2 hz2 hen
      have hf := hni.val
      have hpd : s.pend i = some c := by
        cases hq : s.pend i with
        | none => rw [hq] at hf; cases hf
        | some u => rw [hq] at hf; injection hf with hf; rw [secV_inj hf]
      obtain ⟨hi0, hi1, hc⟩ := H.out.ok.pend i c hpd
      obtain ⟨k, rfl⟩ : ∃ k : Nat, i = (k : Int) := ⟨i.toNat, by omega⟩
      have hk : k < s.safe.length := by omega
      have hstep := mid_step (left := left) hk hpd
      have HSTEP := Lib.hid hstep
      have HR2 := Lib.hid hr2
      have HG2 := Lib.hid hg2
      have HZ2 := Lib.hid hz2
      have HLT := Lib.hid hlt2
      clear hpd hni hf hstep hr2 hg2 hz2 hlt2 hi0 hi1 q1 p1
      go_wp2_with (first
        | (refine wpList_allocS_ rfl rfl _ rfl ?_)
        | (refine wpList_storeS_ rfl _ _ rfl W2.heap.size [sec0] 0 c rfl rfl (Secs.new W2) (by simp) hc ?_; intro W3 hS3 hm3 hz3; have HS3 := Lib.hid hS3; have HM3 := Lib.hid hm3; have HZ3 := Lib.hid hz3; clear hS3 hm3 hz3))
      have hrl : w.heap.size < wr.heap.size := HR.out.lt
      have hzz : W2.heap.size = wr.heap.size := HZ2.out
      have hm3 : Mod (fun k => k = sb) w W3 := ((HW.out.trans (Mod.of_grown HG2.out) (fun k hk e => by injection e with e; omega)).alloc _).trans HM3.out (fun k hk e => by omega)
      have hs3 : Secs W3 sb (s.mid left) := (((HS.out.mod (Mod.of_grown HG2.out) (fun e => by injection e with e; omega)).alloc _).mod HM3.out (by omega))
      have hr3 : RangeI isSecV W3 mb w.heap.size 4096 (fun i => (s.pend i).map secV) (fun j => left j && !decide (j = (k : Int))) cnt2 :=
        HR2.out.mod (((Mod.refl (fun k => k = W2.heap.size) W2).alloc _).trans HM3.out (fun k hk e => e)) (by omega) (by omega)
      obtain ⟨W4, hm4, hs4, hr4, hv4, hW4⟩ : ∃ W4, Mod (fun k => k = sb) w W4 ∧ Secs W4 sb (s.mid left) ∧ RangeI isSecV W4 mb w.heap.size 4096 (fun i => (s.pend i).map secV) (fun j => left j && !decide (j = (k : Int))) cnt2 ∧ Secs W4 W2.heap.size [c] ∧ W4 = W3.drew :=
        ⟨W3.drew, hm3.drew, ⟨hs3.blk, hs3.ok⟩, hr3.mod ((Mod.refl (fun _ => False) W3).drew) id id, ⟨HS3.out.blk, HS3.out.ok⟩, rfl⟩
      have q1 : W4.cell? ⟨qp, 0, none⟩ = _ := (HP.out.mod hm4 hqs).cell 0
      have p0 : W4.cell? ⟨p, 0, none⟩ = _ := (H.out.blk.mod hm4 hne.1).cell 0
      have HM4 := Lib.hid hm4
      have HS4 := Lib.hid hs4
      have HR4 := Lib.hid hr4
      have HV4 := Lib.hid hv4
      clear hm3 hs3 hr3 hm4 hs4 hr4 hv4 hen hzz
      refine still_tail_at 7 W4 hW4 (by kernel_rfl) (by kernel_rfl) ?_
      clear hW4
      simp only [List.take_succ_cons, List.take_zero, List.drop_succ_cons, List.drop_zero]
      iterate 5 still_step
      refine still_loadS rfl _ rfl W2.heap.size [c] 0 c rfl HV4.out rfl ?_
      still_step
      refine wpStill_nil ?_
      go_wp2_with (first | (refine wpList_storeS_ rfl _ _ rfl sb (s.mid left) k c rfl rfl HS4.out (by rw [mid_len]; exact hk) hc ?_; intro W5 hS5 hm5 hz5; have HS5 := Lib.hid hS5; have HM5 := Lib.hid hm5; clear hS5 hm5 hz5))
      go_frame
      go_roundw
      case rel => exact ⟨_, cnt2, HR4.out.mod HM5.out (fun e => hne.2.2.1 e.symm) (by omega), by rw [← HSTEP.out]; exact HS5, HM4.out.trans' HM5.out⟩
      case measure =>
        have h5 : RangeI isSecV _ mb w.heap.size 4096 _ _ cnt2 := HR4.out.mod HM5.out (fun e => hne.2.2.1 e.symm) (by omega)
        rw [h5.left_eq, HR.out.left_eq]
        exact HLT.out

end Go.Proofs.YtbagmmncjmbboaaGreat
