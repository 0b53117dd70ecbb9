/-
  The walk of the disk's On.
-/
import Derived.Test.YtbagmmncjmbboaaGreatD7
namespace Go.Proofs.YtbagmmncjmbboaaGreat
open Go.RowKit Go.Maps
set_option linter.unusedVariables false

/-- The safe sectors when those of K that are pending are kept. -/
def DS.kept (s : DS) (K : List Int) : List (List Nat) := (List.range s.safe.length).map fun i : Nat => if K.contains (i : Int) then s.has i else s.safe.getD i []

theorem kept_len (s : DS) (K : List Int) : (s.kept K).length = s.safe.length := by unfold DS.kept; simp

theorem kept_get (s : DS) (K : List Int) (i : Nat) (hi : i < s.safe.length) : (s.kept K)[i]? = some (if K.contains (i : Int) then s.has i else s.safe.getD i []) := by
  unfold DS.kept; simp [hi]

theorem kept_ext {s : DS} {K : List Int} {L : List (List Nat)} (hl : L.length = s.safe.length) (h : ∀ i, i < s.safe.length → L[i]? = some (if K.contains (i : Int) then s.has i else s.safe.getD i [])) : s.kept K = L := by
  apply List.ext_getElem?
  intro i
  by_cases hi : i < s.safe.length
  · rw [kept_get s K i hi, h i hi]
  · rw [List.getElem?_eq_none (by rw [kept_len]; omega), List.getElem?_eq_none (by omega)]

theorem kept_nil (s : DS) : s.kept [] = s.safe := kept_ext rfl fun i hi => by simp [List.getD, hi]

theorem kept_snoc_some {s : DS} {K : List Int} {k : Nat} {l : List Nat} (hk : k < s.safe.length) (hp : s.pend (k : Int) = some l) : (s.kept K).set k l = s.kept (K ++ [(k : Int)]) := by
  refine (kept_ext (by rw [List.length_set, kept_len]) fun i hi => ?_).symm
  by_cases e : i = k
  · subst e
    rw [List.getElem?_set_self (by rw [kept_len]; exact hi)]
    simp [DS.has, hp]
  · rw [List.getElem?_set_ne (Ne.symm e), kept_get s K i hi]
    have : ¬ ((i : Int) = (k : Int)) := by omega
    simp [this]

theorem kept_snoc_none {s : DS} {K : List Int} {k : Int} (hp : s.pend k = none) : s.kept (K ++ [k]) = s.kept K := by
  refine kept_ext (kept_len _ _) fun i hi => ?_
  rw [kept_get s K i hi]
  by_cases e : (i : Int) = k
  · subst e
    have : s.has i = s.safe.getD i [] := by unfold DS.has; rw [hp]; rfl
    rw [this]; simp
  · simp [e]

theorem DS.Ok.kept {s : DS} (h : s.Ok) (K : List Int) : ∀ l ∈ s.kept K, SecOk l := by
  intro l hl
  obtain ⟨i, hi⟩ := List.getElem?_of_mem hl
  have hil := (List.getElem?_eq_some_iff.1 hi).1
  rw [kept_len] at hil
  rw [kept_get s K i hil] at hi
  injection hi with hi
  subst hi
  split
  · exact h.has hil
  · exact h.at_ hil

/-- The disk when nothing is pending any more. -/
theorem DiskAt.cleared {w w' : World} {p sb mb n : Nat} {pl : Option Nat} {s : DS} {L : List (List Nat)} (h : DiskAt w p sb mb pl s) (hl : L.length = s.safe.length) (hS : Secs w' sb L) (hM : MapI isSecV w' mb n (fun _ => none)) (hm : Mod (fun k => k = sb ∨ k = mb) w w') :
    DiskAt w' p sb mb pl { s with safe := L, pend := fun _ => none } := by
  obtain ⟨n1, n2, n3, n4⟩ := h.ne
  refine ⟨⟨by dsimp only; rw [hl]; exact h.ok.num, hS.ok, fun i l hp => by cases hp⟩, ?_, hS, ⟨n, hM⟩, ?_⟩
  · dsimp only; rw [hl]; exact h.blk.mod hm (by rintro (e | e); exact n1 e; exact n2 e)
  · rcases h.plan with hp | ⟨b, n', g, e, hne, hg, hk⟩
    · exact .inl hp
    · exact .inr ⟨b, n', g, e, hne, hg.mod hm (by rintro (e' | e'); exact (n4 b e).2.1 e'; exact hne e'), hk⟩

theorem on_eq (s : DS) (K : List Int) : s.on K = { { s with safe := s.kept K, pend := fun _ => none } with off := false } := rfl

set_option maxRecDepth 100000 in
set_option maxHeartbeats 2000000 in
theorem On_any (w : World) (p sb mb : Nat) (pl : Option Nat) (s : DS) (v : Value) (ks : List Int) (h : DiskAt w p sb mb pl s) (hv : RI w w.heap.size v ks) (hks : ∀ x ∈ ks, I64 x) (hvo : Off (fun k => k = sb) v ks) :
    Calls Tryz.prog 27 #[.pointer (some ⟨p, 0, none⟩), v] w fun e w' => e = .returned (.tuple #[]) ∧ DiskAt w' p sb mb pl (s.on ks) ∧ Mod (Own p sb mb) w w' := by
  have hlt := h.lt
  have hne := h.ne
  obtain ⟨A, c, rfl, hv1, hv2, hv3, HA⟩ := hv.open_
  have hn := h.ok.num
  have HM := Lib.hid h.pendN
  have H := Lib.hid h
  have HKS := Lib.hid hks
  clear hv h hks
  go_enter Tryz.func27, Tryz.ntmps27
  go_wp2_with fail
  go_loopw [10] (fun i wr => ∃ k : Nat, k ≤ ks.length ∧ i = .int .i64 k ∧ Hid (Secs wr sb (s.kept (ks.take k))) ∧ Hid (Mod (fun k => k = sb) w wr)) (fun i wr => ks.length - (intOf i).toNat)
  case atStart =>
    have h1 : Secs w sb (s.kept (ks.take 0)) := by rw [List.take_zero, kept_nil]; exact H.out.rows
    exact ⟨0, Nat.zero_le _, rfl, h1, Mod.refl _ _⟩
  case round =>
    obtain ⟨k, hk, rfl, HS, HW⟩ := hrel
    have p1 : wr.cell? ⟨p, 1, none⟩ = _ := (H.out.blk.mod HW.out hne.1).cell 1
    have p4 : wr.cell? ⟨p, 4, none⟩ = _ := (H.out.blk.mod HW.out hne.1).cell 4
    have hMr := H.out.pendN.mod HW.out hne.2.2.1.symm
    have HMR := Lib.hid hMr
    clear hMr
    by_cases hkl : k < ks.length
    · obtain ⟨b1, o1, rfl, hb, hx⟩ := HA.out k hkl
      have hb1 : b1 ≠ sb := by rcases hvo with e | e; rw [e] at hkl; simp at hkl; exact e b1 rfl
      have hx' := cellI hx
      have hx2 : wr.cell? ⟨b1, o1 + k, none⟩ = _ := (HW.out.cell hb hb1 _).trans hx'
      have hi64 := HKS.out ks[k] (List.getElem_mem hkl)
      have htk : ks.take (k + 1) = ks.take k ++ [ks[k]] := List.take_succ_eq_append_getElem hkl
      have HTK := Lib.hid htk
      clear hx hx' htk p4
      obtain ⟨i, hi⟩ : ∃ i, i = ks[k] := ⟨_, rfl⟩
      rw [← hi] at hx2 hi64 HTK
      clear hi
      have HI64 := Lib.hid hi64
      clear hi64
      cases hp : s.pend i with
      | none =>
        have hst := kept_snoc_none (K := ks.take k) hp
        rw [← HTK.out] at hst
        have e1 : ((s.pend i).map secV).getD secZ = secV sec0 := by rw [hp]; rfl
        have e2 : ((s.pend i).map secV).isSome = false := by rw [hp]; rfl
        have E1 := Lib.hid e1
        have E2 := Lib.hid e2
        have HST := Lib.hid hst
        clear hst e1 e2 hp
        go_wp2_with (first
          | (refine wpList_lookI_ rfl _ _ 132 rfl 129 Tryz.underlying132 (zero94 _) zero_sec mb 4096 _ rfl HMR.out i rfl HI64.out _ _ E1.out E2.out ?_)
          | (refine wpList_allocS_ rfl rfl _ rfl ?_)
          | (refine wpList_storeS_ rfl _ _ rfl wr.heap.size [sec0] 0 sec0 rfl rfl (Secs.new wr) (by simp) sec0_ok ?_; intro W1 hS1 hm1 hz1; have HM1 := Lib.hid hm1; clear hS1 hm1 hz1))
        have hwz := HW.out.size
        have hm2 : Mod (fun k => k = wr.heap.size) wr W1 := ((Mod.refl (fun k => k = wr.heap.size) wr).alloc _).trans HM1.out (fun _ _ e => e)
        have HM2 := Lib.hid hm2
        clear hm2
        go_roundw
        case rel => exact ⟨k + 1, by omega, by go_num, by rw [HST.out]; exact HS.out.mod HM2.out (by omega), HW.out.trans HM2.out (fun j hj e => by omega)⟩
        case measure => simp [intOf]; omega
      | some l =>
        obtain ⟨hi0, hi1, hl⟩ := H.out.ok.pend i l hp
        obtain ⟨q, rfl⟩ : ∃ q : Nat, i = (q : Int) := ⟨i.toNat, by omega⟩
        have hq : q < s.safe.length := by omega
        have hst := kept_snoc_some (K := ks.take k) hq hp
        rw [← HTK.out] at hst
        have e1 : ((s.pend (q : Int)).map secV).getD secZ = secV l := by rw [hp]; rfl
        have e2 : ((s.pend (q : Int)).map secV).isSome = true := by rw [hp]; rfl
        have E1 := Lib.hid e1
        have E2 := Lib.hid e2
        have HST := Lib.hid hst
        clear hst e1 e2 hp hi0 hi1
        go_wp2_with (first
          | (refine wpList_lookI_ rfl _ _ 132 rfl 129 Tryz.underlying132 (zero94 _) zero_sec mb 4096 _ rfl HMR.out (q : Int) rfl HI64.out _ _ E1.out E2.out ?_)
          | (refine wpList_allocS_ rfl rfl _ rfl ?_)
          | (refine wpList_storeS_ rfl _ _ rfl wr.heap.size [sec0] 0 l rfl rfl (Secs.new wr) (by simp) hl ?_; intro W1 hS1 hm1 hz1; have HM1 := Lib.hid hm1; have HS1 := Lib.hid hS1; clear hS1 hm1 hz1))
        have hwz := HW.out.size
        have hm2 : Mod (fun k => k = wr.heap.size) wr W1 := ((Mod.refl (fun k => k = wr.heap.size) wr).alloc _).trans HM1.out (fun _ _ e => e)
        obtain ⟨W4, hm4, hs4, hv4, hW4⟩ : ∃ W4, Mod (fun k => k = sb) w W4 ∧ Secs W4 sb (s.kept (ks.take k)) ∧ Secs W4 wr.heap.size [l] ∧ W4 = W1.drew :=
          ⟨W1.drew, (HW.out.trans hm2 (fun j hj e => by omega)).drew, ⟨(HS.out.mod hm2 (by omega)).blk, HS.out.ok⟩, ⟨HS1.out.blk, HS1.out.ok⟩, rfl⟩
        have p0 : W4.cell? ⟨p, 0, none⟩ = _ := (H.out.blk.mod hm4 hne.1).cell 0
        have HM4 := Lib.hid hm4
        have HS4 := Lib.hid hs4
        have HV4 := Lib.hid hv4
        clear hm4 hs4 hv4 hm2
        refine still_tail_at 7 W4 hW4 (by kernel_rfl) (by kernel_rfl) ?_
        clear hW4
        simp only [List.take_succ_cons, List.take_zero, List.drop_succ_cons, List.drop_zero]
        iterate 5 still_step
        refine still_loadS rfl _ rfl wr.heap.size [l] 0 l rfl HV4.out rfl ?_
        still_step
        refine wpStill_nil ?_
        go_wp2_with (first | (refine wpList_storeS_ rfl _ _ rfl sb (s.kept (ks.take k)) q l rfl rfl HS4.out (by rw [kept_len]; exact hq) hl ?_; intro W5 hS5 hm5 hz5; have HS5 := Lib.hid hS5; have HM5 := Lib.hid hm5; clear hS5 hm5 hz5))
        go_roundw
        case rel => exact ⟨k + 1, by omega, by go_num, by rw [← HST.out]; exact HS5, HM4.out.trans' HM5.out⟩
        case measure => simp [intOf]; omega
    · obtain rfl : k = ks.length := by omega
      have hS := HS.out
      rw [List.take_length] at hS
      have HS' := Lib.hid hS
      clear hS HS
      have f4 : wr.frozen? ⟨p, 4, none⟩ = false := (H.out.blk.mod HW.out hne.1).frozen 4
      have HP4 := Lib.hid p4
      have HF4 := Lib.hid f4
      clear p4 f4
      go_wp2_with (first | (refine wpList_clearI_ rfl _ 132 rfl 129 Tryz.underlying132 mb 4096 _ rfl HMR.out ?_; intro W1 hM1 ht1; have HM1 := Lib.hid hM1; have HT1 := Lib.hid ht1; have p4 : W1.cell? ⟨p, 4, none⟩ = _ := ((Mod.of_grown ht1.grown).cell (by have := HW.out.size; omega) (fun e => hne.2.1 (by injection e)) 4).trans HP4.out; have f4 : W1.frozen? ⟨p, 4, none⟩ = false := ((Mod.of_grown ht1.grown).frozen (by have := HW.out.size; omega) (fun e => hne.2.1 (by injection e)) 4).trans HF4.out; clear hM1 ht1))
      go_end0
      have hall : Mod (fun k => k = sb ∨ k = mb) w W1 := (HW.out.mono (fun k _ e => .inl e)).turned HT1.out (fun _ => .inr rfl)
      have hd : DiskAt W1 p sb mb pl { s with safe := s.kept ks, pend := fun _ => none } := H.out.cleared (n := 0) (kept_len _ _) (HS'.out.mod (Mod.of_grown HT1.out.grown) (fun e => hne.2.2.1 (by injection e))) HM1.out hall
      refine ⟨rfl, ?_, ?_⟩
      · rw [on_eq]; exact hd.power false
      · exact (hall.mono (fun k _ e => by rcases e with e | e; exact .inr (.inl e); exact .inr (.inr e))).setCell (p := ⟨p, 4, none⟩) (fun _ => .inl rfl) _

end Go.Proofs.YtbagmmncjmbboaaGreat
