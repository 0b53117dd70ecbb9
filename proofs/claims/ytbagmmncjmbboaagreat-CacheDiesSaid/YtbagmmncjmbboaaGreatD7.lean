/-
  The walks of the disk's Write and Sync.
-/
import Derived.Test.YtbagmmncjmbboaaGreatD6
namespace Go.Proofs.YtbagmmncjmbboaaGreat
open Go.RowKit Go.Maps
set_option linter.unusedVariables false

/-- Three boxes laid, one behind the other. -/
theorem boxes3 (w : World) (a b c : Array Value) (ta tb tc : TypeId) : let W := ((w.alloc (.cells a ta)).alloc (.cells b tb)).alloc (.cells c tc)
    Blk W w.heap.size ta a ∧ Blk W (w.heap.size + 1) tb b ∧ Blk W (w.heap.size + 2) tc c ∧ Below w.heap.size w W := by
  refine ⟨((Blk.new w ta a).alloc _).alloc _, ?_, ?_, (((Below.refl _ _).alloc (Nat.le_refl _) _).alloc (by simp) _).alloc (by simp; omega) _⟩
  · have := (Blk.new (w.alloc (.cells a ta)) tb b).alloc (.cells c tc)
    rw [size_alloc_] at this
    exact this
  · have := Blk.new ((w.alloc (.cells a ta)).alloc (.cells b tb)) tc c
    rw [size_alloc2_] at this
    exact this

set_option maxRecDepth 100000 in
set_option maxHeartbeats 1000000 in
theorem Write_any (w : World) (p sb mb : Nat) (pl : Option Nat) (s : DS) (i : Int) (v : Value) (l : List Nat) (h : DiskAt w p sb mb pl s) (hst : s.steps < 4611686018427387904) (hv : RB w w.heap.size v l) (hvo : Off (fun k => k = p) v l) :
    Calls Tryz.prog 99 #[.pointer (some ⟨p, 0, none⟩), .int .i64 i, v] w fun e w' => e = .returned (.int .i64 (s.writeE i l)) ∧ DiskAt w' p sb mb pl (s.write i l) ∧ Mod (Own p sb mb) w w' := by
  have hlt := h.lt
  obtain ⟨A, c, rfl, hv1, hv2, hv3, HA⟩ := hv.open_
  clear HA
  have hb3 := boxes3 w #[.pointer (some ⟨p, 0, none⟩)] #[.int .i64 i] #[.slice A l.length c] 26 3 22
  obtain ⟨hqp, hqi, hqd, hbw⟩ := hb3
  have hD := h.below hbw
  have HD := Lib.hid hD
  have HQP := Lib.hid hqp
  have HQI := Lib.hid hqi
  have HQD := Lib.hid hqd
  have HBW := Lib.hid hbw
  have HV : Hid (RB (((w.alloc (.cells #[.pointer (some ⟨p, 0, none⟩)] 26)).alloc (.cells #[.int .i64 i] 3)).alloc (.cells #[.slice A l.length c] 22)) (((w.alloc (.cells #[.pointer (some ⟨p, 0, none⟩)] 26)).alloc (.cells #[.int .i64 i] 3)).alloc (.cells #[.slice A l.length c] 22)).heap.size (.slice A l.length c) l) := (hv.below hbw).more hbw.size
  have HVO := Lib.hid hvo
  have a4 := hD.blk.cell 4
  have H := Lib.hid h
  clear hqp hqi hqd hbw hD hv hvo h
  cases hoff : s.off with
  | true =>
    have e1 : s.write i l = s := by unfold DS.write; rw [if_pos hoff]
    have e2 : s.writeE i l = 70 := by unfold DS.writeE; rw [if_pos hoff]
    have E1 := Lib.hid e1
    have E2 := Lib.hid e2
    rw [hoff] at a4
    clear e1 e2 hoff
    go_enter Tryz.func99, Tryz.ntmps99
    go_wp2_with fail
    go_ret
    exact ⟨by rw [E2.out]; rfl, by rw [E1.out]; exact HD.out, Mod.of_below HBW.out _⟩
  | false =>
    rw [hoff] at a4
    cases hi : s.isSec i with
    | false =>
      have e1 : s.write i l = s := by unfold DS.write; rw [hoff, hi]; rfl
      have e2 : s.writeE i l = 1 := by unfold DS.writeE; rw [hoff, hi]; rfl
      have E1 := Lib.hid e1
      have E2 := Lib.hid e2
      have HI := Lib.hid hi
      clear e1 e2 hoff hi
      go_enter Tryz.func99, Tryz.ntmps99
      go_wp2_with (first | (go_at_call 71; refine (isSector_any _ p sb mb pl s HD.out i).mono ?_; rw [HI.out]; rintro e w' ⟨rfl, rfl⟩))
      go_ret
      exact ⟨by rw [E2.out]; rfl, by rw [E1.out]; exact HD.out, Mod.of_below HBW.out _⟩
    | true =>
      by_cases hl : 512 < l.length
      · have e1 : s.write i l = s := by unfold DS.write; rw [hoff, hi, if_pos hl]; rfl
        have e2 : s.writeE i l = 1 := by unfold DS.writeE; rw [hoff, hi, if_pos hl]; rfl
        have E1 := Lib.hid e1
        have E2 := Lib.hid e2
        have HI := Lib.hid hi
        clear e1 e2 hoff hi
        go_enter Tryz.func99, Tryz.ntmps99
        go_wp2_with (first | (go_at_call 71; refine (isSector_any _ p sb mb pl s HD.out i).mono ?_; rw [HI.out]; rintro e w' ⟨rfl, rfl⟩))
        go_ret
        exact ⟨by rw [E2.out]; rfl, by rw [E1.out]; exact HD.out, Mod.of_below HBW.out _⟩
      · have e1 : s.write i l = s.step (DS.put i (pad l)) := by unfold DS.write; rw [hoff, hi, if_neg hl]; rfl
        have e2 : s.writeE i l = s.code := by unfold DS.writeE; rw [hoff, hi, if_neg hl]; rfl
        have E1 := Lib.hid e1
        have E2 := Lib.hid e2
        have HI := Lib.hid hi
        clear e1 e2 hoff hi
        go_enter Tryz.func99, Tryz.ntmps99
        go_wp2_with (first
          | (go_at_call 71; refine (isSector_any _ p sb mb pl s HD.out i).mono ?_; rw [HI.out]; rintro e w' ⟨rfl, rfl⟩)
          | (go_at_call 100; refine (step_write _ p sb mb pl s (w.heap.size + 2) w.heap.size (w.heap.size + 1) i (.slice A l.length c) l HD.out hst HQD.out HQP.out HQI.out HV.out HVO.out (by omega) HI.out).mono ?_; rintro e w' ⟨rfl, hd1, hm1⟩; have HD1 := Lib.hid hd1; have HM1 := Lib.hid hm1; clear hd1 hm1))
        go_ret
        refine ⟨by rw [E2.out]; rfl, by rw [E1.out]; exact HD1.out, (Mod.of_below HBW.out (Own p sb mb)).trans' HM1.out⟩

set_option maxRecDepth 100000 in
set_option maxHeartbeats 1000000 in
theorem Sync_any (w : World) (p sb mb : Nat) (pl : Option Nat) (s : DS) (h : DiskAt w p sb mb pl s) (hst : s.steps < 4611686018427387904) :
    Calls Tryz.prog 70 #[.pointer (some ⟨p, 0, none⟩)] w fun e w' => e = .returned (.int .i64 s.syncE) ∧ DiskAt w' p sb mb pl s.sync ∧ Mod (Own p sb mb) w w' := by
  have hlt := h.lt
  have hqp : Blk (w.alloc (.cells #[.pointer (some ⟨p, 0, none⟩)] 26)) w.heap.size 26 #[.pointer (some ⟨p, 0, none⟩)] := Blk.new _ _ _
  have hbw : Below w.heap.size w (w.alloc (.cells #[.pointer (some ⟨p, 0, none⟩)] 26)) := (Below.refl _ _).alloc (Nat.le_refl _) _
  have hD := h.below hbw
  have HD := Lib.hid hD
  have HQP := Lib.hid hqp
  have HBW := Lib.hid hbw
  have a4 := h.blk.cell 4
  clear hqp hbw hD h
  cases hoff : s.off with
  | true =>
    have e1 : s.sync = s := by unfold DS.sync; rw [if_pos hoff]
    have e2 : s.syncE = 70 := by unfold DS.syncE; rw [if_pos hoff]
    have E1 := Lib.hid e1
    have E2 := Lib.hid e2
    rw [hoff] at a4
    clear e1 e2 hoff
    go_enter Tryz.func70, Tryz.ntmps70
    go_wp2_with fail
    go_ret
    exact ⟨by rw [E2.out]; rfl, by rw [E1.out]; exact HD.out, Mod.of_below HBW.out _⟩
  | false =>
    have e1 : s.sync = s.step DS.settle := by unfold DS.sync; rw [hoff]; rfl
    have e2 : s.syncE = s.code := by unfold DS.syncE; rw [hoff]; rfl
    have E1 := Lib.hid e1
    have E2 := Lib.hid e2
    rw [hoff] at a4
    clear e1 e2 hoff
    go_enter Tryz.func70, Tryz.ntmps70
    go_wp2_with (first | (go_at_call 100; refine (step_sync _ p sb mb pl s w.heap.size HD.out hst HQP.out).mono ?_; rintro e w' ⟨rfl, hd1, hm1⟩; have HD1 := Lib.hid hd1; have HM1 := Lib.hid hm1; clear hd1 hm1))
    go_ret
    refine ⟨by rw [E2.out]; rfl, by rw [E1.out]; exact HD1.out, (Mod.of_below HBW.out (Own p sb mb)).trans' HM1.out⟩

end Go.Proofs.YtbagmmncjmbboaaGreat
