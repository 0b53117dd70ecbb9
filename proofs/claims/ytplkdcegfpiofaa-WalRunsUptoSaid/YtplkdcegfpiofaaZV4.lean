/-
  A log sector read in plain words; the walk of wal's parse.
-/
import Derived.Test.YtplkdcegfpiofaaZV1
namespace Go.Proofs.Ytplkdcegfpiofaa
open Go.RowKit Go.Maps
set_option linter.unusedVariables false

def runOf (b : List Nat) : Nat := leV ((b.drop 4).take 8)
def usedOf (b : List Nat) : Nat := leV ((b.drop 12).take 2)
/-- Does a log sector's form hold: its run and how much is used are within bounds, its sum is right, what is not used is 0? -/
def isLog (b : List Nat) : Prop := 1 ≤ runOf b ∧ runOf b ≤ 274877906944 ∧ usedOf b ≤ 498 ∧ openOk b = true ∧ ∀ j x, 14 + usedOf b ≤ j → b[j]? = some x → x = 0
def partOf (b : List Nat) : List Nat := (b.drop 14).take (usedOf b)
/-- What parse answers at the sector's slice. -/
def ParseOut (w : World) (b : List Nat) (e : Ending) (w' : World) : Prop := Below w.heap.size w w' ∧
  ((¬ isLog b ∧ e = .returned (.tuple #[.int .i64 0, .slice none 0 0, .bool false])) ∨ (isLog b ∧ ∃ A c, e = .returned (.tuple #[.int .i64 (runOf b : Int), .slice A (usedOf b) c, .bool true]) ∧ RB w' w'.heap.size (.slice A (usedOf b) c) (partOf b)))
theorem openV {w : World} {v : Value} {l : List Nat} (hv : RB w w.heap.size v l) (hl : l.length = 512) {ok : Bool} (hok : openOk l = ok) : Calls Try.prog 134 #[v] w fun e w' => (∃ A n c, e = .returned (.tuple #[.slice A n c, .bool ok])) ∧ Below w.heap.size w w' := by
  refine (open_long v l w hv (by omega)).mono ?_
  rintro e w' ⟨v', rfl, ho, hb⟩
  obtain ⟨A, c, rfl, -, -, -, -⟩ := ho.rbn.open_
  exact ⟨⟨A, _, c, by rw [hok]⟩, hb⟩
set_option maxRecDepth 100000 in
set_option maxHeartbeats 1000000 in
theorem parse_low (w : World) (b : Nat) (l : List Nat) (hv : RB w w.heap.size (.slice (some ⟨b, 0, none⟩) 512 512) l) (hl : l.length = 512) (hb : b < w.heap.size) (hyp : runOf l < 1) :
    Calls Try.prog 122 #[.slice (some ⟨b, 0, none⟩) 512 512] w (ParseOut w l) := by
  have HV := Lib.hid hv
  obtain ⟨r, hr⟩ : ∃ r, r = runOf l := ⟨_, rfl⟩
  obtain ⟨u, hu⟩ : ∃ u, u = usedOf l := ⟨_, rfl⟩
  have R1 : Hid (RB w w.heap.size (.slice (some ⟨b, 4, none⟩) 8 508) ((l.drop 4).take 8)) := by
    have h := hv.sub (lo := 4) (m := 8) (c' := 508) (by omega) (by omega) (by omega)
    rw [Nat.zero_add] at h; exact h
  have R2 : Hid (RB w w.heap.size (.slice (some ⟨b, 12, none⟩) 2 500) ((l.drop 12).take 2)) := by
    have h := hv.sub (lo := 12) (m := 2) (c' := 500) (by omega) (by omega) (by omega)
    rw [Nat.zero_add] at h; exact h
  have l1 : ((l.drop 4).take 8).length ≤ 8 := by rw [List.length_take]; omega
  have l2 : ((l.drop 12).take 2).length ≤ 8 := by rw [List.length_take]; omega
  have E1 : Hid (leV ((l.drop 4).take 8) = r) := Lib.hid hr.symm
  have E2 : Hid (leV ((l.drop 12).take 2) = u) := Lib.hid hu.symm
  have hu16 : u < 65536 := by
    have h := leV_lt ((l.drop 12).take 2) (fun x hx => hv.1 x (List.mem_of_mem_drop (List.mem_of_mem_take hx)))
    have h2 : ((l.drop 12).take 2).length = 2 := by rw [List.length_take, List.length_drop]; omega
    rw [h2] at h
    have h3 : u = leV ((l.drop 12).take 2) := hu
    omega
  rw [← hr] at hyp
  have HR := Lib.hid hr
  have HU := Lib.hid hu
  have g1 : decide ((r : Int) < 1) = true := by simp; omega
  have g1b : (r : Int) < 1 := by omega
  clear hv hr hu
  go_enter Try.func122, Try.ntmps122
  go_wp2_with fail
  go_quiet (first
    | (go_at_call 68; with_reducible exact Calls.quiet_of_same (leGet_v (R1.out.drewN _) l1 E1.out))
    | (go_at_call 68; with_reducible exact Calls.quiet_of_same (leGet_v (R2.out.drewN _) l2 E2.out)))
  go_wp2_with fail
  go_ret3
  exact ⟨below_drewN (Below.refl _ _) nq, .inl ⟨fun h => by have := HR.out; have := h.1; omega, by first | rfl | trivial⟩⟩

set_option maxRecDepth 100000 in
set_option maxHeartbeats 1000000 in
theorem parse_high (w : World) (b : Nat) (l : List Nat) (hv : RB w w.heap.size (.slice (some ⟨b, 0, none⟩) 512 512) l) (hl : l.length = 512) (hb : b < w.heap.size) (hyp : 274877906944 < runOf l) :
    Calls Try.prog 122 #[.slice (some ⟨b, 0, none⟩) 512 512] w (ParseOut w l) := by
  have HV := Lib.hid hv
  obtain ⟨r, hr⟩ : ∃ r, r = runOf l := ⟨_, rfl⟩
  obtain ⟨u, hu⟩ : ∃ u, u = usedOf l := ⟨_, rfl⟩
  have R1 : Hid (RB w w.heap.size (.slice (some ⟨b, 4, none⟩) 8 508) ((l.drop 4).take 8)) := by
    have h := hv.sub (lo := 4) (m := 8) (c' := 508) (by omega) (by omega) (by omega)
    rw [Nat.zero_add] at h; exact h
  have R2 : Hid (RB w w.heap.size (.slice (some ⟨b, 12, none⟩) 2 500) ((l.drop 12).take 2)) := by
    have h := hv.sub (lo := 12) (m := 2) (c' := 500) (by omega) (by omega) (by omega)
    rw [Nat.zero_add] at h; exact h
  have l1 : ((l.drop 4).take 8).length ≤ 8 := by rw [List.length_take]; omega
  have l2 : ((l.drop 12).take 2).length ≤ 8 := by rw [List.length_take]; omega
  have E1 : Hid (leV ((l.drop 4).take 8) = r) := Lib.hid hr.symm
  have E2 : Hid (leV ((l.drop 12).take 2) = u) := Lib.hid hu.symm
  have hu16 : u < 65536 := by
    have h := leV_lt ((l.drop 12).take 2) (fun x hx => hv.1 x (List.mem_of_mem_drop (List.mem_of_mem_take hx)))
    have h2 : ((l.drop 12).take 2).length = 2 := by rw [List.length_take, List.length_drop]; omega
    rw [h2] at h
    have h3 : u = leV ((l.drop 12).take 2) := hu
    omega
  rw [← hr] at hyp
  have HR := Lib.hid hr
  have HU := Lib.hid hu
  have g1 : ¬ (r : Int) < 1 := by omega
  have g2 : (274877906944 : Int) < (r : Int) := by omega
  clear hv hr hu
  go_enter Try.func122, Try.ntmps122
  go_wp2_with fail
  go_quiet (first
    | (go_at_call 68; with_reducible exact Calls.quiet_of_same (leGet_v (R1.out.drewN _) l1 E1.out))
    | (go_at_call 68; with_reducible exact Calls.quiet_of_same (leGet_v (R2.out.drewN _) l2 E2.out)))
  go_wp2_with fail
  go_ret3
  exact ⟨below_drewN (Below.refl _ _) nq, .inl ⟨fun h => by have := HR.out; have := h.2.1; omega, by first | rfl | trivial⟩⟩

set_option maxRecDepth 100000 in
set_option maxHeartbeats 1000000 in
theorem parse_long (w : World) (b : Nat) (l : List Nat) (hv : RB w w.heap.size (.slice (some ⟨b, 0, none⟩) 512 512) l) (hl : l.length = 512) (hb : b < w.heap.size) (hyp : 1 ≤ runOf l ∧ runOf l ≤ 274877906944 ∧ 498 < usedOf l) :
    Calls Try.prog 122 #[.slice (some ⟨b, 0, none⟩) 512 512] w (ParseOut w l) := by
  have HV := Lib.hid hv
  obtain ⟨r, hr⟩ : ∃ r, r = runOf l := ⟨_, rfl⟩
  obtain ⟨u, hu⟩ : ∃ u, u = usedOf l := ⟨_, rfl⟩
  have R1 : Hid (RB w w.heap.size (.slice (some ⟨b, 4, none⟩) 8 508) ((l.drop 4).take 8)) := by
    have h := hv.sub (lo := 4) (m := 8) (c' := 508) (by omega) (by omega) (by omega)
    rw [Nat.zero_add] at h; exact h
  have R2 : Hid (RB w w.heap.size (.slice (some ⟨b, 12, none⟩) 2 500) ((l.drop 12).take 2)) := by
    have h := hv.sub (lo := 12) (m := 2) (c' := 500) (by omega) (by omega) (by omega)
    rw [Nat.zero_add] at h; exact h
  have l1 : ((l.drop 4).take 8).length ≤ 8 := by rw [List.length_take]; omega
  have l2 : ((l.drop 12).take 2).length ≤ 8 := by rw [List.length_take]; omega
  have E1 : Hid (leV ((l.drop 4).take 8) = r) := Lib.hid hr.symm
  have E2 : Hid (leV ((l.drop 12).take 2) = u) := Lib.hid hu.symm
  have hu16 : u < 65536 := by
    have h := leV_lt ((l.drop 12).take 2) (fun x hx => hv.1 x (List.mem_of_mem_drop (List.mem_of_mem_take hx)))
    have h2 : ((l.drop 12).take 2).length = 2 := by rw [List.length_take, List.length_drop]; omega
    rw [h2] at h
    have h3 : u = leV ((l.drop 12).take 2) := hu
    omega
  rw [← hr] at hyp
  rw [← hu] at hyp
  have HR := Lib.hid hr
  have HU := Lib.hid hu
  have g1 : ¬ (r : Int) < 1 := by omega
  have g2 : ¬ (274877906944 : Int) < (r : Int) := by omega
  have g3 : (498 : Int) < (u : Int) := by omega
  clear hv hr hu
  go_enter Try.func122, Try.ntmps122
  go_wp2_with fail
  go_quiet (first
    | (go_at_call 68; with_reducible exact Calls.quiet_of_same (leGet_v (R1.out.drewN _) l1 E1.out))
    | (go_at_call 68; with_reducible exact Calls.quiet_of_same (leGet_v (R2.out.drewN _) l2 E2.out)))
  go_wp2_with fail
  go_ret3
  exact ⟨below_drewN (Below.refl _ _) nq, .inl ⟨fun h => by have := HU.out; have := h.2.2.1; omega, by first | rfl | trivial⟩⟩

set_option maxRecDepth 100000 in
set_option maxHeartbeats 1000000 in
theorem parse_sum (w : World) (b : Nat) (l : List Nat) (hv : RB w w.heap.size (.slice (some ⟨b, 0, none⟩) 512 512) l) (hl : l.length = 512) (hb : b < w.heap.size) (hyp : 1 ≤ runOf l ∧ runOf l ≤ 274877906944 ∧ usedOf l ≤ 498 ∧ openOk l = false) :
    Calls Try.prog 122 #[.slice (some ⟨b, 0, none⟩) 512 512] w (ParseOut w l) := by
  have HV := Lib.hid hv
  obtain ⟨r, hr⟩ : ∃ r, r = runOf l := ⟨_, rfl⟩
  obtain ⟨u, hu⟩ : ∃ u, u = usedOf l := ⟨_, rfl⟩
  have R1 : Hid (RB w w.heap.size (.slice (some ⟨b, 4, none⟩) 8 508) ((l.drop 4).take 8)) := by
    have h := hv.sub (lo := 4) (m := 8) (c' := 508) (by omega) (by omega) (by omega)
    rw [Nat.zero_add] at h; exact h
  have R2 : Hid (RB w w.heap.size (.slice (some ⟨b, 12, none⟩) 2 500) ((l.drop 12).take 2)) := by
    have h := hv.sub (lo := 12) (m := 2) (c' := 500) (by omega) (by omega) (by omega)
    rw [Nat.zero_add] at h; exact h
  have l1 : ((l.drop 4).take 8).length ≤ 8 := by rw [List.length_take]; omega
  have l2 : ((l.drop 12).take 2).length ≤ 8 := by rw [List.length_take]; omega
  have E1 : Hid (leV ((l.drop 4).take 8) = r) := Lib.hid hr.symm
  have E2 : Hid (leV ((l.drop 12).take 2) = u) := Lib.hid hu.symm
  have hu16 : u < 65536 := by
    have h := leV_lt ((l.drop 12).take 2) (fun x hx => hv.1 x (List.mem_of_mem_drop (List.mem_of_mem_take hx)))
    have h2 : ((l.drop 12).take 2).length = 2 := by rw [List.length_take, List.length_drop]; omega
    rw [h2] at h
    have h3 : u = leV ((l.drop 12).take 2) := hu
    omega
  rw [← hr] at hyp
  rw [← hu] at hyp
  have HR := Lib.hid hr
  have HU := Lib.hid hu
  have g1 : ¬ (r : Int) < 1 := by omega
  have g2 : ¬ (274877906944 : Int) < (r : Int) := by omega
  have g3 : ¬ (498 : Int) < (u : Int) := by omega
  have HOK : Hid (openOk l = false) := Lib.hid hyp.2.2.2
  have HL := Lib.hid hl
  clear hv hr hu
  go_enter Try.func122, Try.ntmps122
  go_wp2_with fail
  go_quiet (first
    | (go_at_call 68; with_reducible exact Calls.quiet_of_same (leGet_v (R1.out.drewN _) l1 E1.out))
    | (go_at_call 68; with_reducible exact Calls.quiet_of_same (leGet_v (R2.out.drewN _) l2 E2.out)))
  go_wp2_with fail
  refine (openV (HV.out.drewN nq) HL.out HOK.out).mono ?_
  rintro e w1 ⟨⟨A1, n1, c1, rfl⟩, hb1⟩
  have HB1 : Hid (Below w.heap.size w w1) := (below_drewN (Below.refl _ _) nq).trans hb1
  clear hb1
  go_wp2_with fail
  go_ret3
  exact ⟨HB1.out, .inl ⟨(fun h => by have h1 := h.2.2.2.1; rw [HOK.out] at h1; cases h1), by first | rfl | trivial⟩⟩

set_option maxRecDepth 100000 in
set_option maxHeartbeats 1000000 in
theorem parse_yes_z (w : World) (b : Nat) (l : List Nat) (hv : RB w w.heap.size (.slice (some ⟨b, 0, none⟩) 512 512) l) (hl : l.length = 512) (hb : b < w.heap.size) (hyp : 1 ≤ runOf l ∧ runOf l ≤ 274877906944 ∧ usedOf l ≤ 498 ∧ openOk l = true ∧ usedOf l = 498 ∧ isLog l) :
    Calls Try.prog 122 #[.slice (some ⟨b, 0, none⟩) 512 512] w (ParseOut w l) := by
  have HV := Lib.hid hv
  obtain ⟨r, hr⟩ : ∃ r, r = runOf l := ⟨_, rfl⟩
  obtain ⟨u, hu⟩ : ∃ u, u = usedOf l := ⟨_, rfl⟩
  have R1 : Hid (RB w w.heap.size (.slice (some ⟨b, 4, none⟩) 8 508) ((l.drop 4).take 8)) := by
    have h := hv.sub (lo := 4) (m := 8) (c' := 508) (by omega) (by omega) (by omega)
    rw [Nat.zero_add] at h; exact h
  have R2 : Hid (RB w w.heap.size (.slice (some ⟨b, 12, none⟩) 2 500) ((l.drop 12).take 2)) := by
    have h := hv.sub (lo := 12) (m := 2) (c' := 500) (by omega) (by omega) (by omega)
    rw [Nat.zero_add] at h; exact h
  have l1 : ((l.drop 4).take 8).length ≤ 8 := by rw [List.length_take]; omega
  have l2 : ((l.drop 12).take 2).length ≤ 8 := by rw [List.length_take]; omega
  have E1 : Hid (leV ((l.drop 4).take 8) = r) := Lib.hid hr.symm
  have E2 : Hid (leV ((l.drop 12).take 2) = u) := Lib.hid hu.symm
  have hu16 : u < 65536 := by
    have h := leV_lt ((l.drop 12).take 2) (fun x hx => hv.1 x (List.mem_of_mem_drop (List.mem_of_mem_take hx)))
    have h2 : ((l.drop 12).take 2).length = 2 := by rw [List.length_take, List.length_drop]; omega
    rw [h2] at h
    have h3 : u = leV ((l.drop 12).take 2) := hu
    omega
  rw [← hr] at hyp
  rw [← hu] at hyp
  have HR := Lib.hid hr
  have HU := Lib.hid hu
  have g1 : ¬ (r : Int) < 1 := by omega
  have g2 : ¬ (274877906944 : Int) < (r : Int) := by omega
  have g3 : ¬ (498 : Int) < (u : Int) := by omega
  have HOK : Hid (openOk l = true) := Lib.hid hyp.2.2.2.1
  have hwu : IntKind.u64.wrap (14 + (u : Int)) = 14 + (u : Int) := by rw [IntKind.wrap_u64]; omega
  have htn : (14 + (u : Int)).toNat = 14 + u := by omega
  have hwr : IntKind.i64.wrap (r : Int) = (r : Int) := by rw [IntKind.wrap_i64]; omega
  have hb0 : (14 : Int) ≤ 14 + (u : Int) := by omega
  have hb2 : 14 + (u : Int) ≤ 512 := by omega
  have hb3 : (0 : Int) ≤ 14 + (u : Int) := by omega
  have hu498 : u = 498 := hyp.2.2.2.2.1
  have HLG : Hid (isLog l) := Lib.hid hyp.2.2.2.2.2
  have hpt : RB w w.heap.size (.slice (some ⟨b, 14, none⟩) 498 498) (partOf l) := by
    have h := hv.sub (lo := 14) (m := 498) (c' := 498) (by omega) (by omega) (by omega)
    rw [Nat.zero_add] at h
    unfold partOf
    rw [← hu, hu498]; exact h
  have HPT := Lib.hid hpt
  subst hu498
  clear hyp hpt htn hwu hb0 hb2 hb3
  have HL := Lib.hid hl
  clear hv hr hu
  go_enter Try.func122, Try.ntmps122
  go_wp2_with fail
  go_quiet (first
    | (go_at_call 68; with_reducible exact Calls.quiet_of_same (leGet_v (R1.out.drewN _) l1 E1.out))
    | (go_at_call 68; with_reducible exact Calls.quiet_of_same (leGet_v (R2.out.drewN _) l2 E2.out)))
  go_wp2_with fail
  refine (openV (HV.out.drewN nq) HL.out HOK.out).mono ?_
  rintro e w1 ⟨⟨A1, n1, c1, rfl⟩, hb1⟩
  have HB1 : Hid (Below w.heap.size w w1) := (below_drewN (Below.refl _ _) nq).trans hb1
  clear hb1
  go_wp2_with fail
  go_quiet (fail)
  go_wp2_with fail
  go_loopw [46] (fun i wr => i = .int .i64 0 ∧ wr = w1.drewN nq) (fun i wr => 0)
  case atStart => exact ⟨rfl, rfl⟩
  case round =>
    obtain ⟨rfl, rfl⟩ := hrel
    go_wp2_with fail
    go_ret3
    have hbw := below_drewN HB1.out nq
    exact ⟨hbw, .inr ⟨HLG.out, _, _, by rw [← HR.out, ← HU.out]; rfl, by rw [← HU.out]; exact (HPT.out.below hbw).more hbw.size⟩⟩

set_option maxRecDepth 100000 in
set_option maxHeartbeats 1000000 in
theorem parse_yes (w : World) (b : Nat) (l : List Nat) (hv : RB w w.heap.size (.slice (some ⟨b, 0, none⟩) 512 512) l) (hl : l.length = 512) (hb : b < w.heap.size) (hyp : 1 ≤ runOf l ∧ runOf l ≤ 274877906944 ∧ usedOf l ≤ 498 ∧ openOk l = true ∧ usedOf l < 498 ∧ isLog l) :
    Calls Try.prog 122 #[.slice (some ⟨b, 0, none⟩) 512 512] w (ParseOut w l) := by
  have HV := Lib.hid hv
  obtain ⟨r, hr⟩ : ∃ r, r = runOf l := ⟨_, rfl⟩
  obtain ⟨u, hu⟩ : ∃ u, u = usedOf l := ⟨_, rfl⟩
  have R1 : Hid (RB w w.heap.size (.slice (some ⟨b, 4, none⟩) 8 508) ((l.drop 4).take 8)) := by
    have h := hv.sub (lo := 4) (m := 8) (c' := 508) (by omega) (by omega) (by omega)
    rw [Nat.zero_add] at h; exact h
  have R2 : Hid (RB w w.heap.size (.slice (some ⟨b, 12, none⟩) 2 500) ((l.drop 12).take 2)) := by
    have h := hv.sub (lo := 12) (m := 2) (c' := 500) (by omega) (by omega) (by omega)
    rw [Nat.zero_add] at h; exact h
  have l1 : ((l.drop 4).take 8).length ≤ 8 := by rw [List.length_take]; omega
  have l2 : ((l.drop 12).take 2).length ≤ 8 := by rw [List.length_take]; omega
  have E1 : Hid (leV ((l.drop 4).take 8) = r) := Lib.hid hr.symm
  have E2 : Hid (leV ((l.drop 12).take 2) = u) := Lib.hid hu.symm
  have hu16 : u < 65536 := by
    have h := leV_lt ((l.drop 12).take 2) (fun x hx => hv.1 x (List.mem_of_mem_drop (List.mem_of_mem_take hx)))
    have h2 : ((l.drop 12).take 2).length = 2 := by rw [List.length_take, List.length_drop]; omega
    rw [h2] at h
    have h3 : u = leV ((l.drop 12).take 2) := hu
    omega
  rw [← hr] at hyp
  rw [← hu] at hyp
  have HR := Lib.hid hr
  have HU := Lib.hid hu
  have g1 : ¬ (r : Int) < 1 := by omega
  have g2 : ¬ (274877906944 : Int) < (r : Int) := by omega
  have g3 : ¬ (498 : Int) < (u : Int) := by omega
  have HOK : Hid (openOk l = true) := Lib.hid hyp.2.2.2.1
  have hwu : IntKind.u64.wrap (14 + (u : Int)) = 14 + (u : Int) := by rw [IntKind.wrap_u64]; omega
  have htn : (14 + (u : Int)).toNat = 14 + u := by omega
  have hwr : IntKind.i64.wrap (r : Int) = (r : Int) := by rw [IntKind.wrap_i64]; omega
  have hb0 : (14 : Int) ≤ 14 + (u : Int) := by omega
  have hb2 : 14 + (u : Int) ≤ 512 := by omega
  have hb3 : (0 : Int) ≤ 14 + (u : Int) := by omega
  have hlt498 : u < 498 := hyp.2.2.2.2.1
  have hne : ¬ 512 = 14 + u := by omega
  have hne2 : ¬ 14 + u = 512 := by omega
  obtain ⟨z, hz⟩ : ∃ z, 512 - (14 + u) = z := ⟨_, rfl⟩
  have hpt : RB w w.heap.size (.slice (some ⟨b, 14, none⟩) u 498) (partOf l) := by
    have h := hv.sub (lo := 14) (m := u) (c' := 498) (by omega) (by omega) (by omega)
    rw [Nat.zero_add] at h
    unfold partOf
    rw [← hu]; exact h
  have HPT := Lib.hid hpt
  have HLG : Hid (isLog l) := Lib.hid hyp.2.2.2.2.2
  have hcell : ∀ j x : Nat, l[j]? = some x → w.cell? ⟨b, j, none⟩ = some (.int .u8 (x : Int)) := fun j x hx => by
    obtain ⟨_, _, A, c0, e, _, _, h5⟩ := hv
    injection e with e _ _
    rcases h5 with h5 | ⟨b', off, e', _, hx'⟩
    · rw [h5] at hx; cases hx
    · rw [← e] at e'
      injection e' with e'
      injection e' with e4 e5
      subst e4 e5
      have := hx' j x hx
      rw [Nat.zero_add] at this; exact this
  have HGAP : Hid (∀ j, j < z → w.cell? ⟨b, 14 + u + j, none⟩ = some (.int .u8 0)) := Lib.hid fun j hj => by
    have hx : (14 + u + j) < l.length := by omega
    have h0 := hyp.2.2.2.2.2.2.2.2.2 (14 + u + j) l[14 + u + j] (by rw [← hu]; omega) (List.getElem?_eq_getElem hx)
    have h1 := hcell _ _ (List.getElem?_eq_getElem hx)
    rw [h0] at h1
    exact h1
  clear hyp hpt hcell
  have HL := Lib.hid hl
  clear hv hr hu
  go_enter Try.func122, Try.ntmps122
  go_wp2_with fail
  go_quiet (first
    | (go_at_call 68; with_reducible exact Calls.quiet_of_same (leGet_v (R1.out.drewN _) l1 E1.out))
    | (go_at_call 68; with_reducible exact Calls.quiet_of_same (leGet_v (R2.out.drewN _) l2 E2.out)))
  go_wp2_with fail
  refine (openV (HV.out.drewN nq) HL.out HOK.out).mono ?_
  rintro e w1 ⟨⟨A1, n1, c1, rfl⟩, hb1⟩
  have HB1 : Hid (Below w.heap.size w w1) := (below_drewN (Below.refl _ _) nq).trans hb1
  clear hb1
  go_wp2_with fail
  go_quiet (fail)
  go_wp2_with fail
  go_loopw [46] (fun i wr => ∃ j : Nat, j ≤ z ∧ i = .int .i64 j ∧ wr = w1.drewN nq) (fun i wr => z - (intOf i).toNat)
  case atStart => exact ⟨0, Nat.zero_le _, rfl, rfl⟩
  case round =>
    obtain ⟨j, hj, rfl, rfl⟩ := hrel
    by_cases hjz : j < z
    · have hcj : (w1.drewN nq).cell? ⟨b, 14 + u + j, none⟩ = some (.int .u8 0) := ((below_drewN HB1.out nq).cell (p := ⟨b, 14 + u + j, none⟩) hb).trans (HGAP.out j hjz)
      have hcj2 : w1.cell? ⟨b, 14 + u + j, none⟩ = some (.int .u8 0) := (HB1.out.cell (p := ⟨b, 14 + u + j, none⟩) hb).trans (HGAP.out j hjz)
      have hji : (j : Int) < (z : Int) := by omega
      go_wp2_with fail
      go_roundw
      case rel => exact ⟨j + 1, by omega, by go_num, by first | rfl | trivial⟩
      case measure => simp [intOf]; omega
    · obtain rfl : j = z := by omega
      go_wp2_with fail
      go_ret3
      have hbw := below_drewN HB1.out nq
      exact ⟨hbw, .inr ⟨HLG.out, _, _, by rw [← HR.out, ← HU.out]; rfl, by rw [← HU.out]; exact (HPT.out.below hbw).more hbw.size⟩⟩

set_option maxRecDepth 100000 in
set_option maxHeartbeats 1000000 in
theorem parse_gap (w : World) (b : Nat) (l : List Nat) (hv : RB w w.heap.size (.slice (some ⟨b, 0, none⟩) 512 512) l) (hl : l.length = 512) (hb : b < w.heap.size) (hyp : 1 ≤ runOf l ∧ runOf l ≤ 274877906944 ∧ usedOf l ≤ 498 ∧ openOk l = true ∧ usedOf l < 498 ∧ ¬ isLog l ∧ ∃ j0 x, 14 + usedOf l + j0 < 512 ∧ l[14 + usedOf l + j0]? = some x ∧ x ≠ 0 ∧ ∀ j, j < j0 → l[14 + usedOf l + j]? = some 0) :
    Calls Try.prog 122 #[.slice (some ⟨b, 0, none⟩) 512 512] w (ParseOut w l) := by
  have HV := Lib.hid hv
  obtain ⟨r, hr⟩ : ∃ r, r = runOf l := ⟨_, rfl⟩
  obtain ⟨u, hu⟩ : ∃ u, u = usedOf l := ⟨_, rfl⟩
  have R1 : Hid (RB w w.heap.size (.slice (some ⟨b, 4, none⟩) 8 508) ((l.drop 4).take 8)) := by
    have h := hv.sub (lo := 4) (m := 8) (c' := 508) (by omega) (by omega) (by omega)
    rw [Nat.zero_add] at h; exact h
  have R2 : Hid (RB w w.heap.size (.slice (some ⟨b, 12, none⟩) 2 500) ((l.drop 12).take 2)) := by
    have h := hv.sub (lo := 12) (m := 2) (c' := 500) (by omega) (by omega) (by omega)
    rw [Nat.zero_add] at h; exact h
  have l1 : ((l.drop 4).take 8).length ≤ 8 := by rw [List.length_take]; omega
  have l2 : ((l.drop 12).take 2).length ≤ 8 := by rw [List.length_take]; omega
  have E1 : Hid (leV ((l.drop 4).take 8) = r) := Lib.hid hr.symm
  have E2 : Hid (leV ((l.drop 12).take 2) = u) := Lib.hid hu.symm
  have hu16 : u < 65536 := by
    have h := leV_lt ((l.drop 12).take 2) (fun x hx => hv.1 x (List.mem_of_mem_drop (List.mem_of_mem_take hx)))
    have h2 : ((l.drop 12).take 2).length = 2 := by rw [List.length_take, List.length_drop]; omega
    rw [h2] at h
    have h3 : u = leV ((l.drop 12).take 2) := hu
    omega
  rw [← hr] at hyp
  rw [← hu] at hyp
  have HR := Lib.hid hr
  have HU := Lib.hid hu
  have g1 : ¬ (r : Int) < 1 := by omega
  have g2 : ¬ (274877906944 : Int) < (r : Int) := by omega
  have g3 : ¬ (498 : Int) < (u : Int) := by omega
  have HOK : Hid (openOk l = true) := Lib.hid hyp.2.2.2.1
  have hwu : IntKind.u64.wrap (14 + (u : Int)) = 14 + (u : Int) := by rw [IntKind.wrap_u64]; omega
  have htn : (14 + (u : Int)).toNat = 14 + u := by omega
  have hwr : IntKind.i64.wrap (r : Int) = (r : Int) := by rw [IntKind.wrap_i64]; omega
  have hb0 : (14 : Int) ≤ 14 + (u : Int) := by omega
  have hb2 : 14 + (u : Int) ≤ 512 := by omega
  have hb3 : (0 : Int) ≤ 14 + (u : Int) := by omega
  have hlt498 : u < 498 := hyp.2.2.2.2.1
  have hne : ¬ 512 = 14 + u := by omega
  have hne2 : ¬ 14 + u = 512 := by omega
  obtain ⟨z, hz⟩ : ∃ z, 512 - (14 + u) = z := ⟨_, rfl⟩
  have hpt : RB w w.heap.size (.slice (some ⟨b, 14, none⟩) u 498) (partOf l) := by
    have h := hv.sub (lo := 14) (m := u) (c' := 498) (by omega) (by omega) (by omega)
    rw [Nat.zero_add] at h
    unfold partOf
    rw [← hu]; exact h
  have HPT := Lib.hid hpt
  have HLG : Hid (¬ isLog l) := Lib.hid hyp.2.2.2.2.2.1
  have hcell : ∀ j x : Nat, l[j]? = some x → w.cell? ⟨b, j, none⟩ = some (.int .u8 (x : Int)) := fun j x hx => by
    obtain ⟨_, _, A, c0, e, _, _, h5⟩ := hv
    injection e with e _ _
    rcases h5 with h5 | ⟨b', off, e', _, hx'⟩
    · rw [h5] at hx; cases hx
    · rw [← e] at e'
      injection e' with e'
      injection e' with e4 e5
      subst e4 e5
      have := hx' j x hx
      rw [Nat.zero_add] at this; exact this
  obtain ⟨j0, x0, hj0, hx0, hxn, hbefore⟩ := hyp.2.2.2.2.2.2
  have HG0 : Hid (w.cell? ⟨b, 14 + u + j0, none⟩ = some (.int .u8 (x0 : Int))) := Lib.hid (hcell _ _ hx0)
  have HGAP : Hid (∀ j, j < j0 → w.cell? ⟨b, 14 + u + j, none⟩ = some (.int .u8 0)) := Lib.hid fun j hj => hcell _ 0 (hbefore j hj)
  have hj0z : j0 < z := by omega
  have hxn2 : ¬ (x0 : Int) = 0 := by omega
  have hxn3 : ((x0 : Int) == 0) = false := by simp; omega
  clear hyp hpt hcell hx0 hbefore
  have HL := Lib.hid hl
  clear hv hr hu
  go_enter Try.func122, Try.ntmps122
  go_wp2_with fail
  go_quiet (first
    | (go_at_call 68; with_reducible exact Calls.quiet_of_same (leGet_v (R1.out.drewN _) l1 E1.out))
    | (go_at_call 68; with_reducible exact Calls.quiet_of_same (leGet_v (R2.out.drewN _) l2 E2.out)))
  go_wp2_with fail
  refine (openV (HV.out.drewN nq) HL.out HOK.out).mono ?_
  rintro e w1 ⟨⟨A1, n1, c1, rfl⟩, hb1⟩
  have HB1 : Hid (Below w.heap.size w w1) := (below_drewN (Below.refl _ _) nq).trans hb1
  clear hb1
  go_wp2_with fail
  go_quiet (fail)
  go_wp2_with fail
  go_loopw [46] (fun i wr => ∃ j : Nat, j ≤ j0 ∧ i = .int .i64 j ∧ wr = w1.drewN nq) (fun i wr => z - (intOf i).toNat)
  case atStart => exact ⟨0, Nat.zero_le _, rfl, rfl⟩
  case round =>
    obtain ⟨j, hj, rfl, rfl⟩ := hrel
    by_cases hjz : j < j0
    · have hcj : (w1.drewN nq).cell? ⟨b, 14 + u + j, none⟩ = some (.int .u8 0) := ((below_drewN HB1.out nq).cell (p := ⟨b, 14 + u + j, none⟩) hb).trans (HGAP.out j hjz)
      have hcj2 : w1.cell? ⟨b, 14 + u + j, none⟩ = some (.int .u8 0) := (HB1.out.cell (p := ⟨b, 14 + u + j, none⟩) hb).trans (HGAP.out j hjz)
      have hji : (j : Int) < (z : Int) := by omega
      have hji2 : j < z := by omega
      go_wp2_with fail
      go_roundw
      case rel => exact ⟨j + 1, by omega, by go_num, by first | rfl | trivial⟩
      case measure => simp [intOf]; omega
    · obtain rfl : j = j0 := by omega
      have hcj : (w1.drewN nq).cell? ⟨b, 14 + u + j, none⟩ = some (.int .u8 (x0 : Int)) := ((below_drewN HB1.out nq).cell (p := ⟨b, 14 + u + j, none⟩) hb).trans HG0.out
      have hcj2 : w1.cell? ⟨b, 14 + u + j, none⟩ = some (.int .u8 (x0 : Int)) := (HB1.out.cell (p := ⟨b, 14 + u + j, none⟩) hb).trans HG0.out
      have hji : (j : Int) < (z : Int) := by omega
      go_wp2_with fail
      go_ret3
      exact ⟨below_drewN HB1.out nq, .inl ⟨HLG.out, by first | rfl | trivial⟩⟩

theorem least_not {P : Nat → Prop} : ∀ n, (∃ j, j < n ∧ ¬ P j) → ∃ j, j < n ∧ ¬ P j ∧ ∀ i, i < j → P i
  | 0, ⟨j, h, _⟩ => by omega
  | n + 1, ⟨j, h, hj⟩ => by
    by_cases hn : ∃ j, j < n ∧ ¬ P j
    · obtain ⟨i, h1, h2, h3⟩ := least_not n hn
      exact ⟨i, by omega, h2, h3⟩
    · refine ⟨j, h, hj, fun i hi => ?_⟩
      by_cases hp : P i
      · exact hp
      · exact absurd ⟨i, by omega, hp⟩ hn
theorem parse_any (w : World) (b : Nat) (l : List Nat) (hv : RB w w.heap.size (.slice (some ⟨b, 0, none⟩) 512 512) l) (hl : l.length = 512) (hb : b < w.heap.size) :
    Calls Try.prog 122 #[.slice (some ⟨b, 0, none⟩) 512 512] w (ParseOut w l) := by
  by_cases h1 : runOf l < 1
  · exact parse_low w b l hv hl hb h1
  by_cases h2 : 274877906944 < runOf l
  · exact parse_high w b l hv hl hb h2
  by_cases h3 : 498 < usedOf l
  · exact parse_long w b l hv hl hb ⟨by omega, by omega, h3⟩
  cases h4 : openOk l with
  | false => exact parse_sum w b l hv hl hb ⟨by omega, by omega, by omega, h4⟩
  | true =>
    by_cases h5 : usedOf l = 498
    · refine parse_yes_z w b l hv hl hb ⟨by omega, by omega, by omega, h4, h5, by omega, by omega, by omega, h4, fun j x hj hx => ?_⟩
      have := (List.getElem?_eq_some_iff.1 hx).1
      omega
    · by_cases h6 : ∃ j, j < 512 - (14 + usedOf l) ∧ ¬ l[14 + usedOf l + j]? = some 0
      · obtain ⟨j0, hj, hn, hbf⟩ := least_not _ h6
        have hlt : 14 + usedOf l + j0 < l.length := by omega
        have hx := List.getElem?_eq_getElem hlt
        have hne : l[14 + usedOf l + j0] ≠ 0 := fun e => hn (by rw [hx, e])
        refine parse_gap w b l hv hl hb ⟨by omega, by omega, by omega, h4, by omega, fun hlog => hne (hlog.2.2.2.2 _ _ (by omega) hx), j0, _, by omega, hx, hne, hbf⟩
      · refine parse_yes w b l hv hl hb ⟨by omega, by omega, by omega, h4, by omega, by omega, by omega, by omega, h4, fun j x hj hx => ?_⟩
        have hjl := (List.getElem?_eq_some_iff.1 hx).1
        have h7 : l[14 + usedOf l + (j - (14 + usedOf l))]? = some 0 := by
          by_cases hp : l[14 + usedOf l + (j - (14 + usedOf l))]? = some 0
          · exact hp
          · exact absurd ⟨_, by omega, hp⟩ h6
        rw [show 14 + usedOf l + (j - (14 + usedOf l)) = j by omega, hx] at h7
        exact Option.some.inj h7
end Go.Proofs.Ytplkdcegfpiofaa
