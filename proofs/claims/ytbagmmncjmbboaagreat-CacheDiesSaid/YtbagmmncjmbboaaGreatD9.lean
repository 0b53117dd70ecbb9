/-
  The walk of the disk's Plan.
-/
import Derived.Test.YtbagmmncjmbboaaGreatD8
namespace Go.Proofs.YtbagmmncjmbboaaGreat
open Go.RowKit Go.Maps
set_option linter.unusedVariables false

def encF (f : Int × Int) : List Value := [.int .i64 f.1, .int .i64 f.2]

theorem encF_len (f : Int × Int) : (encF f).length = 2 := rfl

abbrev RF := RK encF 2

theorem cellF {w : World} {b off : Nat} {i : Nat} {f : Int × Int} (h : ∀ (j : Nat) u, (encF f)[j]? = some u → w.cell? ⟨b, off + i * 2 + j, none⟩ = some u) : w.cell? ⟨b, off + i * 2, none⟩ = some (.int .i64 f.1) ∧ w.cell? ⟨b, off + i * 2 + 1, none⟩ = some (.int .i64 f.2) :=
  ⟨by have := h 0 _ rfl; simpa using this, h 1 _ rfl⟩

/-- Of fates those that are kept: of a step to come and of a right kind. -/
def okFate (st : Nat) (f : Int × Int) : Bool := decide ((st : Int) < f.1) && (decide (1 ≤ f.2) && decide (f.2 ≤ 3))

def planG (st : Nat) (fs : List (Int × Int)) (k : Int) : Option Int := (fs.find? fun f => okFate st f && decide (f.1 = k)).map (·.2)

theorem planG_snoc_bad {st : Nat} {fs : List (Int × Int)} {f : Int × Int} (h : okFate st f = false) : planG st (fs ++ [f]) = planG st fs := by
  funext k
  unfold planG
  rw [List.find?_append]
  simp [h]

theorem planG_snoc_old {st : Nat} {fs : List (Int × Int)} {f : Int × Int} {y : Int} (hk : planG st fs f.1 = some y) : planG st (fs ++ [f]) = planG st fs := by
  funext k
  unfold planG at hk ⊢
  rw [List.find?_append]
  cases hq : fs.find? (fun f => okFate st f && decide (f.1 = k)) with
  | some x => rfl
  | none =>
    by_cases e : f.1 = k
    · subst e; rw [hq] at hk; cases hk
    · simp [e]

theorem planG_snoc_new {st : Nat} {fs : List (Int × Int)} {f : Int × Int} (h : okFate st f = true) (hk : planG st fs f.1 = none) (k : Int) : planG st (fs ++ [f]) k = if k = f.1 then some f.2 else planG st fs k := by
  unfold planG at hk ⊢
  rw [List.find?_append]
  by_cases e : k = f.1
  · subst e
    have : fs.find? (fun x => okFate st x && decide (x.1 = f.1)) = none := by simpa using hk
    rw [this]
    simp [h]
  · rw [if_neg e]
    have : ¬ (f.1 = k) := fun h' => e h'.symm
    simp [this]

theorem planG_eq (s : DS) (fs : List (Int × Int)) (k : Int) : (s.planned fs).plan k = (planG s.steps fs k).getD 0 := by
  unfold DS.planned planG
  dsimp only
  by_cases hk : k ≤ s.steps
  · rw [if_pos hk]
    have : fs.find? (fun f => okFate s.steps f && decide (f.1 = k)) = none := by
      rw [List.find?_eq_none]
      intro f hf
      unfold okFate
      simp
      omega
    rw [this]; rfl
  · rw [if_neg hk]
    induction fs with
    | nil => rfl
    | cons f r ih =>
      unfold firstFate
      rw [List.find?_cons]
      by_cases h1 : f.1 = k ∧ 1 ≤ f.2 ∧ f.2 ≤ 3
      · rw [if_pos h1]
        have : (okFate s.steps f && decide (f.1 = k)) = true := by unfold okFate; simp; omega
        rw [this]; rfl
      · rw [if_neg h1]
        have : (okFate s.steps f && decide (f.1 = k)) = false := by
          rw [Bool.eq_false_iff]; intro h2; unfold okFate at h2; simp at h2; omega
        rw [this]; exact ih

set_option maxRecDepth 100000 in
set_option maxHeartbeats 2000000 in
theorem Plan_any (w : World) (p sb mb : Nat) (pl : Option Nat) (s : DS) (v : Value) (fs : List (Int × Int)) (h : DiskAt w p sb mb pl s) (hv : RF w w.heap.size v fs) (hfs : ∀ f ∈ fs, I64 f.1) (hvo : Off (fun k => k = p) v fs) (hst : s.steps < 4611686018427387904) :
    Calls Tryz.prog 31 #[.pointer (some ⟨p, 0, none⟩), v] w fun e w' => e = .returned (.tuple #[]) ∧ DiskAt w' p sb mb (some w.heap.size) (s.planned fs) ∧ Mod (fun k => k = p) w w' := by
  have hlt := h.lt
  have hne := h.ne
  obtain ⟨A, c, rfl, hv1, hv2, hv3, HA⟩ := hv.open_
  have hn := h.ok.num
  have H := Lib.hid h
  have HFS := Lib.hid hfs
  have hmm := @run_makeMap Tryz.prog
  have p2 : ∃ u, w.cell? ⟨p, 2, none⟩ = some (.map u) := ⟨_, h.blk.cell 2⟩
  obtain ⟨u0, p2⟩ := p2
  have f2 := h.blk.frozen 2
  clear hv h hfs
  go_enter Tryz.func31, Tryz.ntmps31
  go_wp2_with fail
  go_loopw [14] (fun i wr => ∃ k : Nat, k ≤ fs.length ∧ i = .int .i64 k ∧ Hid (MapI isIntV wr w.heap.size k (fun j => (planG s.steps (fs.take k) j).map (Value.int .i64))) ∧
    Hid (Blk wr p 135 #[.slice (some ⟨sb, 0, none⟩) s.safe.length s.safe.length, .map (some mb), .map (some w.heap.size), .int .i64 s.steps, .bool s.off]) ∧ Hid (Mod (fun k => k = p) w wr)) (fun i wr => fs.length - (intOf i).toNat)
  case atStart =>
    refine ⟨0, Nat.zero_le _, rfl, ?_, ?_, ?_⟩
    · have h1 : MapI isIntV ((w.setCell ⟨p, 2, none⟩ (.map (some w.heap.size))).alloc (.map #[] 0)) (w.setCell ⟨p, 2, none⟩ (.map (some w.heap.size))).heap.size 0 (fun _ => none) := MapI.made _
      have e : (w.setCell ⟨p, 2, none⟩ (.map (some w.heap.size))).heap.size = w.heap.size := by simp
      rw [e] at h1
      exact h1
    · exact (H.out.blk.set_ 2 _).alloc _
    · exact ((Mod.refl (fun k => k = p) w).setCell (p := ⟨p, 2, none⟩) (fun _ => rfl) _).alloc _
  case round =>
    obtain ⟨k, hk, rfl, HM, HP, HW⟩ := hrel
    by_cases hkl : k < fs.length
    · obtain ⟨b1, o1, rfl, hb, hx⟩ := HA.out k hkl
      have hb1 : b1 ≠ p := by rcases hvo with e | e; rw [e] at hkl; simp at hkl; exact e b1 rfl
      obtain ⟨hx1, hx2⟩ := cellF hx
      have y1 : wr.cell? ⟨b1, o1 + k * 2, none⟩ = _ := (HW.out.cell hb hb1 _).trans hx1
      have y2 : wr.cell? ⟨b1, o1 + k * 2 + 1, none⟩ = _ := (HW.out.cell hb hb1 _).trans hx2
      have hi64 := HFS.out fs[k] (List.getElem_mem hkl)
      have htk : fs.take (k + 1) = fs.take k ++ [fs[k]] := List.take_succ_eq_append_getElem hkl
      have HTK := Lib.hid htk
      clear hx hx1 hx2 htk
      obtain ⟨f, hf⟩ : ∃ f, f = fs[k] := ⟨_, rfl⟩
      rw [← hf] at y1 y2 hi64 HTK
      clear hf
      obtain ⟨a, d⟩ := f
      dsimp only at y1 y2 hi64
      have HI64 := Lib.hid hi64
      clear hi64
      obtain ⟨W, hmW, hP, hF, hM, hW⟩ : ∃ W, Mod (fun k => k = p) w W ∧ Blk W p 135 #[.slice (some ⟨sb, 0, none⟩) s.safe.length s.safe.length, .map (some mb), .map (some w.heap.size), .int .i64 s.steps, .bool s.off] ∧
          Blk W wr.heap.size 73 #[.int .i64 a, .int .i64 d] ∧ MapI isIntV W w.heap.size k (fun j => (planG s.steps (fs.take k) j).map (Value.int .i64)) ∧ W = wr.alloc (.cells #[.int .i64 a, .int .i64 d] 73) :=
        ⟨_, HW.out.alloc _, HP.out.alloc _, Blk.new _ _ _, HM.out.mod ((Mod.refl (fun _ => False) wr).alloc _) id, rfl⟩
      have e0 : W.cell? ⟨p, 3, none⟩ = some (.int .i64 (s.steps : Int)) := hP.cell 3
      have e1 : W.cell? ⟨wr.heap.size, 0, none⟩ = some (.int .i64 a) := hF.cell 0
      have e2 : W.cell? ⟨wr.heap.size, 1, none⟩ = some (.int .i64 d) := hF.cell 1
      have HmW := Lib.hid hmW
      have HPW := Lib.hid hP
      have HFW := Lib.hid hF
      have HMW := Lib.hid hM
      have HWe := Lib.hid hW
      clear hmW hP hF hM hW p2
      cases hok : okFate s.steps (a, d) with
      | false =>
        have hst1 := planG_snoc_bad (fs := fs.take k) hok
        rw [← HTK.out] at hst1
        have HST := Lib.hid hst1
        clear hst1
        have hend : ∀ nq, (∃ k' : Nat, k' ≤ fs.length ∧ Value.int .i64 ((k : Int) + 1) = .int .i64 k' ∧ Hid (MapI isIntV (W.drewN nq) w.heap.size k' (fun j => (planG s.steps (fs.take k') j).map (Value.int .i64))) ∧
            Hid (Blk (W.drewN nq) p 135 #[.slice (some ⟨sb, 0, none⟩) s.safe.length s.safe.length, .map (some mb), .map (some w.heap.size), .int .i64 s.steps, .bool s.off]) ∧ Hid (Mod (fun k => k = p) w (W.drewN nq))) := by
          intro nq
          refine ⟨k + 1, by omega, by go_num, ?_, HPW.out.drewN nq, HmW.out.drewN nq⟩
          rw [HST.out]
          exact (HMW.out.mod ((Mod.refl (fun _ => False) W).drewN nq) id).mono (by omega)
        have HEND := Lib.hid hend
        clear hend
        by_cases c1 : a ≤ (s.steps : Int)
        · have d1 : decide (a ≤ (s.steps : Int)) = true := by simpa using c1
          clear c1
          go_wp2_with fail
          rw [← HWe.out]
          go_quiet (fail)
          go_wp2_with fail
          go_roundw
          case rel => exact HEND.out nq
          case measure => simp [intOf]; omega
        · have d1 : decide (a ≤ (s.steps : Int)) = false := by simpa using c1
          by_cases c2 : d < 1
          · clear c1
            go_wp2_with fail
            rw [← HWe.out]
            go_quiet (fail)
            go_wp2_with fail
            go_roundw
            case rel => exact HEND.out nq
            case measure => simp [intOf]; omega
          · have d2 : decide (d < 1) = false := by simpa using c2
            have c3 : 3 < d := by unfold okFate at hok; simp at hok; omega
            have d3 : decide (d > 3) = true := by simpa using c3
            clear c1 c2
            go_wp2_with fail
            rw [← HWe.out]
            go_quiet (fail)
            go_wp2_with fail
            go_roundw
            case rel => exact HEND.out nq
            case measure => simp [intOf]; omega
      | true =>
        have hb : (s.steps : Int) < a ∧ 1 ≤ d ∧ d ≤ 3 := by unfold okFate at hok; simp at hok; omega
        have d1 : decide (a ≤ (s.steps : Int)) = false := by simp; omega
        have d2 : decide (d < 1) = false := by simp; omega
        have d3 : decide (d > 3) = false := by simp; omega
        have HB := Lib.hid hb
        have HOK := Lib.hid hok
        clear hb hok
        go_wp2_with fail
        rw [← HWe.out]
        go_quiet (fail)
        go_wp2_with fail
        obtain ⟨W2, hmW, hP, hF, hM, hW⟩ : ∃ W2, Mod (fun k => k = p) w W2 ∧ Blk W2 p 135 #[.slice (some ⟨sb, 0, none⟩) s.safe.length s.safe.length, .map (some mb), .map (some w.heap.size), .int .i64 s.steps, .bool s.off] ∧
            Blk W2 wr.heap.size 73 #[.int .i64 a, .int .i64 d] ∧ MapI isIntV W2 w.heap.size k (fun j => (planG s.steps (fs.take k) j).map (Value.int .i64)) ∧ W2 = W.drewN nq :=
          ⟨_, HmW.out.drewN nq, HPW.out, HFW.out, HMW.out.mod ((Mod.refl (fun _ => False) W).drewN nq) id, rfl⟩
        rw [← hW]
        clear hW e0 e1 e2 HmW HPW HFW HMW HWe
        have e0 : W2.cell? ⟨p, 2, none⟩ = some (.map (some w.heap.size)) := hP.cell 2
        have e1 : W2.cell? ⟨wr.heap.size, 0, none⟩ = some (.int .i64 a) := hF.cell 0
        have e2 : W2.cell? ⟨wr.heap.size, 1, none⟩ = some (.int .i64 d) := hF.cell 1
        cases hg : planG s.steps (fs.take k) a with
        | some y =>
          have hlk : ∀ nq, (Instr.lookup 133 (.map (some w.heap.size)) (.int .i64 a) true).run Tryz.prog (W2.drewN nq) = .ok (.tuple #[.int .i64 y, .bool true]) (W2.drewN nq) := by
            intro nq
            have := ((hM.mod ((Mod.refl (fun _ => False) W2).drewN nq) id).look_ok Tryz.underlying133 (z := .int .i64 0) (by kernel_rfl) ⟨0, rfl⟩ HI64.out).1
            simpa [hg] using this
          have hst1 := planG_snoc_old (f := (a, d)) hg
          rw [← HTK.out] at hst1
          have HST := Lib.hid hst1
          have HmW := Lib.hid hmW
          have HPW := Lib.hid hP
          have HMW := Lib.hid hM
          clear hst1 hmW hP hF hM hg
          go_quiet (fail)
          go_wp2_with fail
          go_roundw
          case rel => exact ⟨k + 1, by omega, by go_num, by rw [HST.out]; exact (HMW.out.mod ((Mod.refl (fun _ => False) W2).drewN nq) id).mono (by omega), HPW.out.drewN nq, HmW.out.drewN nq⟩
          case measure => simp [intOf]; omega
        | none =>
          have hlk : ∀ nq, (Instr.lookup 133 (.map (some w.heap.size)) (.int .i64 a) true).run Tryz.prog (W2.drewN nq) = .ok (.tuple #[.int .i64 0, .bool false]) (W2.drewN nq) := by
            intro nq
            have := ((hM.mod ((Mod.refl (fun _ => False) W2).drewN nq) id).look_ok Tryz.underlying133 (z := .int .i64 0) (by kernel_rfl) ⟨0, rfl⟩ HI64.out).1
            simpa [hg] using this
          have hst1 := planG_snoc_new HOK.out hg
          rw [← HTK.out] at hst1
          have HST := Lib.hid hst1
          have HmW := Lib.hid hmW
          have HPW := Lib.hid hP
          have HFW := Lib.hid hF
          have HMW := Lib.hid hM
          clear hst1 hmW hP hF hM hg
          go_quiet (fail)
          go_wp2_with fail
          obtain ⟨W3, hmW, hP, hF, hM, hW⟩ : ∃ W3, Mod (fun k => k = p) w W3 ∧ Blk W3 p 135 #[.slice (some ⟨sb, 0, none⟩) s.safe.length s.safe.length, .map (some mb), .map (some w.heap.size), .int .i64 s.steps, .bool s.off] ∧
              Blk W3 wr.heap.size 73 #[.int .i64 a, .int .i64 d] ∧ MapI isIntV W3 w.heap.size k (fun j => (planG s.steps (fs.take k) j).map (Value.int .i64)) ∧ W3 = (W2.drewN nq).drew :=
            ⟨_, (HmW.out.drewN nq).drew, HPW.out, HFW.out, HMW.out.mod (((Mod.refl (fun _ => False) W2).drewN nq).drew) id, rfl⟩
          clear e0 e1 e2 HmW HPW HFW HMW hlk
          have e0 : W3.cell? ⟨p, 2, none⟩ = some (.map (some w.heap.size)) := hP.cell 2
          have e1 : W3.cell? ⟨wr.heap.size, 0, none⟩ = some (.int .i64 a) := hF.cell 0
          have e2 : W3.cell? ⟨wr.heap.size, 1, none⟩ = some (.int .i64 d) := hF.cell 1
          have HmW := Lib.hid hmW
          have HPW := Lib.hid hP
          have HMW := Lib.hid hM
          clear hmW hP hF hM
          refine still_tail_at 8 W3 hW (by kernel_rfl) (by kernel_rfl) ?_
          clear hW
          simp only [List.take_succ_cons, List.take_zero, List.drop_succ_cons, List.drop_zero]
          repeat still_step
          try refine wpStill_nil ?_
          go_wp2_with (first | (refine wpList_storeI_ rfl _ _ _ 133 rfl 3 Tryz.underlying133 w.heap.size k _ rfl HMW.out (by omega) a rfl HI64.out (.int .i64 d) rfl ⟨d, rfl⟩ ?_; intro W4 hM4 ht4; have HM4 := Lib.hid hM4; have HT4 := Lib.hid ht4; clear hM4 ht4))
          go_roundw
          case rel => exact ⟨k + 1, by omega, by go_num, HM4.out.cast (fun j => by unfold updI; rw [HST.out j]; split <;> rfl), HPW.out.mod (Mod.of_grown HT4.out.grown) (fun e => by injection e with e; omega), HmW.out.turned HT4.out (fun e => by omega)⟩
          case measure => simp [intOf]; omega
    · obtain rfl : k = fs.length := by omega
      have hM := HM.out
      rw [List.take_length] at hM
      have HM' := Lib.hid hM
      clear hM HM
      go_wp2_with fail
      go_end0
      have hmw := HW.out
      refine ⟨rfl, ⟨⟨H.out.ok.num, H.out.ok.safe, H.out.ok.pend⟩, HP.out, H.out.rows.mod hmw hne.1.symm, ⟨4096, H.out.pendN.mod hmw hne.2.1.symm⟩, .inr ⟨w.heap.size, fs.length, planG s.steps fs, rfl, by omega, HM'.out, fun k => planG_eq s fs k⟩⟩, hmw⟩

end Go.Proofs.YtbagmmncjmbboaaGreat
