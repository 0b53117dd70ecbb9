/-
  The walks of Try and Abort.
-/
import Derived.Test.YtgahkloldpjnkaaMV9
namespace Go.Proofs.Ytgahkloldpjnkaa
open Go.RowKit Go.Maps
set_option linter.unusedVariables false

theorem Abort_none (w : World) (g lb cb : Nat) (bl : Int → Nat) (M : MV) (h : MvAt w g lb cb bl M) (n : Int) (hn : I64 n) (hl : M.live? n = none) :
    Calls Try.prog 22 #[.pointer (some ⟨g, 0, none⟩), .int .i64 n] w fun e w' => e = .returned (.int .i64 141) ∧ Below w.heap.size w w' := by
  have a2 : w.cell? ⟨g, 2, none⟩ = some (.map (some lb)) := h.blk.cell 2
  have hM := h.live
  have hv : ((M.live? n).map fun x => txV x.start (bl n)).getD (.agg #[.int .i64 0, .map none]) = .agg #[.int .i64 0, .map none] := by rw [hl]; rfl
  have hs : ((M.live? n).map fun x => txV x.start (bl n)).isSome = false := by rw [hl]; rfl
  have HM := Lib.hid hM
  have HV := Lib.hid hv
  have HS := Lib.hid hs
  clear h hM hv hs hl
  go_enter Try.func22, Try.ntmps22
  go_wp2_with (at_lookup; refine wpList_lookG (X := kI) rfl _ _ _ rfl _ Try.underlying57 (zeroT _) pT_zero lb 8 rfl HM.out n rfl hn _ _ HV.out HS.out ?_)
  go_ret
  exact ⟨rfl, (Below.refl _ _).alloc (Nat.le_refl _) _⟩

theorem MvAt.alloc {w : World} {g lb cb : Nat} {bl : Int → Nat} {M : MV} (h : MvAt w g lb cb bl M) (o : Obj) : MvAt (w.alloc o) g lb cb bl M := h.below ((Below.refl _ _).alloc (Nat.le_refl _) _)

theorem Abort_some (w : World) (g lb cb : Nat) (bl : Int → Nat) (M : MV) (h : MvAt w g lb cb bl M) (n : Int) (hn : I64 n) (x : Tx) (hl : M.live? n = some x) :
    Calls Try.prog 22 #[.pointer (some ⟨g, 0, none⟩), .int .i64 n] w fun e w' => e = .returned (.int .i64 0) ∧ MvAt w' g lb cb bl (M.over n) ∧ Mod (OwnM g lb cb bl M) w w' ∧ ∀ k, OwnM g lb cb bl (M.over n) k → OwnM g lb cb bl M k := by
  have a2 : w.cell? ⟨g, 2, none⟩ = some (.map (some lb)) := h.blk.cell 2
  have hM := h.live
  have hv : ((M.live? n).map fun x => txV x.start (bl n)).getD (.agg #[.int .i64 0, .map none]) = .agg #[.int .i64 x.start, .map (some (bl n))] := by rw [hl]; rfl
  have hs : ((M.live? n).map fun x => txV x.start (bl n)).isSome = true := by rw [hl]; rfl
  have HM := Lib.hid hM
  have HV := Lib.hid hv
  have HS := Lib.hid hs
  have H := Lib.hid h
  have HL := Lib.hid hl
  clear h hM hv hs hl
  go_enter Try.func22, Try.ntmps22
  go_wp2_with (first
    | (at_lookup; refine wpList_lookG (X := kI) rfl _ _ _ rfl _ Try.underlying57 (zeroT _) pT_zero lb 8 rfl HM.out n rfl hn _ _ HV.out HS.out ?_)
    | (go_at_call 33; refine (end_any _ g lb cb bl M (H.out.alloc _) n hn x HL.out).mono ?_; rintro e w' ⟨rfl, h1, h2, h3⟩; have H1 := Lib.hid h1; have H2 := Lib.hid h2; have H3 := Lib.hid h3; clear h1 h2 h3))
  go_ret
  exact ⟨rfl, H1.out, (Mod.of_below ((Below.refl _ _).alloc (Nat.le_refl _) _) _).trans' H2.out, H3.out⟩

/-! ### A list's elements, each once -/
def nub : List Rf → List Rf
  | [] => []
  | x :: r => if x ∈ nub r then nub r else x :: nub r

theorem mem_nub (r : Rf) : ∀ l : List Rf, r ∈ nub l ↔ r ∈ l
  | [] => by simp [nub]
  | x :: l => by
    have := mem_nub r l
    unfold nub
    split
    · rename_i h
      rw [this, List.mem_cons]
      constructor
      · exact .inr
      · rintro (rfl | h')
        · exact this.1 h
        · exact h'
    · rw [List.mem_cons, List.mem_cons, this]

theorem nodup_nub : ∀ l : List Rf, (nub l).Nodup
  | [] => by simp [nub]
  | x :: l => by
    unfold nub
    split
    · exact nodup_nub l
    · rename_i h; exact List.nodup_cons.2 ⟨h, nodup_nub l⟩

theorem nub_nil {l : List Rf} : nub l = [] ↔ l = [] := by
  constructor
  · intro h
    cases l with
    | nil => rfl
    | cons x r =>
      have : x ∈ nub (x :: r) := (mem_nub x _).2 (by simp)
      rw [h] at this; cases this
  · rintro rfl; rfl

theorem nub_in {M : MV} (hok : M.Ok) {n : Int} {x : Tx} (hl : M.live? n = some x) (r : Rf) : r ∈ nub x.refs ↔ I64 r.snd ∧ (if r ∈ x.refs then some (Value.agg #[]) else none).isSome = true := by
  rw [mem_nub]
  constructor
  · intro h; exact ⟨hok.refs x (live_mem hl) r h, by rw [if_pos h]; rfl⟩
  · rintro ⟨_, h⟩
    split at h
    · assumption
    · cases h

/-! ### In conflict or not -/

theorem clash_yes {M : MV} {cm : Rf → Option Int} (hco : ComOk M cm) {x : Tx} {r : Rf} {t : Int} (hr : r ∈ x.refs) (ht : cm r = some t) (hlt : x.start < t) : M.clash x = true := by
  obtain ⟨y, hy, e1, e2⟩ := hco.from_ r t ht
  unfold MV.clash
  refine List.any_eq_true.2 ⟨y, hy, ?_⟩
  rw [Bool.and_eq_true, decide_eq_true_eq, e1]
  exact ⟨hlt, List.any_eq_true.2 ⟨r, e2, by simpa using hr⟩⟩

theorem clash_no {M : MV} {cm : Rf → Option Int} (hco : ComOk M cm) {n : Int} {x : Tx} (hl : M.live? n = some x) (h : ∀ r ∈ x.refs, ∀ t, cm r = some t → t ≤ x.start) : M.clash x = false := by
  rw [Bool.eq_false_iff]
  intro hc
  unfold MV.clash at hc
  obtain ⟨y, hy, hc⟩ := List.any_eq_true.1 hc
  rw [Bool.and_eq_true, decide_eq_true_eq] at hc
  obtain ⟨h1, h2⟩ := hc
  obtain ⟨r, hr, h3⟩ := List.any_eq_true.1 h2
  rw [decide_eq_true_eq] at h3
  obtain ⟨t, ht, hle⟩ := hco.there y hy r hr (by have := hor_le hl; omega)
  have := h r h3 t ht
  omega

/-- What Try answers. -/
def TryOut (w : World) (M : MV) (n : Int) (e : Ending) (w' : World) : Prop := e = .returned (.int .i64 (M.tryE n)) ∧ Below w.heap.size w w'

theorem Try_none (w : World) (g lb cb : Nat) (bl : Int → Nat) (M : MV) (h : MvAt w g lb cb bl M) (n : Int) (hn : I64 n) (hl : M.live? n = none) :
    Calls Try.prog 24 #[.pointer (some ⟨g, 0, none⟩), .int .i64 n] w (TryOut w M n) := by
  have a2 : w.cell? ⟨g, 2, none⟩ = some (.map (some lb)) := h.blk.cell 2
  have hM := h.live
  have hv : ((M.live? n).map fun x => txV x.start (bl n)).getD (.agg #[.int .i64 0, .map none]) = .agg #[.int .i64 0, .map none] := by rw [hl]; rfl
  have hs : ((M.live? n).map fun x => txV x.start (bl n)).isSome = false := by rw [hl]; rfl
  have he : M.tryE n = 141 := by unfold MV.tryE; rw [hl]
  have HE := Lib.hid he
  have HM := Lib.hid hM
  have HV := Lib.hid hv
  have HS := Lib.hid hs
  clear h hM hv hs hl he
  go_enter Try.func24, Try.ntmps24
  go_wp2_with (at_lookup; refine wpList_lookG (X := kI) rfl _ _ _ rfl _ Try.underlying57 (zeroT _) pT_zero lb 8 rfl HM.out n rfl hn _ _ HV.out HS.out ?_)
  go_ret
  exact ⟨by rw [HE.out]; rfl, (Below.refl _ _).alloc (Nat.le_refl _) _⟩

theorem below_drewD {B : Nat} {w w' : World} (h : Below B w w') : Below B w w'.drew := ⟨h.os, h.tape, h.output, h.size, h.block⟩

theorem invPU (v : Value) (h : pU v) : ∃ u : Unit, v = .agg #[] := h

theorem pI_int (t : Int) : pI (.int .i64 t) := ⟨t, rfl⟩

set_option maxRecDepth 100000 in
set_option maxHeartbeats 1000000 in
theorem Try_some (w : World) (g lb cb : Nat) (bl : Int → Nat) (M : MV) (h : MvAt w g lb cb bl M) (n : Int) (hn : I64 n) (x : Tx) (hl : M.live? n = some x) :
    Calls Try.prog 24 #[.pointer (some ⟨g, 0, none⟩), .int .i64 n] w (TryOut w M n) := by
  have a0 : w.cell? ⟨g, 0, none⟩ = some (.int .i64 M.last) := h.blk.cell 0
  have a2 : w.cell? ⟨g, 2, none⟩ = some (.map (some lb)) := h.blk.cell 2
  have a3 : w.cell? ⟨g, 3, none⟩ = some (.map (some cb)) := h.blk.cell 3
  have hM := h.live
  have hgl := h.blk.lt
  have hv : ((M.live? n).map fun x => txV x.start (bl n)).getD (.agg #[.int .i64 0, .map none]) = .agg #[.int .i64 x.start, .map (some (bl n))] := by rw [hl]; rfl
  have hs : ((M.live? n).map fun x => txV x.start (bl n)).isSome = true := by rw [hl]; rfl
  have hb1 : Blk (w.alloc (.cells #[.int .i64 x.start, .map (some (bl n))] 80)) w.heap.size 80 #[.int .i64 x.start, .map (some (bl n))] := Blk.new _ _ _
  have hset := (h.sets n x hl).mod (w' := w.alloc (.cells #[.int .i64 x.start, .map (some (bl n))] 80)) ((Mod.refl (fun _ => False) _).alloc _) id
  have hsl := (h.sets n x hl).lt
  obtain ⟨cm, hcm, hco⟩ := h.com
  have hcl := hcm.lt
  have HB1 := Lib.hid hb1
  have HSET := Lib.hid hset
  have HM := Lib.hid hM
  have HV := Lib.hid hv
  have HS := Lib.hid hs
  have H := Lib.hid h
  have HL := Lib.hid hl
  have HCM := Lib.hid hcm
  have HCO := Lib.hid hco
  clear h hM hv hs hl hb1 hset hcm hco
  go_enter Try.func24, Try.ntmps24
  go_wp2_with (first
    | (at_lookup; refine wpList_lookG (X := kI) rfl _ _ _ rfl _ Try.underlying57 (zeroT _) pT_zero lb 8 rfl HM.out n rfl hn _ _ HV.out HS.out ?_)
    | (at_range; refine wpList_rangeG (X := kR) rfl _ _ rfl _ Try.underlying78 (bl n) _ rfl HSET.out ?_; intro w3 cnt3 hrg3 hcl3 hg3 hs3))
  have hz1 : (w.alloc (.cells #[.int .i64 x.start, .map (some (bl n))] 80)).heap.size = w.heap.size + 1 := by simp
  rw [hz1] at hrg3 hs3
  have HR3 := Lib.hid hrg3
  have hw1 : Below w.heap.size w (w.alloc (.cells #[.int .i64 x.start, .map (some (bl n))] 80)) := (Below.refl _ _).alloc (Nat.le_refl _) _
  have HW3 : Hid (Below w.heap.size w w3) := Lib.hid (hw1.grown hg3 (by omega) (by simp))
  have HB3 : Hid (Blk w3 w.heap.size 80 #[.int .i64 x.start, .map (some (bl n))]) := Lib.hid (HB1.out.grown hg3 (by simp))
  have hz3 : w.heap.size + 1 < w3.heap.size := by omega
  have HZ1 := Lib.hid hz1
  clear hrg3 hg3 hcl3 hw1 hz1 hs3
  go_loopw [24] (fun _ wr => ∃ (left : Rf → Bool) (cnt : Nat), Hid (RangeG kR pU wr (bl n) (w.heap.size + 1) x.refs.length (fun r : Rf => if r ∈ x.refs then some (.agg #[]) else none) left cnt) ∧ Hid (∀ r ∈ x.refs, left r = false → ∀ t, cm r = some t → t ≤ x.start) ∧ Hid (Blk wr w.heap.size 80 #[.int .i64 x.start, .map (some (bl n))]) ∧ Hid (Below w.heap.size w wr) ∧ w.heap.size + 1 < wr.heap.size) (fun _ wr => wr.rangeLeft (bl n) (w.heap.size + 1))
  case atStart => exact ⟨_, cnt3, HR3, Lib.hid (fun r hr hl => by rw [if_pos hr] at hl; cases hl), HB3, HW3, hz3⟩
  case round =>
    obtain ⟨left, cnt, HR, HQ, HB, HW, hzr⟩ := hrel
    have z0 : wr.cell? ⟨w.heap.size, 0, none⟩ = some (.int .i64 x.start) := HB.out.cell 0
    have z1 : wr.cell? ⟨w.heap.size, 1, none⟩ = some (.map (some (bl n))) := HB.out.cell 1
    have y0 : wr.cell? ⟨g, 0, none⟩ = some (.int .i64 M.last) := (HW.out.cell (p := ⟨g, 0, none⟩) hgl).trans a0
    have y3 : wr.cell? ⟨g, 3, none⟩ = some (.map (some cb)) := (HW.out.cell (p := ⟨g, 3, none⟩) hgl).trans a3
    go_wp2_with (at_next; refine wpList_nextG (X := kR) rfl _ rfl (fun _ : Unit => .agg #[]) invPU (bl n) (w.heap.size + 1) _ left cnt rfl HR.out ?_ ?_)
    · intro hdone
      have hq : M.clash x = false := clash_no HCO.out HL.out fun r hr t ht => HQ.out r hr (hdone r (H.out.ok.refs x (live_mem HL.out) r hr).1 (H.out.ok.refs x (live_mem HL.out) r hr).2) t ht
      clear hdone
      obtain ⟨N, hN⟩ : ∃ N, N = (nub x.refs).length := ⟨_, rfl⟩
      have HN := Lib.hid hN.symm
      have hNI := nub_in H.out.ok HL.out
      have HNI := Lib.hid hNI
      by_cases hn0 : x.refs = []
      · have h0 : N = 0 := by rw [hN, hn0]; rfl
        have he : M.tryE n = 0 := by unfold MV.tryE; rw [HL.out]; simp [hq, hn0]
        have HE := Lib.hid he
        clear hN hq hn0 hNI he
        subst h0
        go_wp2_with (at_len; refine wpList_lenG (X := kR) rfl _ _ rfl _ Try.underlying78 (bl n) _ rfl HR.out.map (nub x.refs) (nodup_nub _) (fun r => HNI.out r) 0 HN.out ?_)
        go_ret
        exact ⟨by rw [HE.out]; rfl, HW.out⟩
      · have h0 : 0 < N := by
          rcases Nat.eq_zero_or_pos N with e | e
          · exact absurd (nub_nil.1 (List.eq_nil_of_length_eq_zero (by omega))) hn0
          · exact e
        by_cases hmax : M.last = 1099511627776
        · have he : M.tryE n = 4 := by unfold MV.tryE; rw [HL.out]; simp [hq, hn0, hmax]
          have HE := Lib.hid he
          rw [hmax] at y0
          clear hN hq hn0 hNI he hmax
          go_wp2_with (at_len; refine wpList_lenG (X := kR) rfl _ _ rfl _ Try.underlying78 (bl n) _ rfl HR.out.map (nub x.refs) (nodup_nub _) (fun r => HNI.out r) N HN.out ?_)
          go_ret
          exact ⟨by rw [HE.out]; rfl, HW.out⟩
        · have he : M.tryE n = 0 := by unfold MV.tryE; rw [HL.out]; simp [hq, hmax]
          have HE := Lib.hid he
          have hmb : (M.last == 1099511627776) = false := by simpa using hmax
          clear hN hq hn0 hNI he hmax
          go_wp2_with (at_len; refine wpList_lenG (X := kR) rfl _ _ rfl _ Try.underlying78 (bl n) _ rfl HR.out.map (nub x.refs) (nodup_nub _) (fun r => HNI.out r) N HN.out ?_)
          go_ret
          exact ⟨by rw [HE.out]; rfl, HW.out⟩
    · intro r w4 cnt4 hnx hrg4 hlt4 hg4 hs4 hen
      have hrr : r ∈ x.refs := by
        have := hnx.val
        split at this
        · assumption
        · cases this
      have HRR := Lib.hid hrr
      have hi64 : I64 r.snd := hnx.ok
      have HI := Lib.hid hi64
      have HR4 := Lib.hid hrg4
      have HW4 : Hid (Below w.heap.size w w4) := Lib.hid (HW.out.grown hg4 HW.out.size (fun k e => by injection e with e; omega))
      have HB4 : Hid (Blk w4 w.heap.size 80 #[.int .i64 x.start, .map (some (bl n))]) := Lib.hid (HB.out.grown hg4 (by simp))
      have hz4 : w.heap.size + 1 < w4.heap.size := by omega
      clear hnx hrg4 hrr hi64 hs4 z0 z1 y0 y3
      obtain ⟨ed, id⟩ := r
      simp only [valR] at hen ⊢
      obtain ⟨W, hWe⟩ : ∃ W, W = w4.alloc (.cells #[.bool ed, .int .i64 id] 62) := ⟨_, rfl⟩
      have hbW : Below w.heap.size w W := by rw [hWe]; exact HW4.out.alloc (by omega) _
      have hb0 : Blk W.drew w.heap.size 80 #[.int .i64 x.start, .map (some (bl n))] := by rw [hWe]; exact (HB4.out.alloc _).drew
      have x0 : W.drew.cell? ⟨w.heap.size, 0, none⟩ = some (.int .i64 x.start) := hb0.cell 0
      have x3 : W.drew.cell? ⟨g, 3, none⟩ = some (.map (some cb)) := (hbW.cell (p := ⟨g, 3, none⟩) hgl).trans a3
      have hbr : Blk W.drew w4.heap.size 62 #[.bool ed, .int .i64 id] := by rw [hWe]; exact Blk.new _ _ _
      have e0 : W.drew.cell? ⟨w4.heap.size, 0, none⟩ = some (.bool ed) := hbr.cell 0
      have e1 : W.drew.cell? ⟨w4.heap.size, 1, none⟩ = some (.int .i64 id) := hbr.cell 1
      have hrW : RangeG kR pU W.drew (bl n) (w.heap.size + 1) x.refs.length (fun r : Rf => if r ∈ x.refs then some (.agg #[]) else none) (fun j => left j && !decide (j = ⟨ed, id⟩)) cnt4 := by
        rw [hWe]; exact HR4.out.mod (((Mod.refl (fun _ => False) _).alloc _).drew) (fun h => h) (fun h => h)
      have hcW : MapG kR pI W.drew cb M.spent (fun r : Rf => (cm r).map (.int .i64)) := HCM.out.mod (S := fun _ => False) ((Mod.of_below hbW _).drew) (fun h => h)
      obtain ⟨hlook, _⟩ := hcW.look_ok (X := kR) Try.underlying58 (zero2 _) (pI_int 0) (a := (⟨ed, id⟩ : Rf)) HI.out
      have HRW := Lib.hid hrW
      have HBW := Lib.hid hbW
      have HB0 := Lib.hid hb0
      have hzW : w.heap.size + 1 < W.heap.size := by rw [hWe]; simp; omega
      have HWe := Lib.hid hWe
      clear hWe hbr hrW hcW hbW hb0 a0 a2 a3
      cases hc : cm ⟨ed, id⟩ with
      | none =>
        rw [hc] at hlook
        have hl' : (Instr.lookup 58 (.map (some cb)) (.agg #[.bool ed, .int .i64 id]) true).run Try.prog W.drew = .ok (.tuple #[.int .i64 0, .bool false]) W.drew := hlook
        have HC := Lib.hid hc
        clear hlook hc
        go_wp2_with fail
        rw [← HWe.out]
        go_region
        go_wp2
        go_roundw
        case rel =>
          refine ⟨_, cnt4, HRW, Lib.hid (fun q hq hl t ht => ?_), HB0, Lib.hid (below_drewD HBW.out), hzW⟩
          simp only [Bool.and_eq_false_iff, Bool.not_eq_false', decide_eq_true_eq] at hl
          rcases hl with hl | rfl
          · exact HQ.out q hq hl t ht
          · rw [HC.out] at ht; cases ht
        case measure => rw [HRW.out.left_eq, HR.out.left_eq]; exact hlt4
      | some t =>
        rw [hc] at hlook
        have hl' : (Instr.lookup 58 (.map (some cb)) (.agg #[.bool ed, .int .i64 id]) true).run Try.prog W.drew = .ok (.tuple #[.int .i64 t, .bool true]) W.drew := hlook
        have HC := Lib.hid hc
        clear hlook hc
        by_cases hlt : x.start < t
        · have he : M.tryE n = 140 := by unfold MV.tryE; rw [HL.out]; simp [clash_yes HCO.out HRR.out HC.out hlt]
          have HE := Lib.hid he
          clear he
          go_wp2_with fail
          rw [← HWe.out]
          go_region
          go_wp2
          go_ret
          exact ⟨by rw [HE.out]; rfl, below_drewD HBW.out⟩
        · go_wp2_with fail
          rw [← HWe.out]
          go_region
          go_wp2
          go_roundw
          case rel =>
            refine ⟨_, cnt4, HRW, Lib.hid (fun q hq hl u hu => ?_), HB0, Lib.hid (below_drewD HBW.out), hzW⟩
            simp only [Bool.and_eq_false_iff, Bool.not_eq_false', decide_eq_true_eq] at hl
            rcases hl with hl | rfl
            · exact HQ.out q hq hl u hu
            · rw [HC.out] at hu; injection hu with hu; omega
          case measure => rw [HRW.out.left_eq, HR.out.left_eq]; exact hlt4

end Go.Proofs.Ytgahkloldpjnkaa
