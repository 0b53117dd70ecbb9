/-
  The walks of the disk's has, Safe's closure, Read.
-/
import Derived.Test.YtbagmmncjmbboaaGreatD2
import Derived.StillTailTactics
namespace Go.Proofs.YtbagmmncjmbboaaGreat
open Go.RowKit Go.Maps
set_option linter.unusedVariables false

theorem ret_secs {fn : Func} {q : Tmp} {a : Act} {w : World} {post : Ending → World → Prop} {b : Nat} {l : List Nat} (hr : fn.results = #[.cell q 129]) (hp : a.tmps.getD q undef = .pointer (some ⟨b, 0, none⟩))
    (hS : Secs w b [l]) (hd : a.defers = []) (h : post (.returned (secV l)) w) : bodyPost Tryz.prog fn post .ret a w := by
  refine bodyPost_ret (v := secV l) ?_ hd h
  have hp' : a.tmps[q]?.getD undef = .pointer (some ⟨b, 0, none⟩) := by simpa using hp
  have hl := hS.load (i := 0) (l := l) rfl
  rw [Nat.zero_mul] at hl
  simp only [results, hr]
  simp [hp', asAddr, hl]

theorem zero_sec : isSecV secZ := isSecV_mk sec0_ok

theorem i64_of {i : Int} (h1 : -9223372036854775808 ≤ i) (h2 : i ≤ 9223372036854775807) : I64 i := ⟨h1, h2⟩

set_option maxRecDepth 100000 in
theorem has_any (w : World) (p sb mb : Nat) (pl : Option Nat) (s : DS) (h : DiskAt w p sb mb pl s) (i : Nat) (hi : i < s.safe.length) :
    Calls Tryz.prog 45 #[.pointer (some ⟨p, 0, none⟩), .int .i64 (i : Int)] w fun e w' => e = .returned (secV (s.has i)) ∧ Below w.heap.size w w' := by
  have hn := h.ok.num
  have a1 := h.blk.cell 1
  have hpl := h.lt.1
  obtain ⟨n, hM⟩ := h.pend
  have hM0 := hM.mod ((Mod.refl (fun _ => False) w).alloc (.cells (flat [sec0]) 129)) id
  have HM := Lib.hid hM0
  have H := Lib.hid h
  have tok1 : True := trivial
  have hA : Secs ((w.alloc (.cells (flat [sec0]) 129)).alloc (.cells (flat [sec0]) 129)) w.heap.size [sec0] := (Secs.new w).alloc _
  have hB : Secs ((w.alloc (.cells (flat [sec0]) 129)).alloc (.cells (flat [sec0]) 129)) (w.heap.size + 1) [sec0] := by
    have := Secs.new (w.alloc (.cells (flat [sec0]) 129))
    rw [size_alloc_] at this
    exact this
  have hW0 : Mod (fun k => w.heap.size ≤ k) w ((w.alloc (.cells (flat [sec0]) 129)).alloc (.cells (flat [sec0]) 129)) := ((Mod.refl _ _).alloc _).alloc _
  have HA := Lib.hid hA
  have HB := Lib.hid hB
  have HW0 := Lib.hid hW0
  clear hM hM0 h hA hB hW0
  cases hp : s.pend (i : Int) with
  | some l =>
    have hl : SecOk l := (H.out.ok.pend _ l hp).2.2
    have hhas : s.has i = l := by unfold DS.has; rw [hp]; rfl
    have e1 : ((s.pend (i : Int)).map secV).getD secZ = secV l := by rw [hp]; rfl
    have e2 : ((s.pend (i : Int)).map secV).isSome = true := by rw [hp]; rfl
    have E1 := Lib.hid e1
    have E2 := Lib.hid e2
    have HH := Lib.hid hhas
    clear e1 e2 hp hhas
    go_enter Tryz.func45, Tryz.ntmps45
    go_wp2_with (first
      | (refine wpList_allocS_ rfl rfl _ (by first | exact size_alloc_ _ _ | exact rfl) ?_)
      | (refine wpList_lookI_ rfl _ _ 132 rfl 129 Tryz.underlying132 (zero94 _) zero_sec mb n _ rfl HM.out (i : Int) rfl (by constructor <;> omega) _ _ E1.out E2.out ?_)
      | (have _t := tok1; refine wpList_storeS_ rfl _ _ rfl (w.heap.size + 1) [sec0] 0 l rfl rfl HB.out (by simp) hl ?_; intro W1 hS1 hm1 hz1; have HS1 := Lib.hid hS1; have HM1 := Lib.hid hm1; have HZ1 := Lib.hid hz1; clear tok1 hS1 hm1 hz1)
      | (refine wpList_loadS_ rfl _ rfl (w.heap.size + 1) [l] 0 l rfl HS1.out rfl ?_)
      | (refine wpList_storeS_ rfl _ _ rfl w.heap.size [sec0] 0 l rfl rfl (HA.out.mod HM1.out (by simp)) (by simp) hl ?_; intro W2 hS2 hm2 hz2; have HS2 := Lib.hid hS2; have HM2 := Lib.hid hm2; clear hS2 hm2 hz2))
    refine ret_secs (b := w.heap.size) (l := l) rfl rfl HS2.out rfl ⟨by rw [HH.out], ?_⟩
    exact ((HW0.out.trans HM1.out (fun k h1 h2 => by omega)).trans HM2.out (fun k h1 h2 => by omega)).below (Nat.le_refl _) (fun k h => h)
  | none =>
    have hhas : s.has i = s.safe.getD i [] := by unfold DS.has; rw [hp]; rfl
    have hl : SecOk (s.safe.getD i []) := H.out.ok.at_ hi
    have e1 : ((s.pend (i : Int)).map secV).getD secZ = secV sec0 := by rw [hp]; rfl
    have e2 : ((s.pend (i : Int)).map secV).isSome = false := by rw [hp]; rfl
    have E1 := Lib.hid e1
    have E2 := Lib.hid e2
    have HH := Lib.hid hhas
    have a0 := H.out.blk.cell 0
    have hpl2 := H.out.lt.2.1
    have hsi : s.safe[i]? = some (s.safe.getD i []) := by simp [List.getD, hi]
    have HSI := Lib.hid hsi
    clear e1 e2 hp hhas hsi
    generalize s.safe.getD i [] = l at hl HH HSI
    go_enter Tryz.func45, Tryz.ntmps45
    go_wp2_with (first
      | (refine wpList_allocS_ rfl rfl _ (by first | exact size_alloc_ _ _ | exact rfl) ?_)
      | (refine wpList_lookI_ rfl _ _ 132 rfl 129 Tryz.underlying132 (zero94 _) zero_sec mb n _ rfl HM.out (i : Int) rfl (by constructor <;> omega) _ _ E1.out E2.out ?_)
      | (have _t := tok1; refine wpList_storeS_ rfl _ _ rfl (w.heap.size + 1) [sec0] 0 sec0 rfl rfl HB.out (by simp) sec0_ok ?_; intro W1 hS1 hm1 hz1; have HM1 := Lib.hid hm1; have HZ1 := Lib.hid hz1; have HMW := Lib.hid (HW0.out.trans hm1 (fun k h1 h2 => by omega)); have a0 : W1.cell? ⟨p, 0, none⟩ = _ := (HMW.out.cell hpl (by omega) 0).trans a0; clear tok1 hS1 hm1 hz1)
      | (refine wpList_loadS_ rfl _ rfl sb s.safe i l rfl (H.out.rows.mod HMW.out (by omega)) HSI.out ?_)
      | (refine wpList_storeS_ rfl _ _ rfl w.heap.size [sec0] 0 l rfl rfl (HA.out.mod HM1.out (by simp)) (by simp) hl ?_; intro W2 hS2 hm2 hz2; have HS2 := Lib.hid hS2; have HM2 := Lib.hid hm2; clear hS2 hm2 hz2))
    refine ret_secs (b := w.heap.size) (l := l) rfl rfl HS2.out rfl ⟨by rw [HH.out], ?_⟩
    exact (HMW.out.trans HM2.out (fun k h1 h2 => by omega)).below (Nat.le_refl _) (fun k h => h)

/-- A whole sector as a slice. -/
theorem Secs.rb {w : World} {b B : Nat} {l : List Nat} (h : Secs w b [l]) (hB : b < B) : RB w B (.slice (some ⟨b, 0, none⟩) 512 512) l := by
  have hl := h.ok l (by simp)
  refine ⟨hl.2, by rw [hl.1]; omega, some ⟨b, 0, none⟩, 512, by rw [hl.1], by rw [hl.1]; exact Nat.le_refl _, by omega, .inr ⟨b, 0, rfl, hB, fun j x hx => ?_⟩⟩
  have := h.range (i := 0) (l := l) rfl j (bcell x) (by unfold secC; rw [List.getElem?_map, hx]; rfl)
  rw [Nat.zero_mul] at this
  exact this

/-- What Read answers. -/
def DS.readE (s : DS) (i : Int) : Int := if s.off = true then 70 else if s.isSec i = false then 1 else 0

def ReadOut (w : World) (s : DS) (i : Int) (e : Ending) (w' : World) : Prop := ∃ v, e = .returned (.tuple #[v, .int .i64 (s.readE i)]) ∧ Below w.heap.size w w' ∧
  ((s.readE i = 0 ∧ ∃ b, v = .slice (some ⟨b, 0, none⟩) 512 512 ∧ w.heap.size ≤ b ∧ Secs w' b [s.has i.toNat]) ∨ s.readE i ≠ 0 ∧ v = .slice none 0 0)

set_option maxRecDepth 100000 in
theorem Read_any (w : World) (p sb mb : Nat) (pl : Option Nat) (s : DS) (h : DiskAt w p sb mb pl s) (i : Int) :
    Calls Tryz.prog 28 #[.pointer (some ⟨p, 0, none⟩), .int .i64 i] w (ReadOut w s i) := by
  have a4 := h.blk.cell 4
  have H := Lib.hid h
  clear h
  cases hoff : s.off with
  | true =>
    rw [hoff] at a4
    have hr : s.readE i = 70 := by simp [DS.readE, hoff]
    have HR := Lib.hid hr
    clear hr hoff
    go_enter Tryz.func28, Tryz.ntmps28
    go_wp2_with fail
    go_ret2
    exact ⟨.slice none 0 0, by rw [HR.out]; rfl, Below.refl _ _, .inr ⟨by rw [HR.out]; decide, rfl⟩⟩
  | false =>
    rw [hoff] at a4
    cases hi : s.isSec i with
    | false =>
      have hr : s.readE i = 1 := by simp [DS.readE, hoff, hi]
      have HR := Lib.hid hr
      clear hr hoff
      have HI := Lib.hid hi
      clear hi
      go_enter Tryz.func28, Tryz.ntmps28
      go_wp2_with (first | (go_at_call 71; refine (isSector_any _ p sb mb pl s H.out i).mono ?_; rw [HI.out]; rintro e w' ⟨rfl, rfl⟩))
      go_ret2
      exact ⟨.slice none 0 0, by rw [HR.out]; rfl, Below.refl _ _, .inr ⟨by rw [HR.out]; decide, rfl⟩⟩
    | true =>
      have hb : 0 ≤ i ∧ i < s.safe.length := by simpa [DS.isSec] using hi
      obtain ⟨k, rfl⟩ : ∃ k : Nat, i = (k : Int) := ⟨i.toNat, by omega⟩
      have hk : k < s.safe.length := by omega
      have hks : SecOk (s.has k) := H.out.ok.has hk
      have hr : s.readE (k : Int) = 0 := by simp [DS.readE, hoff, hi]
      have HR := Lib.hid hr
      have HI := Lib.hid hi
      clear hi hb hr hoff
      go_enter Tryz.func28, Tryz.ntmps28
      go_wp2_with (first
        | (go_at_call 71; refine (isSector_any _ p sb mb pl s H.out (k : Int)).mono ?_; rw [HI.out]; rintro e w' ⟨rfl, rfl⟩)
        | (go_at_call 45; refine (has_any _ p sb mb pl s H.out k hk).mono ?_; rintro e W1 ⟨rfl, hb1⟩; have HB1 := Lib.hid hb1; clear hb1)
        | (refine wpList_allocS_ rfl rfl _ rfl ?_)
        | (refine wpList_storeS_ rfl _ _ rfl W1.heap.size [sec0] 0 (s.has k) rfl rfl (Secs.new W1) (by simp) hks ?_; intro W2 hS2 hm2 hz2; have HS2 := Lib.hid hS2; have HM2 := Lib.hid hm2; clear hS2 hm2 hz2))
      go_ret2
      refine ⟨.slice (some ⟨W1.heap.size, 0, none⟩) 512 512, by rw [HR.out]; rfl, ?_, .inl ⟨HR.out, ?_⟩⟩
      · exact (((Mod.of_below HB1.out (fun k => w.heap.size ≤ k)).alloc _).trans HM2.out (fun k h1 h2 => by have := HB1.out.size; omega)).below (Nat.le_refl _) (fun k h => h)
      · rw [Int.toNat_natCast]
        exact ⟨W1.heap.size, rfl, HB1.out.size, HS2.out⟩

end Go.Proofs.YtbagmmncjmbboaaGreat
