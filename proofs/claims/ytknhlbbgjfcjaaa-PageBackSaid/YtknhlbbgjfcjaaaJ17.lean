/-
  The walk of skeinref08.Same.
-/
import Derived.Test.YtknhlbbgjfcjaaaJ16
namespace Go.Proofs.Ytknhlbbgjfcjaaa
open Go.RowKit Go.Maps
set_option linter.unusedVariables false

theorem same_b {w : World} {B : Nat} {u v : Value} {a b : List Nat} (hu : RB w B u a) (hv : RB w B v b) : Calls Try.prog 25 #[u, v] w fun e w' => e = .returned (.bool (sameB a b)) ∧ Below w.heap.size w w' :=
  (same_any u v a b w B hu hv).mono fun _ _ ⟨h1, n, h2⟩ => ⟨h1, by rw [h2]; exact below_drewN (Below.refl _ _) n⟩
/-- Have two lists the same texts? -/
def sameT (a b : List (List Nat)) : Bool := decide (a = b)
theorem sameT_len {a b : List (List Nat)} (h : ¬ a.length = b.length) : sameT a b = false := by
  unfold sameT; simp; intro e; exact h (by rw [e])
theorem sameT_at {a b : List (List Nat)} {k : Nat} (h1 : k < a.length) (h2 : k < b.length) (h : sameB a[k] b[k] = false) : sameT a b = false := by
  unfold sameT; simp; intro e; subst e; simp [sameB] at h
theorem sameT_all {a b : List (List Nat)} (hl : a.length = b.length) (h : ∀ k (h1 : k < a.length) (h2 : k < b.length), sameB a[k] b[k] = true) : sameT a b = true := by
  unfold sameT; simp
  exact List.ext_getElem hl fun k h1 h2 => by have := h k h1 h2; simpa [sameB] using this
set_option maxRecDepth 100000 in
set_option maxHeartbeats 1000000 in
theorem same8_any (w : World) (Q Q' : Nat → Prop) (u v : Value) (La Lb : List (List Nat)) (ys zs : List Sl) (hu : Txt w Q u La ys) (hv : Txt w Q' v Lb zs) :
    Calls Try.prog 31 #[u, v] w fun e w' => e = .returned (.bool (sameT La Lb)) ∧ Below w.heap.size w w' := by
  obtain ⟨A, c, rfl⟩ := hu.open_
  obtain ⟨A', c', rfl⟩ := hv.open_
  have hla : La.length ≤ 140737488355328 := by have := hu.rk.len; rw [hu.len] at this; omega
  have hlb : Lb.length ≤ 140737488355328 := by have := hv.rk.len; rw [hv.len] at this; omega
  have HU := Lib.hid hu
  have HV := Lib.hid hv
  clear hu hv
  by_cases hl : La.length = Lb.length
  · obtain ⟨n, hn⟩ : ∃ n, n = La.length := ⟨_, rfl⟩
    have hn2 : n = Lb.length := by omega
    have HN := Lib.hid hn
    have HN2 := Lib.hid hn2
    rw [← hn] at HU hla ⊢
    rw [← hn2] at HV ⊢
    clear hl hn hn2 hlb
    go_enter Try.func31, Try.ntmps31
    go_wp2_with fail
    go_loopw [5] (fun i wr => ∃ k : Nat, k ≤ n ∧ i = .int .i64 k ∧ Hid (∀ j (h1 : j < La.length) (h2 : j < Lb.length), j < k → sameB La[j] Lb[j] = true) ∧ Hid (Below w.heap.size w wr)) (fun i wr => n - (intOf i).toNat)
    case atStart => exact ⟨0, Nat.zero_le _, rfl, Lib.hid (fun j _ _ h => by omega), Below.refl _ _⟩
    case round =>
      obtain ⟨k, hk, rfl, HS, HB⟩ := hrel
      by_cases hlt : k < n
      · have hka : k < La.length := by have := HN.out; omega
        have hkb : k < Lb.length := by have := HN2.out; omega
        obtain ⟨b, o, c1, e1, hb, y, hy, hcy, hry⟩ := HU.out.cell hka
        obtain ⟨b', o', c1', e1', hb', y', hy', hcy', hry'⟩ := HV.out.cell hkb
        injection e1 with e1 e2 e3
        injection e1' with e1' e2' e3'
        subst e1 e3 e1' e3'
        obtain ⟨y0, y1, y2⟩ := y
        obtain ⟨z0, z1, z2⟩ := y'
        have z : wr.cell? ⟨b, o + k, none⟩ = some (.slice y0 y1 y2) := (HB.out.cell (p := ⟨b, o + k, none⟩) hb).trans hcy
        have z' : wr.cell? ⟨b', o' + k, none⟩ = some (.slice z0 z1 z2) := (HB.out.cell (p := ⟨b', o' + k, none⟩) hb').trans hcy'
        have hr1 := hry.below HB.out
        have hr2 := hry'.below HB.out
        obtain ⟨s, hs⟩ : ∃ s, s = sameB La[k] Lb[k] := ⟨_, rfl⟩
        have HR1 := Lib.hid hr1
        have HR2 := Lib.hid hr2
        have HSS := Lib.hid hs
        clear hy hy' hcy hcy' hry hry' hr1 hr2 hs e2 e2'
        go_wp2_with fail
        obtain ⟨wd, hwd, HR1d, HR2d, HBd, zd, zd'⟩ : ∃ wd, wd = wr.drew ∧ Hid (RB wd w.heap.size (.slice y0 y1 y2) La[k]) ∧ Hid (RB wd w.heap.size (.slice z0 z1 z2) Lb[k]) ∧ Hid (Below w.heap.size w wd) ∧ wd.cell? ⟨b, o + k, none⟩ = some (.slice y0 y1 y2) ∧ wd.cell? ⟨b', o' + k, none⟩ = some (.slice z0 z1 z2) := ⟨_, rfl, HR1.out.drew, HR2.out.drew, HB.out.drew, z, z'⟩
        refine still_tail_at 8 wd hwd (by kernel_rfl) (by kernel_rfl) ?_
        clear hwd HR1 HR2 HB z z'
        simp only [List.take_succ_cons, List.take_zero, List.drop_succ_cons, List.drop_zero]
        iterate 8 still_step
        refine wpStill_nil ?_
        go_wp2_with fail
        refine (same_b HR1d.out HR2d.out).mono ?_
        rw [← HSS.out]
        rintro e5 w5 ⟨rfl, hb5⟩
        have HB5 := Lib.hid (HBd.out.trans (hb5.mono HBd.out.size))
        clear hb5 zd zd'
        cases s with
        | true =>
          go_wp2_with fail
          go_roundw
          case rel =>
            refine ⟨k + 1, by omega, by go_num, Lib.hid (fun j h1 h2 hj => ?_), HB5⟩
            by_cases hjk : j < k
            · exact HS.out j h1 h2 hjk
            · obtain rfl : j = k := by omega
              exact HSS.out.symm
          case measure => simp [intOf]; omega
        | false =>
          go_wp2_with fail
          go_ret
          exact ⟨by rw [sameT_at hka hkb HSS.out.symm]; rfl, HB5.out⟩
      · obtain rfl : k = n := by omega
        go_wp2_with fail
        go_ret
        exact ⟨by rw [sameT_all (by rw [← HN.out, ← HN2.out]) (fun j h1 h2 => HS.out j h1 h2 (by have := HN.out; omega))]; rfl, HB.out⟩
  · have hs := sameT_len hl
    have HS := Lib.hid hs
    have hl2 : ¬ (La.length : Int) = (Lb.length : Int) := by omega
    clear hs
    go_enter Try.func31, Try.ntmps31
    go_wp2_with fail
    go_ret
    exact ⟨by rw [HS.out]; rfl, Below.refl _ _⟩
end Go.Proofs.Ytknhlbbgjfcjaaa
