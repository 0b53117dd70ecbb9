/-
  The walks of skeinref07's full and New (as far as how many there are).
-/
import Derived.Test.YtbagmmncjmbboaaGreatF0
namespace Go.Proofs.YtbagmmncjmbboaaGreat
open Go.RowKit Go.Maps
set_option linter.unusedVariables false

def slN : Value → Nat
  | .slice _ n _ => n
  | _ => 0

theorem slN_slice (A : Option Addr) (n c : Nat) : slN (.slice A n c) = n := rfl

set_option maxHeartbeats 1000000 in
theorem full_any (v : Value) (l : List Nat) (w : World) (hv : RB w w.heap.size v l) :
    Calls Tryz.prog 47 #[v] w fun e w' => ∃ v', e = .returned v' ∧ OB w' w.heap.size v' (pad (l.take 512)) ∧ Below w.heap.size w w' := by
  obtain ⟨A, c, rfl, ha1, ha2, ha3, HA⟩ := hv.open_
  have HV := Lib.hid hv
  obtain ⟨r, hr⟩ : ∃ r, r = l.take 512 := ⟨_, rfl⟩
  rw [← hr]
  have hrl : r.length ≤ 512 := by rw [hr, List.length_take]; omega
  have hpr : piece l 0 512 = r := by rw [hr]; rfl
  have HPR := Lib.hid hpr
  clear hv hr hpr
  go_enter Tryz.func47, Tryz.ntmps47
  go_wp2_with fail
  refine (piece_head _ l 512 w HV.out (by omega)).mono ?_
  rintro e w1 ⟨v1, rfl, ho1, hb1⟩
  rw [HPR.out] at ho1
  have HO1 := Lib.hid ho1
  have HB1 := Lib.hid hb1
  clear ho1 hb1
  go_wp2_with fail
  go_loopw [3] (fun x wr => ∃ m : Nat, r.length + m ≤ 512 ∧ slN x = r.length + m ∧ Hid (OB wr w.heap.size x (r ++ List.replicate m 0)) ∧ Hid (Below w.heap.size w wr)) (fun x wr => 512 - slN x)
  case atStart =>
    refine ⟨0, by omega, ?_, by rw [List.replicate_zero, List.append_nil]; exact HO1, HB1⟩
    obtain ⟨A1, c1, rfl, _, _, _, _⟩ := HO1.out.rbn.open_
    rfl
  case round =>
    obtain ⟨m, hm, hsl, HO, HB⟩ := hrel
    obtain ⟨A1, c1, rfl, _, _, _, _⟩ := HO.out.rbn.open_
    have hq : (r ++ List.replicate m 0).length = r.length + m := by simp
    obtain ⟨q, hq0⟩ : ∃ q, q = r.length + m := ⟨_, rfl⟩
    rw [hq, ← hq0] at HO ⊢
    rw [← hq0] at hq
    have HQ := Lib.hid hq
    clear hsl hq
    by_cases hlt : q < 512
    · have hcl : (q : Int) < 512 := by omega
      have HQ0 := Lib.hid hq0
      clear hq0
      go_wp2_with (at_builtin; go_must (refine wpList_app1 (w0 := w) rfl (.tmp 9) (.tmp 10) rfl w.heap.size _ _ rfl HO.out HB.out (Nat.le_refl _) _ 0 rfl (by omega) rfl (by rw [HQ.out]; omega) ?_); intro v' w1 ho1 hb1 _; have HO1 := Lib.hid ho1; have HB1 := Lib.hid hb1; clear ho1 hb1)
      have hrr : (r ++ List.replicate m 0) ++ [0] = r ++ List.replicate (m + 1) 0 := by rw [List.append_assoc, ← List.replicate_succ']
      rw [hrr] at HO1
      obtain ⟨A2, c2, rfl, _, _, _, _⟩ := HO1.out.rbn.open_
      have hq2 : (r ++ List.replicate (m + 1) 0).length = r.length + (m + 1) := by simp
      rw [hq2] at HO1 ⊢
      go_roundw
      case rel => exact ⟨m + 1, by have := HQ0.out; omega, rfl, HO1, HB1⟩
      case measure => have := HQ0.out; simp only [slN]; omega
    · have hm2 : m = 512 - r.length := by omega
      have hcl : ¬ (q : Int) < 512 := by omega
      have hpd : r ++ List.replicate m 0 = pad r := by unfold pad; rw [hm2]
      rw [hpd] at HO
      clear hm2 hpd hq0
      go_wp2_with fail
      go_ret
      exact ⟨_, rfl, HO.out, HB.out⟩

theorem full_spot (w : World) (hv : RB w w.heap.size (.slice none 0 0) []) : Calls Tryz.prog 47 #[.slice none 0 0] w fun e w' => ∃ x : Option Addr × Nat × Nat, e = .returned (.slice x.1 x.2.1 x.2.2) ∧ OB w' w.heap.size (.slice x.1 x.2.1 x.2.2) sec0 ∧ Below w.heap.size w w' := by
  refine (full_any _ [] w hv).mono ?_
  rintro e w' ⟨v, rfl, ho, hb⟩
  obtain ⟨A, c, e, _, _, _, _⟩ := ho.rbn.open_
  have hp : pad (([] : List Nat).take 512) = sec0 := rfl
  rw [hp] at ho e
  exact ⟨(A, sec0.length, c), by rw [e], by rw [← e]; exact ho, hb⟩

/-- A spot by its safe slice alone. -/
def encS (x : Option Addr × Nat × Nat) : List Value := [.slice x.1 x.2.1 x.2.2, .slice none 0 0, .bool false]

theorem encS_len (x) : (encS x).length = 3 := rfl

theorem encS_one (x) : ∀ u ∈ encS x, u.oneCell' = true := by intro u hu; simp [encS] at hu; rcases hu with rfl | rfl | rfl <;> rfl

theorem OK.mod {α : Type} {enc : α → List Value} {k : Nat} {E : TypeId} {S : Nat → Prop} {w w' : World} {B : Nat} {v : Value} {xs : List α} (h : OK enc k E w B v xs) (hm : Mod S w w') (hn : ∀ b, v.ownBlock = some b → ¬ S b) : OK enc k E w' B v xs := by
  refine ⟨h.1, h.2.1, ?_⟩
  rcases h.2.2 with h4 | ⟨g, cap, cur, hv, hg, hh, r⟩
  · exact .inl h4
  · exact .inr ⟨g, cap, cur, hv, hg, (hm.block g (Array.getElem?_eq_some_iff.1 hh).1 (hn g (by rw [hv]; rfl))).trans hh, r⟩

theorem ret_disk7 {fn : Func} {q : Tmp} {a : Act} {w : World} {post : Ending → World → Prop} {b : Nat} {v0 v1 v2 v3 : Value} (hr : fn.results = #[.cell q 40]) (hp : a.tmps.getD q undef = .pointer (some ⟨b, 0, none⟩))
    (hB : Blk w b 40 #[v0, v1, v2, v3]) (hd : a.defers = []) (h : post (.returned (.agg #[v0, v1, v2, v3])) w) : bodyPost Tryz.prog fn post .ret a w := by
  refine bodyPost_ret (v := .agg #[v0, v1, v2, v3]) ?_ hd h
  have hp' : a.tmps[q]?.getD undef = .pointer (some ⟨b, 0, none⟩) := by simpa using hp
  have e0 : w.cell? ⟨b, 0, none⟩ = some v0 := hB.cell 0
  have e1 : w.cell? ⟨b, 1, none⟩ = some v1 := hB.cell 1
  have e2 : w.cell? ⟨b, 2, none⟩ = some v2 := hB.cell 2
  have e3 : w.cell? ⟨b, 3, none⟩ = some v3 := hB.cell 3
  simp only [results, hr]
  go_simp

theorem boxes2 (w : World) (a b : Array Value) (ta tb : TypeId) : Blk ((w.alloc (.cells a ta)).alloc (.cells b tb)) (w.heap.size + 1) tb b := by
  have := Blk.new (w.alloc (.cells a ta)) tb b
  rw [size_alloc_] at this
  exact this
end Go.Proofs.YtbagmmncjmbboaaGreat
