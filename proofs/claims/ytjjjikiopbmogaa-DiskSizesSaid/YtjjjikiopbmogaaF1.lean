/-
  The walks of skeinref07's full and New (as far as how many there are).
-/
import Derived.Test.YtjjjikiopbmogaaF0
namespace Go.Proofs.Ytjjjikiopbmogaa
open Go.RowKit Go.Maps
set_option linter.unusedVariables false

def slN : Value → Nat
  | .slice _ n _ => n
  | _ => 0
theorem slN_slice (A : Option Addr) (n c : Nat) : slN (.slice A n c) = n := rfl

set_option maxHeartbeats 1000000 in
theorem full_any (v : Value) (l : List Nat) (w : World) (hv : RB w w.heap.size v l) :
    Calls Try.prog 57 #[v] w fun e w' => ∃ v', e = .returned v' ∧ OB w' w.heap.size v' (pad (l.take 512)) ∧ Below w.heap.size w w' := by
  obtain ⟨A, c, rfl, ha1, ha2, ha3, HA⟩ := hv.open_
  have HV := Lib.hid hv
  obtain ⟨r, hr⟩ : ∃ r, r = l.take 512 := ⟨_, rfl⟩
  rw [← hr]
  have hrl : r.length ≤ 512 := by rw [hr, List.length_take]; omega
  have hpr : piece l 0 512 = r := by rw [hr]; rfl
  have HPR := Lib.hid hpr
  clear hv hr hpr
  go_enter Try.func57, Try.ntmps57
  go_wp2_with fail
  refine (piece_head _ l 512 w HV.out (by omega)).mono ?_
  rintro e w1 ⟨v1, rfl, ho1, hb1⟩
  rw [HPR.out] at ho1
  have HO1 := Lib.hid ho1
  have HB1 := Lib.hid hb1
  clear ho1 hb1
  go_wp2_with fail
  go_loopw [3] (fun x wr => ∃ m : Nat, r.length + m ≤ 512 ∧ slN x = r.length + m ∧ Hid (OB wr w.heap.size x (r ++ List.replicate m 0)) ∧ Hid (Below w.heap.size w wr)) (fun x wr => 512 - slN x)
  case atStart =>
    refine ⟨0, by omega, ?_, by rw [List.replicate_zero, List.append_nil]; exact HO1, HB1⟩
    obtain ⟨A1, c1, rfl, _, _, _, _⟩ := HO1.out.rbn.open_
    rfl
  case round =>
    obtain ⟨m, hm, hsl, HO, HB⟩ := hrel
    obtain ⟨A1, c1, rfl, _, _, _, _⟩ := HO.out.rbn.open_
    have hq : (r ++ List.replicate m 0).length = r.length + m := by simp
    obtain ⟨q, hq0⟩ : ∃ q, q = r.length + m := ⟨_, rfl⟩
    rw [hq, ← hq0] at HO ⊢
    rw [← hq0] at hq
    have HQ := Lib.hid hq
    clear hsl hq
    by_cases hlt : q < 512
    · have hcl : (q : Int) < 512 := by omega
      have HQ0 := Lib.hid hq0
      clear hq0
      go_wp2_with (at_builtin; go_must (refine wpList_app1 (w0 := w) rfl (.tmp 9) (.tmp 10) rfl w.heap.size _ _ rfl HO.out HB.out (Nat.le_refl _) _ 0 rfl (by omega) rfl (by rw [HQ.out]; omega) ?_); intro v' w1 ho1 hb1 _; have HO1 := Lib.hid ho1; have HB1 := Lib.hid hb1; clear ho1 hb1)
      have hrr : (r ++ List.replicate m 0) ++ [0] = r ++ List.replicate (m + 1) 0 := by rw [List.append_assoc, ← List.replicate_succ']
      rw [hrr] at HO1
      obtain ⟨A2, c2, rfl, _, _, _, _⟩ := HO1.out.rbn.open_
      have hq2 : (r ++ List.replicate (m + 1) 0).length = r.length + (m + 1) := by simp
      rw [hq2] at HO1 ⊢
      go_roundw
      case rel => exact ⟨m + 1, by have := HQ0.out; omega, rfl, HO1, HB1⟩
      case measure => have := HQ0.out; simp only [slN]; omega
    · have hm2 : m = 512 - r.length := by omega
      have hcl : ¬ (q : Int) < 512 := by omega
      have hpd : r ++ List.replicate m 0 = pad r := by unfold pad; rw [hm2]
      rw [hpd] at HO
      clear hm2 hpd hq0
      go_wp2_with fail
      go_ret
      exact ⟨_, rfl, HO.out, HB.out⟩

theorem full_spot (w : World) (hv : RB w w.heap.size (.slice none 0 0) []) : Calls Try.prog 57 #[.slice none 0 0] w fun e w' => ∃ x : Option Addr × Nat × Nat, e = .returned (.slice x.1 x.2.1 x.2.2) ∧ OB w' w.heap.size (.slice x.1 x.2.1 x.2.2) sec0 ∧ Below w.heap.size w w' := by
  refine (full_any _ [] w hv).mono ?_
  rintro e w' ⟨v, rfl, ho, hb⟩
  obtain ⟨A, c, e, _, _, _, _⟩ := ho.rbn.open_
  have hp : pad (([] : List Nat).take 512) = sec0 := rfl
  rw [hp] at ho e
  exact ⟨(A, sec0.length, c), by rw [e], by rw [← e]; exact ho, hb⟩

/-- A spot by its safe slice alone. -/
def encS (x : Option Addr × Nat × Nat) : List Value := [.slice x.1 x.2.1 x.2.2, .slice none 0 0, .bool false]
theorem encS_len (x) : (encS x).length = 3 := rfl
theorem encS_one (x) : ∀ u ∈ encS x, u.oneCell' = true := by intro u hu; simp [encS] at hu; rcases hu with rfl | rfl | rfl <;> rfl

theorem OK.mod {α : Type} {enc : α → List Value} {k : Nat} {E : TypeId} {S : Nat → Prop} {w w' : World} {B : Nat} {v : Value} {xs : List α} (h : OK enc k E w B v xs) (hm : Mod S w w') (hn : ∀ b, v.ownBlock = some b → ¬ S b) : OK enc k E w' B v xs := by
  refine ⟨h.1, h.2.1, ?_⟩
  rcases h.2.2 with h4 | ⟨g, cap, cur, hv, hg, hh, r⟩
  · exact .inl h4
  · exact .inr ⟨g, cap, cur, hv, hg, (hm.block g (Array.getElem?_eq_some_iff.1 hh).1 (hn g (by rw [hv]; rfl))).trans hh, r⟩
theorem ret_disk7 {fn : Func} {q : Tmp} {a : Act} {w : World} {post : Ending → World → Prop} {b : Nat} {v0 v1 v2 v3 : Value} (hr : fn.results = #[.cell q 33]) (hp : a.tmps.getD q undef = .pointer (some ⟨b, 0, none⟩))
    (hB : Blk w b 33 #[v0, v1, v2, v3]) (hd : a.defers = []) (h : post (.returned (.agg #[v0, v1, v2, v3])) w) : bodyPost Try.prog fn post .ret a w := by
  refine bodyPost_ret (v := .agg #[v0, v1, v2, v3]) ?_ hd h
  have hp' : a.tmps[q]?.getD undef = .pointer (some ⟨b, 0, none⟩) := by simpa using hp
  have e0 : w.cell? ⟨b, 0, none⟩ = some v0 := hB.cell 0
  have e1 : w.cell? ⟨b, 1, none⟩ = some v1 := hB.cell 1
  have e2 : w.cell? ⟨b, 2, none⟩ = some v2 := hB.cell 2
  have e3 : w.cell? ⟨b, 3, none⟩ = some v3 := hB.cell 3
  simp only [results, hr]
  go_simp
theorem boxes2 (w : World) (a b : Array Value) (ta tb : TypeId) : Blk ((w.alloc (.cells a ta)).alloc (.cells b tb)) (w.heap.size + 1) tb b := by
  have := Blk.new (w.alloc (.cells a ta)) tb b
  rw [size_alloc_] at this
  exact this

set_option maxRecDepth 100000 in
set_option maxHeartbeats 2000000 in
theorem refNew_any (n : Int) (w : World) :
    Calls Try.prog 22 #[.int .i64 n] w fun e w' => ∃ v xs, e = .returned (.agg #[v, .slice none 0 0, .int .i64 0, .bool false]) ∧ OK encS 3 96 w' w.heap.size v xs ∧ xs.length = (min (max n 0) 4096).toNat ∧ Below w.heap.size w w' := by
  go_enter Try.func22, Try.ntmps22
  by_cases hn : 4096 < n
  · obtain ⟨N, hN⟩ : ∃ N : Nat, N = (min (max n 0) 4096).toNat := ⟨_, rfl⟩
    rw [← hN]
    have HN := Lib.hid hN
    clear hN
    go_wp2_with fail
    go_loopw [4] (fun i wr => ∃ (k : Nat) (v : Value) (xs : List (Option Addr × Nat × Nat)), i = .int .i64 k ∧ k ≤ N ∧ xs.length = k ∧ Hid (Blk wr (w.heap.size + 1) 33 #[v, .slice none 0 0, .int .i64 0, .bool false]) ∧ Hid (Blk wr w.heap.size 33 #[.slice none 0 0, .slice none 0 0, .int .i64 0, .bool false]) ∧ Hid (OK encS 3 96 wr (w.heap.size + 2) v xs) ∧ Hid (Below w.heap.size w wr)) (fun i wr => N - (intOf i).toNat)
    case atStart => exact ⟨0, .slice none 0 0, [], rfl, Nat.zero_le _, rfl, boxes2 w _ _ _ _, (Blk.new w _ _).alloc _, OK.nil _ _, ((Below.refl _ _).alloc (Nat.le_refl _) _).alloc (by simp) _⟩
    case round =>
      obtain ⟨k, v, xs, rfl, hk, hxl, HBL, HRL, HO, HB⟩ := hrel
      have hwz := HBL.out.lt
      by_cases hlt : k < N
      · have hlt2 : (k : Int) < 4096 := by have := HN.out; omega
        have c0 : wr.cell? ⟨w.heap.size + 1, 0, none⟩ = some v := HBL.out.cell 0
        go_wp2_with fail
        go_region_law (first
            | (go_simp; go_at_call 57; refine (full_spot _ (RB.nil _ _)).mono ?_; rintro e W1 ⟨x1, rfl, ho1, hb1⟩; have HB1 : Hid (Below wr.heap.size wr W1) := ⟨hb1.os, hb1.tape, hb1.output, hb1.size, hb1.block⟩; have k1 : W1.cell? ⟨w.heap.size + 1, 0, none⟩ = some v := (hb1.cell (p := ⟨w.heap.size + 1, 0, none⟩) hwz).trans c0; have HZ1 : Hid (w.heap.size + 1 < W1.heap.size) := Nat.lt_of_lt_of_le hwz hb1.size; have k1a : (W1.alloc (.cells #[.slice x1.1 x1.2.1 x1.2.2, .slice none 0 0, .bool false] 96)).cell? ⟨w.heap.size + 1, 0, none⟩ = some v := (((Below.refl _ W1).alloc (Nat.le_refl _) _).cell (p := ⟨w.heap.size + 1, 0, none⟩) HZ1.out).trans k1; clear ho1 hb1)
            | (refine step_app1 etSpots encS_len encS_one rfl (.tmp 14) (.tmp 17) rfl rfl ((HO.out.below HB1.out).alloc _) W1.heap.size rfl (y := x1) (by intro j u hu; rw [(Blk.new W1 _ _).cell j]; simpa [encS] using hu) (by omega) (by have := HZ1.out; simp; omega) ?_; intro v' W2 h1 h2 h3; obtain ⟨A2, c2, rfl, _, _, _, _⟩ := (h1.rk encS_len (Nat.le_refl _)).open_; have HO2 := Lib.hid h1; have HB2 : Hid (Below (w.heap.size + 2) W1 W2) := ((Below.refl _ _).alloc (by have := HZ1.out; omega) _).grown h2 (by have := HZ1.out; simp; omega) (fun q hq => (HO.out.lt q hq).1); have hk2 : W2.cell? ⟨w.heap.size + 1, 0, none⟩ = some v := (HB2.out.cell (p := ⟨w.heap.size + 1, 0, none⟩) (by show w.heap.size + 1 < _; omega)).trans k1; have hf2 : W2.frozen? ⟨w.heap.size + 1, 0, none⟩ = false := ((HBL.out.below (HB1.out) HBL.out.lt).below HB2.out (by omega)).frozen 0; clear h1 h2 h3))
        all_goals (
          have hw1 := HB1.out.size
          have hw2 := HB2.out.size
          have hwr := HB.out.size
          have hw12 : Below w.heap.size w W2 := (HB.out.trans (HB1.out.mono hwr)).trans (HB2.out.mono (by omega))
          have hbl2 := (HBL.out.below HB1.out HBL.out.lt).below HB2.out (by omega)
          have hst : W2.grownBy (W2.setCell ⟨w.heap.size + 1, 0, none⟩ (.slice A2 (k + 1) c2)) (some (w.heap.size + 1)) := ⟨rfl, rfl, rfl, by simp, fun q _ hq => heap_setCell_other _ ⟨w.heap.size + 1, 0, none⟩ q _ (fun e => hq (by simp [e]))⟩
          have ho3 := HO2.out.kept hst (.inr (fun e => by have := HO2.out.lt _ e; omega))
          have hbl3 := hbl2.set_ 0 (.slice A2 (k + 1) c2)
          have HRL3 := Lib.hid (((HRL.out.below HB1.out HRL.out.lt).below HB2.out (by omega)).far (p := ⟨w.heap.size + 1, 0, none⟩) (show w.heap.size ≠ w.heap.size + 1 by omega) (.slice A2 (k + 1) c2))
          have hb3 : Below w.heap.size w (W2.setCell ⟨w.heap.size + 1, 0, none⟩ (.slice A2 (k + 1) c2)) := ((Mod.of_below hw12 (fun q => w.heap.size ≤ q)).setCell (p := ⟨w.heap.size + 1, 0, none⟩) (fun h => by dsimp only; omega) _).below (Nat.le_refl _) (fun _ h => h)
          have HO3 := Lib.hid ho3
          have HBL3 := Lib.hid hbl3
          have HB3 := Lib.hid hb3
          have hxl3 : (xs ++ [x1]).length = k + 1 := by simp [hxl]
          rw [hxl3] at HO3
          clear hw1 hw2 hwr hw12 hbl2 hst ho3 hbl3 hb3 hk2 hf2 k1 k1a c0
          try go_frame
          go_wp2
          go_roundw
          case rel => exact ⟨k + 1, _, xs ++ [x1], by go_num, by omega, hxl3, HBL3, HRL3, HO3, HB3⟩
          case measure => simp [intOf]; omega)
      · obtain rfl : k = N := by omega
        have hlt2 : ¬ (k : Int) < 4096 := by have := HN.out; omega
        have d0 : wr.cell? ⟨w.heap.size + 1, 0, none⟩ = some v := HBL.out.cell 0
        have d1 : wr.cell? ⟨w.heap.size + 1, 1, none⟩ = some (.slice none 0 0) := HBL.out.cell 1
        have d2 : wr.cell? ⟨w.heap.size + 1, 2, none⟩ = some (.int .i64 0) := HBL.out.cell 2
        have d3 : wr.cell? ⟨w.heap.size + 1, 3, none⟩ = some (.bool false) := HBL.out.cell 3
        have r0 : wr.cell? ⟨w.heap.size, 0, none⟩ = some (.slice none 0 0) := HRL.out.cell 0
        have r1 : wr.cell? ⟨w.heap.size, 1, none⟩ = some (.slice none 0 0) := HRL.out.cell 1
        have r2 : wr.cell? ⟨w.heap.size, 2, none⟩ = some (.int .i64 0) := HRL.out.cell 2
        have r3 : wr.cell? ⟨w.heap.size, 3, none⟩ = some (.bool false) := HRL.out.cell 3
        have f0 : ∀ i, wr.frozen? ⟨w.heap.size, i, none⟩ = false := HRL.out.frozen
        obtain ⟨AV, cV, rfl, _, _, _, _⟩ := (HO.out.rk encS_len (Nat.le_refl _)).open_
        go_wp2_with fail
        refine ret_disk7 (b := w.heap.size) rfl rfl ((((HRL.out.set_ 0 (.slice AV k cV)).set_ 1 (.slice none 0 0)).set_ 2 (.int .i64 0)).set_ 3 (.bool false)) rfl ?_
        have hm : Mod (fun q => q = w.heap.size) wr _ := ((((Mod.refl (fun q => q = w.heap.size) wr).setCell (p := ⟨w.heap.size, 0, none⟩) (fun _ => rfl) (.slice AV k cV)).setCell (p := ⟨w.heap.size, 1, none⟩) (fun _ => rfl) (.slice none 0 0)).setCell (p := ⟨w.heap.size, 2, none⟩) (fun _ => rfl) (.int .i64 0)).setCell (p := ⟨w.heap.size, 3, none⟩) (fun _ => rfl) (.bool false)
        have hok := HO.out.mod hm (fun q hq e => Nat.lt_irrefl q (by have h1 := (HO.out.lt q hq).1; have e : q = w.heap.size := e; omega))
        rw [hxl] at hok
        refine ⟨_, rfl, xs, OK.base hok (Nat.le_add_right _ 2), hxl, ?_⟩
        exact ((Mod.of_below HB.out (fun q => w.heap.size ≤ q)).trans hm (fun q _ e => by have e : q = w.heap.size := e; omega)).below (Nat.le_refl _) (fun _ h => h)
  · obtain ⟨N, hN⟩ : ∃ N : Nat, N = (min (max n 0) 4096).toNat := ⟨_, rfl⟩
    rw [← hN]
    have HN := Lib.hid hN
    clear hN
    go_wp2_with fail
    go_loopw [4] (fun i wr => ∃ (k : Nat) (v : Value) (xs : List (Option Addr × Nat × Nat)), i = .int .i64 k ∧ k ≤ N ∧ xs.length = k ∧ Hid (Blk wr (w.heap.size + 1) 33 #[v, .slice none 0 0, .int .i64 0, .bool false]) ∧ Hid (Blk wr w.heap.size 33 #[.slice none 0 0, .slice none 0 0, .int .i64 0, .bool false]) ∧ Hid (OK encS 3 96 wr (w.heap.size + 2) v xs) ∧ Hid (Below w.heap.size w wr)) (fun i wr => N - (intOf i).toNat)
    case atStart => exact ⟨0, .slice none 0 0, [], rfl, Nat.zero_le _, rfl, boxes2 w _ _ _ _, (Blk.new w _ _).alloc _, OK.nil _ _, ((Below.refl _ _).alloc (Nat.le_refl _) _).alloc (by simp) _⟩
    case round =>
      obtain ⟨k, v, xs, rfl, hk, hxl, HBL, HRL, HO, HB⟩ := hrel
      have hwz := HBL.out.lt
      by_cases hlt : k < N
      · have hlt2 : (k : Int) < n := by have := HN.out; omega
        have c0 : wr.cell? ⟨w.heap.size + 1, 0, none⟩ = some v := HBL.out.cell 0
        go_wp2_with fail
        go_region_law (first
            | (go_simp; go_at_call 57; refine (full_spot _ (RB.nil _ _)).mono ?_; rintro e W1 ⟨x1, rfl, ho1, hb1⟩; have HB1 : Hid (Below wr.heap.size wr W1) := ⟨hb1.os, hb1.tape, hb1.output, hb1.size, hb1.block⟩; have k1 : W1.cell? ⟨w.heap.size + 1, 0, none⟩ = some v := (hb1.cell (p := ⟨w.heap.size + 1, 0, none⟩) hwz).trans c0; have HZ1 : Hid (w.heap.size + 1 < W1.heap.size) := Nat.lt_of_lt_of_le hwz hb1.size; have k1a : (W1.alloc (.cells #[.slice x1.1 x1.2.1 x1.2.2, .slice none 0 0, .bool false] 96)).cell? ⟨w.heap.size + 1, 0, none⟩ = some v := (((Below.refl _ W1).alloc (Nat.le_refl _) _).cell (p := ⟨w.heap.size + 1, 0, none⟩) HZ1.out).trans k1; clear ho1 hb1)
            | (refine step_app1 etSpots encS_len encS_one rfl (.tmp 14) (.tmp 17) rfl rfl ((HO.out.below HB1.out).alloc _) W1.heap.size rfl (y := x1) (by intro j u hu; rw [(Blk.new W1 _ _).cell j]; simpa [encS] using hu) (by omega) (by have := HZ1.out; simp; omega) ?_; intro v' W2 h1 h2 h3; obtain ⟨A2, c2, rfl, _, _, _, _⟩ := (h1.rk encS_len (Nat.le_refl _)).open_; have HO2 := Lib.hid h1; have HB2 : Hid (Below (w.heap.size + 2) W1 W2) := ((Below.refl _ _).alloc (by have := HZ1.out; omega) _).grown h2 (by have := HZ1.out; simp; omega) (fun q hq => (HO.out.lt q hq).1); have hk2 : W2.cell? ⟨w.heap.size + 1, 0, none⟩ = some v := (HB2.out.cell (p := ⟨w.heap.size + 1, 0, none⟩) (by show w.heap.size + 1 < _; omega)).trans k1; have hf2 : W2.frozen? ⟨w.heap.size + 1, 0, none⟩ = false := ((HBL.out.below (HB1.out) HBL.out.lt).below HB2.out (by omega)).frozen 0; clear h1 h2 h3))
        all_goals (
          have hw1 := HB1.out.size
          have hw2 := HB2.out.size
          have hwr := HB.out.size
          have hw12 : Below w.heap.size w W2 := (HB.out.trans (HB1.out.mono hwr)).trans (HB2.out.mono (by omega))
          have hbl2 := (HBL.out.below HB1.out HBL.out.lt).below HB2.out (by omega)
          have hst : W2.grownBy (W2.setCell ⟨w.heap.size + 1, 0, none⟩ (.slice A2 (k + 1) c2)) (some (w.heap.size + 1)) := ⟨rfl, rfl, rfl, by simp, fun q _ hq => heap_setCell_other _ ⟨w.heap.size + 1, 0, none⟩ q _ (fun e => hq (by simp [e]))⟩
          have ho3 := HO2.out.kept hst (.inr (fun e => by have := HO2.out.lt _ e; omega))
          have hbl3 := hbl2.set_ 0 (.slice A2 (k + 1) c2)
          have HRL3 := Lib.hid (((HRL.out.below HB1.out HRL.out.lt).below HB2.out (by omega)).far (p := ⟨w.heap.size + 1, 0, none⟩) (show w.heap.size ≠ w.heap.size + 1 by omega) (.slice A2 (k + 1) c2))
          have hb3 : Below w.heap.size w (W2.setCell ⟨w.heap.size + 1, 0, none⟩ (.slice A2 (k + 1) c2)) := ((Mod.of_below hw12 (fun q => w.heap.size ≤ q)).setCell (p := ⟨w.heap.size + 1, 0, none⟩) (fun h => by dsimp only; omega) _).below (Nat.le_refl _) (fun _ h => h)
          have HO3 := Lib.hid ho3
          have HBL3 := Lib.hid hbl3
          have HB3 := Lib.hid hb3
          have hxl3 : (xs ++ [x1]).length = k + 1 := by simp [hxl]
          rw [hxl3] at HO3
          clear hw1 hw2 hwr hw12 hbl2 hst ho3 hbl3 hb3 hk2 hf2 k1 k1a c0
          try go_frame
          go_wp2
          go_roundw
          case rel => exact ⟨k + 1, _, xs ++ [x1], by go_num, by omega, hxl3, HBL3, HRL3, HO3, HB3⟩
          case measure => simp [intOf]; omega)
      · obtain rfl : k = N := by omega
        have hlt2 : ¬ (k : Int) < n := by have := HN.out; omega
        have d0 : wr.cell? ⟨w.heap.size + 1, 0, none⟩ = some v := HBL.out.cell 0
        have d1 : wr.cell? ⟨w.heap.size + 1, 1, none⟩ = some (.slice none 0 0) := HBL.out.cell 1
        have d2 : wr.cell? ⟨w.heap.size + 1, 2, none⟩ = some (.int .i64 0) := HBL.out.cell 2
        have d3 : wr.cell? ⟨w.heap.size + 1, 3, none⟩ = some (.bool false) := HBL.out.cell 3
        have r0 : wr.cell? ⟨w.heap.size, 0, none⟩ = some (.slice none 0 0) := HRL.out.cell 0
        have r1 : wr.cell? ⟨w.heap.size, 1, none⟩ = some (.slice none 0 0) := HRL.out.cell 1
        have r2 : wr.cell? ⟨w.heap.size, 2, none⟩ = some (.int .i64 0) := HRL.out.cell 2
        have r3 : wr.cell? ⟨w.heap.size, 3, none⟩ = some (.bool false) := HRL.out.cell 3
        have f0 : ∀ i, wr.frozen? ⟨w.heap.size, i, none⟩ = false := HRL.out.frozen
        obtain ⟨AV, cV, rfl, _, _, _, _⟩ := (HO.out.rk encS_len (Nat.le_refl _)).open_
        go_wp2_with fail
        refine ret_disk7 (b := w.heap.size) rfl rfl ((((HRL.out.set_ 0 (.slice AV k cV)).set_ 1 (.slice none 0 0)).set_ 2 (.int .i64 0)).set_ 3 (.bool false)) rfl ?_
        have hm : Mod (fun q => q = w.heap.size) wr _ := ((((Mod.refl (fun q => q = w.heap.size) wr).setCell (p := ⟨w.heap.size, 0, none⟩) (fun _ => rfl) (.slice AV k cV)).setCell (p := ⟨w.heap.size, 1, none⟩) (fun _ => rfl) (.slice none 0 0)).setCell (p := ⟨w.heap.size, 2, none⟩) (fun _ => rfl) (.int .i64 0)).setCell (p := ⟨w.heap.size, 3, none⟩) (fun _ => rfl) (.bool false)
        have hok := HO.out.mod hm (fun q hq e => Nat.lt_irrefl q (by have h1 := (HO.out.lt q hq).1; have e : q = w.heap.size := e; omega))
        rw [hxl] at hok
        refine ⟨_, rfl, xs, OK.base hok (Nat.le_add_right _ 2), hxl, ?_⟩
        exact ((Mod.of_below HB.out (fun q => w.heap.size ≤ q)).trans hm (fun q _ e => by have e : q = w.heap.size := e; omega)).below (Nat.le_refl _) (fun _ h => h)
end Go.Proofs.Ytjjjikiopbmogaa
