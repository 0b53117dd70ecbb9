/-
  The walks of Spoil and Apart.
-/
import Derived.Test.YtbagmmncjmbboaaGreatH2
import Derived.Deep.DeepCutAuto
namespace Go.Proofs.YtbagmmncjmbboaaGreat
open Go.RowKit
set_option linter.unusedVariables false

theorem OB.form {w : World} {B : Nat} {v : Value} {l : List Nat} (h : OB w B v l) (hl : 0 < l.length) : ∃ g cap, v = .slice (some ⟨g, 0, none⟩) l.length cap ∧ B ≤ g ∧ g < w.heap.size ∧ l.length ≤ cap ∧ cap ≤ 9223372036854775807 ∧
    (∀ j (hj : j < l.length), w.cell? ⟨g, j, none⟩ = some (.int .u8 (l[j] : Nat))) ∧ (∀ j, w.frozen? ⟨g, j, none⟩ = false) := by
  obtain ⟨h1, h2, h3⟩ := h
  have h4 := h3
  rcases h3.2 with ⟨rfl, hn⟩ | ⟨g, cap, cur, rfl, hb, hg, hn, hc, hs, ht⟩
  · omega
  · refine ⟨g, cap, rfl, hb, (Array.getElem?_eq_some_iff.1 hg).1, hn, by simpa [maxLen] using hc, ?_, fun j => h4.frozenAt j⟩
    intro j hj
    rw [h4.cellAt j (by omega)]
    simp [hj, bcell]

theorem OB.stored {w : World} {B g n cap : Nat} {l : List Nat} (h : OB w B (.slice (some ⟨g, 0, none⟩) n cap) l) (j : Nat) (y : Nat) (hy : y < 256) :
    OB (w.setCell ⟨g, j, none⟩ (.int .u8 (y : Int))) B (.slice (some ⟨g, 0, none⟩) n cap) (l.set j y) ∧ w.grownBy (w.setCell ⟨g, j, none⟩ (.int .u8 (y : Int))) (some g) := by
  obtain ⟨h1, h2, h3⟩ := h
  have hn : n = l.length := by have := h3.1; rcases h3.2 with ⟨h, _⟩ | ⟨_, _, _, h, _⟩ <;> injection h with _ h _ <;> omega
  subst hn
  obtain ⟨k1, k2⟩ := h3.stored j (.int .u8 (y : Int))
  refine ⟨⟨?_, by simpa using h2, ?_⟩, k2⟩
  · intro x hx
    rcases List.mem_or_eq_of_mem_set hx with hx | rfl
    · exact h1 x hx
    · exact hy
  · rw [List.length_set]
    have e : (l.set j y).map bcell = (l.map bcell).set j (.int .u8 (y : Int)) := by rw [List.map_set]; rfl
    rw [e]
    exact k1

theorem turn_step (l : List Nat) (k : Nat) (h : k < l.length) : (turn (l.take k) ++ l.drop k).set k (l[k] ^^^ 90) = turn (l.take (k + 1)) ++ l.drop (k + 1) := by
  have hlen : (turn (l.take k)).length = k := by simp [turn]; omega
  rw [List.set_append, if_neg (by omega), hlen, Nat.sub_self, List.take_succ_eq_append_getElem h, List.drop_eq_getElem_cons h, List.set_cons_zero]
  unfold turn
  rw [List.map_append, List.append_assoc]
  rfl

set_option maxHeartbeats 1000000 in
theorem spoil_any (v : Value) (l : List Nat) (w : World) (B : Nat) (hv : OB w B v l) :
    Calls Tryz.prog 55 #[v] w fun e w' => e = .returned (.tuple #[]) ∧ OB w' B v (turn l) ∧ w.grownBy w' v.ownBlock := by
  rcases Nat.eq_zero_or_pos l.length with hz | hpos
  · have hl : l = [] := List.eq_nil_of_length_eq_zero hz
    subst hl
    have HV := Lib.hid hv
    obtain ⟨A, c, rfl, _⟩ := (hv.rb (Nat.le_refl _)).open_
    clear hv hz
    go_enter Tryz.func55, Tryz.ntmps55
    go_wp2
    refine wp_loop_rounds 1 ?_
    rw [rounds_succ]
    go_wp2
    go_end0
    exact ⟨rfl, HV.out, World.grownBy.refl _ _⟩
  · obtain ⟨g, cap, rfl, hB, hg, hc1, hc2, hcell, hfz⟩ := hv.form hpos
    have hlen := hv.2.1
    have H1 := Lib.hid hv.1
    obtain ⟨n, hn⟩ : ∃ n, n = l.length := ⟨_, rfl⟩
    rw [← hn] at hv hlen hc1 hpos ⊢
    have HV := Lib.hid hv
    have HN := Lib.hid hn
    clear hcell hfz hv hn
    go_enter Tryz.func55, Tryz.ntmps55
    go_wp2
    go_loopw [2] (fun i wr => ∃ k : Nat, k ≤ n ∧ i = .int .i64 k ∧ Hid (OB wr B (.slice (some ⟨g, 0, none⟩) n cap) (turn (l.take k) ++ l.drop k)) ∧ Hid (w.grownBy wr (some g))) (fun i wr => n - (intOf i).toNat)
    case atStart => exact ⟨0, Nat.zero_le _, rfl, by simpa [turn] using HV, World.grownBy.refl _ _⟩
    case round =>
      clear HV
      obtain ⟨k, hk, rfl, HO, HG⟩ := hrel
      by_cases hlt : k < n
      · have hkl : k < l.length := by have := HN.out; omega
        have hll : (turn (l.take k) ++ l.drop k).length = l.length := by simp [turn]; omega
        obtain ⟨g', cap', hv', _, _, _, _, hcell, hfz⟩ := HO.out.form (by omega)
        injection hv' with e1 e2 e3
        injection e1 with e1
        injection e1 with e1
        subst e1
        have hx := hcell k (by omega)
        have hf := hfz k
        have hx2 : l[k] < 256 := H1.out _ (List.getElem_mem hkl)
        have e : (turn (l.take k) ++ l.drop k)[k]'(by omega) = l[k] := by
          rw [List.getElem_append_right (by simp [turn]; omega)]
          simp [turn]
          congr 1
          omega
        rw [e] at hx
        have hs := turn_step l k hkl
        have HS := Lib.hid hs
        obtain ⟨x, hx0⟩ : ∃ x, x = l[k] := ⟨_, rfl⟩
        rw [← hx0] at hx hx2 HS
        have hbit : bits BinOp.xor IntKind.u8 (x : Int) 90 = ((x ^^^ 90 : Nat) : Int) := u8_xor_nat x 90 hx2 (by omega)
        have HST : Hid (OB (wr.setCell ⟨g, k, none⟩ (.int .u8 (bits BinOp.xor IntKind.u8 (x : Int) 90))) B (.slice (some ⟨g, 0, none⟩) n cap) (turn (l.take (k + 1)) ++ l.drop (k + 1)) ∧ wr.grownBy (wr.setCell ⟨g, k, none⟩ (.int .u8 (bits BinOp.xor IntKind.u8 (x : Int) 90))) (some g)) := by
          rw [hbit, ← HS.out]
          exact HO.out.stored k (x ^^^ 90) (xor90_lt x hx2)
        clear hcell hfz e hs hx0 hbit hll e2 e3
        go_wp2
        go_roundw
        case rel => exact ⟨k + 1, by omega, by go_num, HST.out.1, HG.out.trans HST.out.2⟩
        case measure => simp [intOf]; omega
      · obtain rfl : k = n := by omega
        have e : turn (l.take k) ++ l.drop k = turn l := by
          have hn := HN.out
          rw [List.take_of_length_le (by omega), List.drop_of_length_le (by omega), List.append_nil]
        rw [e] at HO
        clear e
        go_wp2
        go_end0
        exact ⟨rfl, HO.out, HG.out⟩

theorem same_yes (u v : Value) (a : List Nat) (w : World) (B : Nat) (hu : RB w B u a) (hv : RB w B v a) :
    Calls Tryz.prog 29 #[u, v] w fun e w' => e = .returned (.bool true) ∧ ∃ n, w' = w.drewN n := by
  have := same_any u v a a w B hu hv
  have e : sameB a a = true := by simp [sameB]
  rw [e] at this
  exact this

/-- What holds at the head of Apart's loop. -/
structure ApartInv (w w2 wr : World) (B : Nat) (u v x g : Value) (l : List Nat) (k : Nat) : Prop where
  og : OB wr B g (turn l ++ List.range k)
  ru : RB wr w2.heap.size u (turn l)
  ov : OB wr B v l
  ox : OB wr B x l
  gr : w.grownBy wr u.ownBlock
  fr : g.ownBlock = u.ownBlock ∨ ∃ gb, g.ownBlock = some gb ∧ w2.heap.size ≤ gb
  sz : w2.heap.size ≤ wr.heap.size

theorem grownBy_any {w w' : World} (h : w.grownBy w' none) (row : Option Nat) : w.grownBy w' row := ⟨h.os, h.tape, h.output, h.size, fun k hk _ => h.block k hk (by simp)⟩

theorem ApartInv.step {w w2 wr w' : World} {B : Nat} {u v x g g' : Value} {l : List Nat} {k : Nat} {o : Obj} (h : ApartInv w w2 wr B u v x g l k)
    (hw : w.heap.size ≤ w2.heap.size) (hu : ∀ b, u.ownBlock = some b → ∃ n c, u = .slice (some ⟨b, 0, none⟩) n c)
    (hv : ∀ k, v.ownBlock = some k → k < w2.heap.size ∧ v.ownBlock ≠ u.ownBlock) (hx : ∀ k, x.ownBlock = some k → k < w2.heap.size ∧ x.ownBlock ≠ u.ownBlock)
    (h1 : OB w' B g' ((turn l ++ List.range k) ++ [k])) (h2 : (wr.alloc o).grownBy w' g.ownBlock) (h3 : Moved (wr.alloc o) w' g g') : ApartInv w w2 w' B u v x g' l (k + 1) := by
  have hs := h.sz
  have hs2 : (wr.alloc o).heap.size = wr.heap.size + 1 := by simp
  have hs3 := h2.size
  have far : ∀ y : Value, (∀ k, y.ownBlock = some k → k < w2.heap.size ∧ y.ownBlock ≠ u.ownBlock) → y.ownBlock = none ∨ y.ownBlock ≠ g.ownBlock := by
    intro y hy
    cases hyb : y.ownBlock with
    | none => exact .inl rfl
    | some b =>
      right
      rw [← hyb]
      have := hy b hyb
      rcases h.fr with hf | ⟨gb, hf, hle⟩
      · rw [hf]; exact this.2
      · rw [hf, hyb]; intro e; injection e with e; omega
  have hgr : w.grownBy w' u.ownBlock := by
    rcases h.fr with hf | ⟨gb, hf, hle⟩
    · rw [hf] at h2
      exact (h.gr.trans (World.grownBy_alloc wr o _)).trans h2
    · refine ⟨h2.os.trans h.gr.os, h2.tape.trans h.gr.tape, h2.output.trans h.gr.output, by have := h.gr.size; omega, ?_⟩
      intro j hj hne
      have hjr : j < wr.heap.size := Nat.lt_of_lt_of_le hj h.gr.size
      rw [h2.block j (by omega) (by rw [hf]; intro e; injection e with e; omega), Below.heap_alloc wr o j hjr]
      exact h.gr.block j hj hne
  refine ⟨by rw [List.range_succ, ← List.append_assoc]; exact h1, ?_, (h.ov.alloc o).kept h2 (far v hv), (h.ox.alloc o).kept h2 (far x hx), hgr, ?_, by omega⟩
  · -- u still reads as it did
    have hkeep : (∀ k, k < w2.heap.size → w'.heap[k]? = (wr.alloc o).heap[k]?) → RB w' w2.heap.size u (turn l) := by
      intro hk
      exact (h.ru.alloc hs o).keep fun b oo hb => World.cell?_of_block (w := wr.alloc o) (a := ⟨b, oo, none⟩) (hk b hb)
    rcases h3 with h3 | ⟨h3, h4⟩
    · rcases h.fr with hf | ⟨gb, hf, hle⟩
      · -- one block still
        by_cases hl : (turn l).length = 0
        · have e : turn l = [] := List.eq_nil_of_length_eq_zero hl
          rw [e]
          obtain ⟨r1, r2, A, c, e1, r3, r4, r5⟩ := h.ru
          rw [e] at e1 r3
          exact ⟨by simp, by simp, A, c, e1, r3, r4, .inl rfl⟩
        · obtain ⟨r1, r2, A, c, e1, r3, r4, r5⟩ := h.ru
          rcases r5 with e | ⟨b, off, rfl, hb, hc⟩
          · rw [e] at hl; simp at hl
          · obtain ⟨gg, cap, e2, _, _, _, _, hcell, _⟩ := h1.form (by simp only [List.length_append, List.length_cons]; omega)
            have e5 : u.ownBlock = some b := by rw [e1]; rfl
            have e6 : g'.ownBlock = some gg := by rw [e2]; rfl
            have e4 : gg = b := by
              have : (some gg : Option Nat) = some b := by rw [← e6, h3, hf, e5]
              injection this
            subst e4
            have hoff : off = 0 := by
              obtain ⟨n', c', e7⟩ := hu gg e5
              rw [e7] at e1
              injection e1 with e8
              injection e8 with e8
              injection e8 with _ e8
              exact e8.symm
            subst hoff
            refine ⟨r1, r2, some ⟨gg, 0, none⟩, c, e1, r3, r4, .inr ⟨gg, 0, rfl, hb, ?_⟩⟩
            intro j y hj
            have hjl : j < (turn l).length := (List.getElem?_eq_some_iff.1 hj).1
            rw [Nat.zero_add, hcell j (by simp only [List.length_append]; omega)]
            rw [List.getElem_append_left (by simp only [List.length_append]; omega), List.getElem_append_left hjl]
            have := (List.getElem?_eq_some_iff.1 hj).2
            rw [this]
      · exact hkeep fun k hk => h2.block k (by omega) (by rw [hf]; intro e; injection e with e; omega)
    · exact hkeep fun k hk => h4.block k (by omega) (by simp)
  · rcases h3 with h3 | ⟨h3, _⟩
    · rw [h3]; exact h.fr
    · exact .inr ⟨_, h3, by omega⟩
end Go.Proofs.YtbagmmncjmbboaaGreat
