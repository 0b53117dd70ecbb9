/-
  The walk of the log's findRecords.
-/
import Derived.Test.YtplkdcegfpiofaaZV15
namespace Go.Proofs.Ytplkdcegfpiofaa
open Go.RowKit Go.Maps
set_option linter.unusedVariables false

theorem OB.pre {w : World} {B n c : Nat} {A : Option Addr} {l : List Nat} (h : OB w B (.slice A n c) l) (k : Nat) (hk : k ≤ n) : OB w B (.slice A k c) (l.take k) := by
  obtain ⟨h1, h2, h3, h4⟩ := h
  refine ⟨fun x hx => h1 x (List.mem_of_mem_take hx), by rw [List.length_take]; omega, by simp, ?_⟩
  rcases h4 with ⟨e, hn⟩ | ⟨g, cap, cur, e, hb, hg, hn, hc, hs, ht⟩
  · injection e with e1 e2 e3
    subst e1 e2 e3
    obtain rfl : k = 0 := by omega
    exact .inl ⟨rfl, by simp⟩
  · injection e with e1 e2 e3
    subst e1 e2 e3
    refine .inr ⟨g, c, cur, ?_, hb, hg, ?_, hc, hs, ?_⟩
    · rw [List.length_take, Nat.min_eq_left (by omega)]
    · rw [List.length_take]; omega
    · rw [List.map_take, List.length_take, Nat.min_eq_left (by omega), ← ht, List.take_take]
      congr 1
      omega
theorem getText_w (v : Value) (l : List Nat) (at_ : Int) (w : World) (hv : RB w w.heap.size v l) :
    Calls Try.prog 123 #[v, .int .i64 at_, .int .i64 1200] w fun e w' => ∃ v', e = .returned (.tuple #[v', .int .i64 ((textA l at_ 1200).2.1 : Nat), .int .i64 ((textA l at_ 1200).2.2 : Nat)]) ∧ OB w' w.heap.size v' (textA l at_ 1200).1 ∧ Below w.heap.size w w' := by
  obtain ⟨ru, rn, re, hr⟩ : ∃ ru rn re, getA l at_ = (ru, rn, re) := ⟨_, _, _, rfl⟩
  by_cases h0 : re = 0
  · subst h0
    exact getText_ok v l at_ 1200 w hv ru rn hr (by omega) (by omega)
  · refine (getText_err v l at_ 1200 w w.heap.size hv ru rn re hr h0).mono ?_
    rintro e w' ⟨rfl, rfl⟩
    have e : textA l at_ 1200 = ([], 0, re) := by unfold textA; rw [hr, if_pos h0]
    rw [e]
    exact ⟨_, rfl, OB.nil _ _, Below.refl _ _⟩
/-- The log whose stream is cut. -/
def LG.cutTo (m : LG) (acc : List Nat) (k : Nat) : LG := { m with st := m.st.take k, begs := acc }
theorem cut_fin {wr : World} {p sb mb g B g1 L cap k : Nat} {pl : Option Nat} {s : DS} {bv : Value} {m : LG} {acc : List Nat} (h : WalAt wr p sb mb pl s g B (.slice (some ⟨g1, 0, none⟩) L cap) bv { m with begs := acc }) (hs : m.safe = 0) (hk : k ≤ L) (hL : L = m.st.length) (ha : acc.length ≤ k ∧ ∀ b ∈ acc, b < k) :
    WalAt (wr.setCell ⟨g, 5, none⟩ (.slice (some ⟨g1, 0, none⟩) k cap)) p sb mb pl s g B (.slice (some ⟨g1, 0, none⟩) k cap) bv (m.cutTo acc k) := by
  have hl : (m.st.take k).length = k := by rw [List.length_take]; omega
  have hok := h.lg.ok
  have hst : (m.cutTo acc k).st.length ≤ m.count * 498 := by have := hok.st; show (m.st.take k).length ≤ _; rw [hl]; dsimp only at this; omega
  refine ⟨h.dk.setLog h 5 _, ⟨⟨hok.first, hok.count, hok.run, hst, ?_, ?_⟩, ?_, ?_, ?_, ?_, ?_, ?_, h.lg.base⟩, h.sep, ?_⟩
  · show m.safe ≤ (m.st.take k).length; omega
  · show acc.length ≤ (m.st.take k).length ∧ ∀ b ∈ acc, b < (m.st.take k).length; rw [hl]; exact ha
  · exact h.lg.blk.set_ 5 _
  · have h1 := (h.lg.st.pre k hk).mod ((Mod.refl (fun k => k = g) wr).setCell (p := ⟨g, 5, none⟩) (fun _ => rfl) (.slice (some ⟨g1, 0, none⟩) k cap)) (fun b hb e => h.lg.far1 (by
      simp only [Value.ownBlock] at hb ⊢
      rw [hb, e]))
    exact h1
  · exact h.lg.begs.mod ((Mod.refl (fun k => k = g) wr).setCell (p := ⟨g, 5, none⟩) (fun _ => rfl) (.slice (some ⟨g1, 0, none⟩) k cap)) (fun b hb e => h.lg.far2 (by rw [hb, e]))
  · exact h.lg.far1
  · exact h.lg.far2
  · exact h.lg.far3
  · exact h.pl
theorem begs_fin {w1 w4 : World} {p sb mb g B k : Nat} {pl : Option Nat} {s : DS} {sv bv v3 : Value} {m : LG} {acc : List Nat} {o : Obj} (hA : WalAt w1 p sb mb pl s g B sv bv { m with begs := acc }) (k1 : OK encN 1 3 w4 B v3 (acc ++ [k])) (k2 : (w1.alloc o).grownBy w4 bv.ownBlock) (k3 : v3.ownBlock = bv.ownBlock ∨ v3.ownBlock = some (w1.alloc o).heap.size)
    (hb : (acc ++ [k]).length ≤ m.st.length ∧ ∀ b ∈ acc ++ [k], b < m.st.length) : WalAt (w4.setCell ⟨g, 6, none⟩ v3) p sb mb pl s g B sv v3 { m with begs := acc ++ [k] } ∧ Mod (fun j => j = g ∨ bv.ownBlock = some j) w1 (w4.setCell ⟨g, 6, none⟩ v3) := by
  have hlt := hA.lg.lt
  have hf2 : v3.ownBlock ≠ some g := fun e => by
    rcases k3 with h | h
    · exact hA.lg.far2 (by rw [← h, e])
    · rw [h] at e; injection e with e; simp at e; omega
  have hm0 : Mod (fun j => j = g ∨ bv.ownBlock = some j) w1 w4 := ((Mod.refl (fun j => j = g ∨ bv.ownBlock = some j) w1).alloc o).trans (Mod.of_grown k2) (fun j _ e => .inr e.symm)
  have hm1 : Mod (fun j => j = g) w4 (w4.setCell ⟨g, 6, none⟩ v3) := (Mod.refl (fun j => j = g) w4).setCell (p := ⟨g, 6, none⟩) (fun _ => rfl) _
  have hmm := hm0.trans hm1 (fun j _ e => .inl e)
  have hB : ∀ j, j < B → ¬ (j = g ∨ bv.ownBlock = some j) := fun j hj e => by
    rcases e with e | e
    · have := hA.lg.base; omega
    · have := (hA.lg.own j (.inr (.inr e))).1; omega
  refine ⟨⟨hA.dk.mod hmm (hB _ hA.sep.1) (hB _ hA.sep.2.1) (hB _ hA.sep.2.2) (fun b hb e => hA.pl b hb ?_), ⟨⟨hA.lg.ok.first, hA.lg.ok.count, hA.lg.ok.run, hA.lg.ok.st, hA.lg.ok.safe, hb⟩, ?_, ?_, ?_, hA.lg.far1, hf2, ?_, hA.lg.base⟩, hA.sep, fun b hb hk => ?_⟩, hmm⟩
  · rcases e with e | e
    · exact .inl e
    · exact .inr (.inr e)
  · exact ((hA.lg.blk.alloc o).grown k2 (fun e => hA.lg.far2 e.symm)).set_ 6 v3
  · exact ((hA.lg.st.alloc o).kept k2 hA.lg.far3).mod hm1 (fun b hb e => hA.lg.far1 (by rw [hb, e]))
  · exact k1.mod hm1 (fun b hb e => hf2 (by rw [hb, e]))
  · rcases k3 with h | h
    · rw [h]; exact hA.lg.far3
    · cases hs : sv.ownBlock with
      | none => exact .inl rfl
      | some j =>
        refine .inr fun e => ?_
        rw [h] at e
        injection e with e
        have := (hA.lg.own j (.inr (.inl hs))).2
        simp at e
        omega
  · have hbl := hA.dk.lt.2.2.2 b hb
    refine hA.pl b hb ?_
    rcases hk with hk | hk | hk
    · exact .inl hk
    · exact .inr (.inl hk)
    · rcases k3 with h | h
      · exact .inr (.inr (by rw [← h]; exact hk))
      · rw [h] at hk; injection hk with hk; simp at hk; omega
theorem scan_go {st : List Nat} {n a : Nat} (h1 : a < st.length) (h2 : 1 ≤ st[a]) (h3 : (textA st ((a : Int) + 1) 1200).2.2 = 0) : scan st (n + 1) a = (a :: (scan st n (textA st ((a : Int) + 1) 1200).2.1).1, (scan st n (textA st ((a : Int) + 1) 1200).2.1).2) := by
  have h4 : st.getD a 0 = st[a] := by simp [List.getD, h1]
  rw [scan, if_pos ⟨h1, by rw [h4]; exact h2, h3⟩]
theorem scan_end {st : List Nat} (n : Nat) {a : Nat} (h : st.length ≤ a) : scan st n a = ([], a) := by
  cases n with
  | zero => rfl
  | succ n => rw [scan, if_neg (fun e => by omega)]
theorem scan_zero {st : List Nat} (n : Nat) {a : Nat} (h1 : a < st.length) (h : ¬ 1 ≤ st[a]) : scan st n a = ([], a) := by
  have h4 : st.getD a 0 = st[a] := by simp [List.getD, h1]
  cases n with
  | zero => rfl
  | succ n => rw [scan, if_neg (fun e => h (by rw [← h4]; exact e.2.1))]
theorem scan_err {st : List Nat} (n : Nat) {a : Nat} (h : (textA st ((a : Int) + 1) 1200).2.2 ≠ 0) : scan st n a = ([], a) := by
  cases n with
  | zero => rfl
  | succ n => rw [scan, if_neg (fun e => h e.2.2)]

set_option maxRecDepth 100000 in
set_option maxHeartbeats 1000000 in
theorem findRecords_some (w : World) (p sb mb g B g1 L cap : Nat) (pl : Option Nat) (s : DS) (m : LG) (h : WalAt w p sb mb pl s g B (.slice (some ⟨g1, 0, none⟩) L cap) (.slice none 0 0) m) (hL : L = m.st.length) (hb : m.begs = []) (hs : m.safe = 0) (hc : m.count ≤ 1000) :
    Calls Try.prog 87 #[.pointer (some ⟨g, 0, none⟩)] w fun e w' => e = .returned (.tuple #[]) ∧ (∃ sv' bv', WalAt w' p sb mb pl s g B sv' bv' (m.cutTo (scan m.st (m.st.length + 1) 0).1 (scan m.st (m.st.length + 1) 0).2)) ∧ Mod (fun k => k = g) w w' := by
  have hm0 : m = { m with begs := [] } := by rw [← hb]
  have h0 : WalAt w p sb mb pl s g B (.slice (some ⟨g1, 0, none⟩) L cap) (.slice none 0 0) { m with begs := [] } := by rw [← hm0]; exact h
  have H := Lib.hid h0
  have HL := Lib.hid hL
  have HS := Lib.hid hs
  have hL1 : L ≤ 498000 := by have := h.lg.ok.st; omega
  have hcap : L ≤ cap ∧ cap ≤ 9223372036854775807 := by
    obtain ⟨A, c, e, h3, h4, _⟩ := h.lg.st.rbn.open_
    injection e with _ e2 e3
    omega
  obtain ⟨hcap1, hcap2⟩ := hcap
  obtain ⟨T, hT⟩ : ∃ T, T = scan m.st (m.st.length + 1) 0 := ⟨_, rfl⟩
  rw [← hT]
  have HT := Lib.hid hT
  have hglt := h.lg.lt
  have hbg := Lib.hid h.lg.base
  clear h h0 hm0 hb hs hT hL hc
  go_enter Try.func87, Try.ntmps87
  go_wp2_with fail
  go_loopw [2] (fun i wr => ∃ (k n : Nat) (acc : List Nat) (bv : Value), i = .int .i64 k ∧ k ≤ L ∧ Hid (L - k < n) ∧ Hid ((acc ++ (scan m.st n k).1, (scan m.st n k).2) = T) ∧ Hid (acc.length ≤ k ∧ ∀ b ∈ acc, b < k) ∧ Hid (∀ j, bv.ownBlock = some j → w.heap.size ≤ j) ∧ Hid (WalAt wr p sb mb pl s g B (.slice (some ⟨g1, 0, none⟩) L cap) bv { m with begs := acc }) ∧ Hid (Mod (fun k => k = g) w wr)) (fun i wr => L - (intOf i).toNat)
  case atStart => exact ⟨0, L + 1, [], .slice none 0 0, rfl, by omega, Lib.hid (by omega), Lib.hid (by rw [HT.out, HL.out]; rfl), Lib.hid (by simp), Lib.hid (fun j h => by cases h), H, Lib.hid (Mod.refl _ _)⟩
  case round =>
    obtain ⟨k, n, acc, bv, rfl, hk, HN, HE, HA, HNEW, HW, HM⟩ := hrel
    have c5 : wr.cell? ⟨g, 5, none⟩ = some (.slice (some ⟨g1, 0, none⟩) L cap) := HW.out.lg.blk.cell 5
    have f5 := HW.out.lg.blk.frozen 5
    have hRB : Hid (RB wr wr.heap.size (.slice (some ⟨g1, 0, none⟩) L cap) m.st) := Lib.hid HW.out.lg.st.rbn
    by_cases hkL : k < L
    · obtain ⟨x, hx⟩ : ∃ x, x = m.st[k]'(by rw [← HL.out]; exact hkL) := ⟨_, rfl⟩
      have hcell : wr.cell? ⟨g1, k, none⟩ = some (.int .u8 (x : Int)) ∧ x < 256 := by
        obtain ⟨A, c, e, h3, h4, h5, h6⟩ := hRB.out.open_
        obtain ⟨b, off, e2, h7, h8, h9⟩ := h6.out k (by rw [← HL.out]; exact hkL)
        injection e with e1 e3 e4
        rw [← e1] at e2
        injection e2 with e2
        injection e2 with e5 e6
        rw [← hx] at h8 h9
        subst e5
        subst e6
        rw [Nat.zero_add] at h8
        exact ⟨h8, h9⟩
      obtain ⟨hcell, hx256⟩ := hcell
      have HX := Lib.hid hx
      clear hx
      by_cases hx1 : 1 ≤ x
      · obtain ⟨t, ht⟩ : ∃ t, t = textA m.st ((k : Int) + 1) 1200 := ⟨_, rfl⟩
        obtain ⟨tb, tn, te⟩ := t
        have HTX := Lib.hid ht
        clear ht
        go_wp2_with fail
        refine (getText_w _ m.st ((k : Int) + 1) wr hRB.out).mono ?_
        rw [← HTX.out]
        rintro e w1 ⟨v1, rfl, ho1, hb1⟩
        have HB1 := Lib.hid hb1
        obtain ⟨A1, c1, rfl, -, -, -, -⟩ := ho1.rbn.open_
        have HW1 : Hid (WalAt w1 p sb mb pl s g B (.slice (some ⟨g1, 0, none⟩) L cap) bv { m with begs := acc }) := Lib.hid (HW.out.below HB1.out)
        have HM1 : Hid (Mod (fun k => k = g) w w1) := Lib.hid (HM.out.trans' (Mod.of_below HB1.out _))
        clear ho1 hb1 c5 f5 hcell
        by_cases hte : te = 0
        · subst hte
          have hnx : Hid (k + 1 < tn ∧ tn ≤ L) := Lib.hid (by
            have h := textA_next m.st ((k : Int) + 1) (by rw [← HTX.out])
            rw [← HTX.out] at h
            dsimp only at h
            rw [HL.out]
            omega)
          obtain ⟨n', rfl⟩ : ∃ n', n = n' + 1 := ⟨n - 1, by have := HN.out; omega⟩
          have hE2 : Hid (((acc ++ [k]) ++ (scan m.st n' tn).1, (scan m.st n' tn).2) = T) := Lib.hid (by
            have h := HE.out
            rw [scan_go (by rw [← HL.out]; exact hkL) (by rw [← HX.out]; exact hx1) (by rw [← HTX.out]), ← HTX.out] at h
            rw [List.append_assoc]
            exact h)
          have hacc : Hid ((acc ++ [k]).length ≤ k + 1 ∧ ∀ b ∈ acc ++ [k], b < k + 1) := Lib.hid (by
            have h := HA.out
            rw [List.length_append, List.length_singleton]
            refine ⟨by omega, fun b hb => ?_⟩
            rcases List.mem_append.1 hb with hb | hb
            · have := h.2 b hb; omega
            · rw [List.mem_singleton.1 hb]; omega)
          obtain ⟨Ab, cb, hbv⟩ := HW1.out.lg.begins
          obtain ⟨nb, hnb⟩ : ∃ nb, nb = acc.length := ⟨_, rfl⟩
          have hbv2 : bv = .slice Ab nb cb := by rw [hbv, hnb]
          subst hbv2
          have HNB := Lib.hid hnb
          clear hbv hnb
          have hbg1 : Hid (OK encN 1 3 w1 B (.slice Ab nb cb) acc) := Lib.hid HW1.out.lg.begs
          have c6 : w1.cell? ⟨g, 6, none⟩ = some (.slice Ab nb cb) := HW1.out.lg.blk.cell 6
          have hnb1 : nb + 1 ≤ 1000000 := by have := HA.out.1; have := HNB.out; omega
          have hB1 : Hid (B ≤ w1.heap.size) := Lib.hid (by have := hbg.out; have := HW1.out.lg.lt; omega)
          go_wp2_with (first
            | (at_builtin; refine wpList_appE etN encN_len encN_one (y := k) rfl (.tmp 40) (.tmp 42) rfl rfl (hbg1.out.alloc _) w1.heap.size rfl (by intro j u hu; rw [(Blk.new w1 _ _).cell j]; simpa [encN] using hu) (by rw [← HNB.out]; omega) (by have := hB1.out; simp; omega) ?_; intro v3 w4 k1 k2 k3; obtain ⟨A3, c3, hv3, -, -, -, -⟩ := (k1.rk encN_len (Nat.le_refl _)).open_; subst hv3; obtain ⟨nb3, hnb3⟩ : ∃ x, x = (acc ++ [k]).length := ⟨_, rfl⟩; rw [← hnb3] at k1 k3 ⊢; have HFIN := Lib.hid (begs_fin (m := m) HW1.out k1 k2 k3 (by have h := hacc.out; have h2 := HL.out; refine ⟨by omega, fun b hb => ?_⟩; have := h.2 b hb; omega)); have HX4 : Hid (Blk w4 g _ _) := Lib.hid ((HW1.out.lg.blk.alloc _).grown k2 (fun e => HW1.out.lg.far2 e.symm)); have hnew3 : Hid (∀ j, (Value.slice A3 nb3 c3).ownBlock = some j → w.heap.size ≤ j) := Lib.hid (fun j hj => by have hz := HM1.out.size; rcases k3 with h | h; (exact HNEW.out j (h.symm.trans hj)); (rw [h] at hj; injection hj with hj; simp at hj; omega)); have d6 : w4.cell? ⟨g, 6, none⟩ = some (.slice Ab nb cb) := HX4.out.cell 6; have f6 := HX4.out.frozen 6; clear k1 k2 k3 hnb3))
          go_roundw
          case rel => exact ⟨tn, n', acc ++ [k], _, rfl, by have := hnx.out; omega, Lib.hid (by have := hnx.out; have := HN.out; omega), hE2, Lib.hid (by have h := hacc.out; have := hnx.out; refine ⟨by omega, fun b hb => ?_⟩; have := h.2 b hb; omega), hnew3, Lib.hid HFIN.out.1, Lib.hid (HM1.out.trans HFIN.out.2 (fun j hj e => by rcases e with e | e; exact e; (have := HNEW.out j e; omega)))⟩
          case measure => have := hnx.out; simp [intOf]; omega
        · have hte2 : ¬ (te : Int) = 0 := by omega
          have c5 : w1.cell? ⟨g, 5, none⟩ = some (.slice (some ⟨g1, 0, none⟩) L cap) := HW1.out.lg.blk.cell 5
          have f5 := HW1.out.lg.blk.frozen 5
          have hfin : Hid (T = (acc, k)) := Lib.hid (by rw [← HE.out, scan_err n (by rw [← HTX.out]; exact hte), List.append_nil])
          go_wp2_with fail
          go_end0
          rw [hfin.out]
          exact ⟨rfl, ⟨_, _, cut_fin HW1.out HS.out hk HL.out HA.out⟩, HM1.out.setCell (p := ⟨g, 5, none⟩) (fun _ => rfl) _⟩
      · have hfin : Hid (T = (acc, k)) := Lib.hid (by rw [← HE.out, scan_zero n (by rw [← HL.out]; exact hkL) (by rw [← HX.out]; exact hx1), List.append_nil])
        obtain rfl : x = 0 := by omega
        go_wp2_with fail
        go_end0
        rw [hfin.out]
        exact ⟨rfl, ⟨_, _, cut_fin HW.out HS.out hk HL.out HA.out⟩, HM.out.setCell (p := ⟨g, 5, none⟩) (fun _ => rfl) _⟩
    · have hfin : Hid (T = (acc, k)) := Lib.hid (by rw [← HE.out, scan_end n (by rw [← HL.out]; omega), List.append_nil])
      go_wp2_with fail
      go_end0
      rw [hfin.out]
      exact ⟨rfl, ⟨_, _, cut_fin HW.out HS.out hk HL.out HA.out⟩, HM.out.setCell (p := ⟨g, 5, none⟩) (fun _ => rfl) _⟩
end Go.Proofs.Ytplkdcegfpiofaa

/-
  The walks of the log's record and recordsOf.
-/
namespace Go.Proofs.Ytplkdcegfpiofaa
open Go.RowKit Go.Maps
set_option linter.unusedVariables false

theorem ret_rec {fn : Func} {q : Tmp} {a : Act} {w : World} {post : Ending → World → Prop} {b : Nat} {v0 v1 v2 : Value} (hr : fn.results = #[.cell q 64]) (hp : a.tmps.getD q undef = .pointer (some ⟨b, 0, none⟩))
    (hB : Blk w b 64 #[v0, v1, v2]) (hd : a.defers = []) (h : post (.returned (.agg #[v0, v1, v2])) w) : bodyPost Try.prog fn post .ret a w := by
  refine bodyPost_ret (v := .agg #[v0, v1, v2]) ?_ hd h
  have hp' : a.tmps[q]?.getD undef = .pointer (some ⟨b, 0, none⟩) := by simpa using hp
  have e0 : w.cell? ⟨b, 0, none⟩ = some v0 := hB.cell 0
  have e1 : w.cell? ⟨b, 1, none⟩ = some v1 := hB.cell 1
  have e2 : w.cell? ⟨b, 2, none⟩ = some v2 := hB.cell 2
  simp only [results, hr]
  go_simp
theorem stream_cell {w : World} {p g B L k : Nat} {A : Option Addr} {cap : Nat} {bv : Value} {m : LG} (h : LogAt w p g B (.slice A L cap) bv m) (hk : k < m.st.length) :
    ∃ g1, A = some ⟨g1, 0, none⟩ ∧ w.cell? ⟨g1, k, none⟩ = some (.int .u8 ((m.st.getD k 0 : Nat) : Int)) ∧ m.st.getD k 0 < 256 := by
  have hd : m.st.getD k 0 = m.st[k] := by simp [List.getD, hk]
  rcases h.st.2.2.2 with ⟨e, hn⟩ | ⟨g1, cap', cur, e, _⟩
  · rw [hn] at hk; omega
  · injection e with e1 e2 e3
    obtain ⟨A', c, e, h3, h4, h5, h6⟩ := h.st.rbn.open_
    obtain ⟨b, off, e2, h7, h8, h9⟩ := h6.out k hk
    injection e with e5 _ _
    rw [← e5, e1] at e2
    injection e2 with e2
    injection e2 with e6 e7
    subst e6 e7
    rw [Nat.zero_add] at h8
    exact ⟨g1, e1, by rw [hd]; exact h8, by rw [hd]; exact h9⟩
theorem begs_cell {w : World} {p g B i : Nat} {sv bv : Value} {m : LG} (h : LogAt w p g B sv bv m) (hi : i < m.begs.length) :
    ∃ g2 c, bv = .slice (some ⟨g2, 0, none⟩) m.begs.length c ∧ w.cell? ⟨g2, i, none⟩ = some (.int .i64 ((m.begs.getD i 0 : Nat) : Int)) := by
  have hd : m.begs.getD i 0 = m.begs[i] := by simp [List.getD, hi]
  rcases h.begs.2.2 with ⟨e, hn⟩ | ⟨g2, cap', cur, e, _⟩
  · omega
  · obtain ⟨A', c, e', h3, h4, h5, h6⟩ := (h.begs.rk encN_len (Nat.le_refl _)).open_
    obtain ⟨b, off, e2, h7, h8⟩ := h6.out i hi
    rw [e] at e'
    injection e' with e5 _ _
    rw [← e5] at e2
    injection e2 with e2
    injection e2 with e6 e7
    subst e6 e7
    have := h8 0 _ rfl
    rw [Nat.zero_add, Nat.mul_one, Nat.add_zero] at this
    exact ⟨g2, cap', e, by rw [hd]; exact this⟩

set_option maxRecDepth 100000 in
set_option maxHeartbeats 1000000 in
theorem record_any (w : World) (p g B : Nat) (sv bv : Value) (m : LG) (h : LogAt w p g B sv bv m) (i : Nat) (hi : i < m.begs.length) :
    Calls Try.prog 117 #[.pointer (some ⟨g, 0, none⟩), .int .i64 (i : Int)] w fun e w' => ∃ v, e = .returned (.agg #[.int .i64 (m.lsn (m.begs.getD i 0) : Int), .int .i64 ((m.st.getD (m.begs.getD i 0) 0 : Nat) : Int), v]) ∧ OB w' w.heap.size v (textA m.st ((m.begs.getD i 0 : Nat) + 1 : Int) 1200).1 ∧ Below w.heap.size w w' := by
  obtain ⟨g2, c2, hbv, hcb⟩ := begs_cell h hi
  obtain ⟨k, hk⟩ : ∃ k, k = m.begs.getD i 0 := ⟨_, rfl⟩
  have hkb : k < m.st.length := by
    have h2 : m.begs.getD i 0 = m.begs[i] := by simp [List.getD, hi]
    rw [hk, h2]
    exact h.ok.begs.2 _ (List.getElem_mem hi)
  rw [← hk] at hcb ⊢
  obtain ⟨A, c, hsv⟩ := h.stream
  obtain ⟨L, hL⟩ : ∃ L, L = m.st.length := ⟨_, rfl⟩
  have hsv2 : sv = .slice A L c := by rw [hsv, hL]
  subst hsv2
  obtain ⟨g1, hA, hcs, hx256⟩ := stream_cell h hkb
  subst hA
  obtain ⟨x, hx⟩ : ∃ x, x = m.st.getD k 0 := ⟨_, rfl⟩
  rw [← hx] at hcs hx256 ⊢
  rw [hbv] at h
  obtain ⟨nb, hnb⟩ : ∃ nb, nb = m.begs.length := ⟨_, rfl⟩
  rw [← hnb] at h hi
  have hLb : L ≤ 2039808 := by rw [hL]; exact h.ok.num
  rw [← hL] at hkb
  have a5 := h.blk.cell 5
  have a6 := h.blk.cell 6
  have hg1 : g1 < w.heap.size := (h.st.lt g1 rfl).2
  have hg2 : g2 < w.heap.size := (h.begs.lt g2 rfl).2
  have hg : g < w.heap.size := h.lt
  have HL := Lib.hid h
  have hw8 : IntKind.i64.wrap (x : Int) = (x : Int) := by rw [IntKind.wrap_i64]; omega
  have HB1 : Hid (Below w.heap.size w (w.alloc (.cells #[.int .i64 0, .int .i64 0, .slice none 0 0] 64))) := Lib.hid ((Below.refl _ _).alloc (Nat.le_refl _) _)
  have HK1 : Hid (Blk (w.alloc (.cells #[.int .i64 0, .int .i64 0, .slice none 0 0] 64)) w.heap.size 64 #[.int .i64 0, .int .i64 0, .slice none 0 0]) := Lib.hid (Blk.new _ _ _)
  have HR1 : Hid (RB (w.alloc (.cells #[.int .i64 0, .int .i64 0, .slice none 0 0] 64)) (w.alloc (.cells #[.int .i64 0, .int .i64 0, .slice none 0 0] 64)).heap.size (.slice (some ⟨g1, 0, none⟩) L c) m.st) := Lib.hid (HL.out.below HB1.out).st.rbn
  clear h hbv hk hL hsv hx hnb
  go_enter Try.func117, Try.ntmps117
  go_wp2_with fail
  refine (getText_w _ m.st ((k : Int) + 1) _ HR1.out).mono ?_
  rintro e w2 ⟨v2, rfl, ho2, hb2⟩
  have HO2 : Hid (OB w2 w.heap.size v2 (textA m.st ((k : Int) + 1) 1200).1) := Lib.hid (ho2.base (by simp))
  have HB2 : Hid (Below w.heap.size w w2) := Lib.hid (HB1.out.trans (hb2.mono (by simp)))
  have HK2 : Hid (Blk w2 w.heap.size 64 #[.int .i64 0, .int .i64 0, .slice none 0 0]) := Lib.hid (HK1.out.below hb2 (by simp))
  have HF2 : Hid (∀ j, v2.ownBlock = some j → j ≠ w.heap.size) := Lib.hid (fun j hj e => by have := (ho2.lt j hj).1; simp at this; omega)
  obtain ⟨A2, c2', hv2, -, -, -, -⟩ := ho2.rbn.open_
  obtain ⟨n2, hn2⟩ : ∃ n2, n2 = (textA m.st ((k : Int) + 1) 1200).1.length := ⟨_, rfl⟩
  rw [← hn2] at hv2
  subst hv2
  have HL2 : Hid (LogAt w2 p g B (.slice (some ⟨g1, 0, none⟩) L c) (.slice (some ⟨g2, 0, none⟩) nb c2) m) := Lib.hid (HL.out.below HB2.out)
  have b5 : w2.cell? ⟨g, 5, none⟩ = some (.slice (some ⟨g1, 0, none⟩) L c) := (HB2.out.cell (p := ⟨g, 5, none⟩) hg).trans a5
  have bs : w2.cell? ⟨g1, k, none⟩ = some (.int .u8 (x : Int)) := (HB2.out.cell (p := ⟨g1, k, none⟩) hg1).trans hcs
  have z0 := HK2.out.cell 0
  have z1 := HK2.out.cell 1
  have z2 := HK2.out.cell 2
  have y0 := HK2.out.frozen 0
  have y1 := HK2.out.frozen 1
  have y2 := HK2.out.frozen 2
  clear ho2 hb2 hn2 a5 a6 hcb hcs
  go_wp2_with fail
  go_region_law (first
    | (go_simp; go_at_call 79; refine (lsn_any _ p g B _ _ m (HL2.out.below (below_drewN (Below.refl _ _) 1)) k (by omega)).mono ?_; rintro e w3 ⟨rfl, h3⟩; subst w3))
  all_goals (
    go_wp2_with fail
    refine ret_rec Try.results117 rfl (((HK2.out.drewN 1).set_ 0 _).set_ 1 _ |>.set_ 2 _) rfl ?_
    exact ⟨_, rfl, HO2.out.mod (((((Mod.refl (fun j => j = w.heap.size) w2).drewN 1).setCell (p := ⟨w.heap.size, 0, none⟩) (fun _ => rfl) _).setCell (p := ⟨w.heap.size, 1, none⟩) (fun _ => rfl) _).setCell (p := ⟨w.heap.size, 2, none⟩) (fun _ => rfl) _) HF2.out,
      ((((below_drewN HB2.out 1).setCell (p := ⟨w.heap.size, 0, none⟩) (Nat.le_refl _) _).setCell (p := ⟨w.heap.size, 1, none⟩) (Nat.le_refl _) _).setCell (p := ⟨w.heap.size, 2, none⟩) (Nat.le_refl _) _)⟩)

/-- A record as it lies in a row: its LSN, its kind, its body's slice, and the body. -/
structure RecV where
  lsn : Nat
  kind : Nat
  A : Option Addr
  n : Nat
  c : Nat
  body : List Nat
def RecV.v (x : RecV) : Value := .slice x.A x.n x.c
def encRec (x : RecV) : List Value := [.int .i64 (x.lsn : Int), .int .i64 (x.kind : Int), x.v]
theorem encRec_len (x : RecV) : (encRec x).length = 3 := rfl
/-- A told record: LSN, kind, body. -/
abbrev Told := Nat × Nat × List Nat
def RecV.told (x : RecV) : Told := (x.lsn, x.kind, x.body)
/-- The slice v reads as these records. -/
def RecsAt (w : World) (v : Value) (ts : List Told) : Prop := ∃ xs : List RecV, RK encRec 3 w w.heap.size v xs ∧ (∀ x ∈ xs, RB w w.heap.size x.v x.body) ∧ xs.map RecV.told = ts
theorem RecsAt.below {w w' : World} {v : Value} {ts : List Told} (h : RecsAt w v ts) (hb : Below w.heap.size w w') : RecsAt w' v ts := by
  obtain ⟨xs, h1, h2, h3⟩ := h
  exact ⟨xs, (h1.below hb).more hb.size, fun x hx => ((h2 x hx).below hb).more hb.size, h3⟩
/-- The i-th record of a log. -/
def LG.tell (m : LG) (i : Nat) : Told := (m.lsn (m.begs.getD i 0), m.st.getD (m.begs.getD i 0) 0, (textA m.st ((m.begs.getD i 0 : Nat) + 1 : Int) 1200).1)
theorem encRec_one (x : RecV) : ∀ u ∈ encRec x, u.oneCell' = true := by
  intro u hu
  simp only [encRec, List.mem_cons, List.not_mem_nil, or_false] at hu
  rcases hu with rfl | rfl | rfl <;> rfl
theorem etR : ElemT 58 64 3 40 := elemT_of (z := .agg #[.int .i64 0, .int .i64 0, .slice none 0 0]) Try.underlying58 (by kernel_rfl) (by kernel_rfl) (by decide) (by decide) (by decide)
/-- .. and in blocks of their own, from base on. -/
def RecsOwn (w : World) (base : Nat) (v : Value) (ts : List Told) : Prop := ∃ xs : List RecV, OK encRec 3 64 w base v xs ∧ (∀ x ∈ xs, RB w w.heap.size x.v x.body ∧ Off (fun b => b < base) x.v x.body) ∧ xs.map RecV.told = ts
theorem RecsOwn.at_ {w : World} {base : Nat} {v : Value} {ts : List Told} (h : RecsOwn w base v ts) : RecsAt w v ts := by
  obtain ⟨xs, h1, h2, h3⟩ := h
  exact ⟨xs, h1.rk encRec_len (Nat.le_refl _), fun x hx => (h2 x hx).1, h3⟩
theorem RecsOwn.below {w w' : World} {base : Nat} {v : Value} {ts : List Told} (h : RecsOwn w base v ts) (hb : Below w.heap.size w w') : RecsOwn w' base v ts := by
  obtain ⟨xs, h1, h2, h3⟩ := h
  exact ⟨xs, h1.below hb, fun x hx => ⟨((h2 x hx).1.below hb).more hb.size, (h2 x hx).2⟩, h3⟩
theorem RecsOwn.mono_ {w : World} {base base' : Nat} {v : Value} {ts : List Told} (h : RecsOwn w base v ts) (hb : base' ≤ base) : RecsOwn w base' v ts := by
  obtain ⟨xs, h1, h2, h3⟩ := h
  exact ⟨xs, h1.base hb, fun x hx => ⟨(h2 x hx).1, (h2 x hx).2.mono (fun k hk => by omega)⟩, h3⟩
theorem RecsOwn.mod {S : Nat → Prop} {w w' : World} {base : Nat} {v : Value} {ts : List Told} (h : RecsOwn w base v ts) (hm : Mod S w w') (hs : ∀ k, S k → k < base) : RecsOwn w' base v ts := by
  obtain ⟨xs, h1, h2, h3⟩ := h
  exact ⟨xs, h1.mod hm (fun b hb e => by have := (h1.lt b hb).1; have := hs b e; omega), fun x hx => ⟨(h2 x hx).1.mod hm ((h2 x hx).2.mono hs), (h2 x hx).2⟩, h3⟩
end Go.Proofs.Ytplkdcegfpiofaa

/-
  The walk of the log's recordsOf.
-/
namespace Go.Proofs.Ytplkdcegfpiofaa
open Go.RowKit Go.Maps
set_option linter.unusedVariables false

theorem make_own {t E k bytes : Nat} (et : ElemT t E k bytes) (q : Nat) (hq : q ≤ 1000000) : ∃ o : Obj, (∀ W : World, (Instr.makeSlice t (.int .i64 0) (.int .i64 (q : Int))).run Try.prog W = .ok (.slice (some ⟨W.heap.size, 0, none⟩) 0 q) (W.alloc o)) ∧
    ∀ {α : Type} (enc : α → List Value) (W : World) (B : Nat), B ≤ W.heap.size → OK enc k E (W.alloc o) B (.slice (some ⟨W.heap.size, 0, none⟩) 0 q) [] := by
  obtain ⟨i, z, hi, hz0, hz1, hz2, hz3⟩ := et.info
  have hb : bytes * q ≤ 1000 * 1000000 := Nat.mul_le_mul et.small hq
  refine ⟨.cells (madeCells z.cells (q * i.size)) E, fun W => ?_, fun enc W B hB => ⟨by simp, ?_⟩⟩
  · have hbi : (i.bytes : Int) * (q : Int) ≤ 281474976710656 := by
      have h : ((i.bytes * q : Nat) : Int) ≤ 281474976710656 := by rw [hz2]; omega
      rwa [Int.natCast_mul] at h
    have := run_make (P := Try.prog) W t E i z et.under hi hz0 .i64 .i64 0 (q : Int) (by omega) (by omega) hbi (by omega)
    simpa using this
  · exact World.ownsRow_made W _ q hB (by simp only [maxLen]; omega) (by rw [size_madeCells, hz1])
/-- What is known of the records laid so far: their bodies lie apart from the row. -/
def BodiesAt (w : World) (z : Nat) (v : Value) (xs : List RecV) : Prop := ∀ x ∈ xs, RB w w.heap.size x.v x.body ∧ Off (fun b => v.ownBlock = some b) x.v x.body ∧ Off (fun b => b < z) x.v x.body

set_option maxRecDepth 100000 in
set_option maxHeartbeats 1000000 in
theorem recordsOf_own (w : World) (p g B : Nat) (sv bv : Value) (m : LG) (h : LogAt w p g B sv bv m) (i0 : Nat) (hi : i0 ≤ m.begs.length) (hc : m.begs.length ≤ 900000) :
    Calls Try.prog 81 #[.pointer (some ⟨g, 0, none⟩), .int .i64 (i0 : Int)] w fun e w' => ∃ v, e = .returned v ∧ RecsOwn w' w.heap.size v ((List.range (m.begs.length - i0)).map (fun j => m.tell (i0 + j))) ∧ Below w.heap.size w w' := by
  obtain ⟨Ab, cb, hbv⟩ := h.begins
  obtain ⟨nb, hnb⟩ : ∃ nb, nb = m.begs.length := ⟨_, rfl⟩
  rw [← hnb] at hbv hi hc ⊢
  subst hbv
  obtain ⟨q, hq⟩ : ∃ q, q = nb - i0 := ⟨_, rfl⟩
  have hqi : (nb : Int) - (i0 : Int) = (q : Int) := by omega
  obtain ⟨o, hmk, hown⟩ := make_own etR q (by omega)
  have HOWN := Lib.hid (hown encRec)
  rw [← hq]
  have a6 := h.blk.cell 6
  have hg := h.lt
  have HL := Lib.hid h
  have HNB := Lib.hid hnb
  have hq1 : i0 + q ≤ nb := by omega
  have hq2 : nb ≤ i0 + q := by omega
  clear hown hnb h hq
  go_enter Try.func81, Try.ntmps81
  go_wp2_with fail
  go_loopw [1, 5] (fun i out wr => ∃ (k : Nat) (xs : List RecV) (A : Option Addr) (n c : Nat), i = .int .i64 (k : Int) ∧ out = .slice A n c ∧ k ≤ nb ∧ n ≤ q ∧ Hid (k = i0 + n) ∧ Hid (OK encRec 3 64 wr w.heap.size (.slice A n c) xs) ∧ Hid (xs.length = n) ∧ Hid (BodiesAt wr w.heap.size (.slice A n c) xs) ∧ Hid (xs.map RecV.told = (List.range n).map (fun j => m.tell (i0 + j))) ∧ Hid (Below w.heap.size w wr)) (fun i out wr => nb - (intOf i).toNat)
  case atStart => exact ⟨i0, [], some ⟨w.heap.size, 0, none⟩, 0, q, rfl, rfl, hi, Nat.zero_le _, Lib.hid rfl, Lib.hid (HOWN.out w w.heap.size (Nat.le_refl _)), Lib.hid rfl, Lib.hid (fun x hx => by cases hx), Lib.hid rfl, Lib.hid ((Below.refl _ _).alloc (Nat.le_refl _) _)⟩
  case round =>
    obtain ⟨k, xs, A, n, c, rfl, rfl, hknb0, hnq0, HK, HO, HLEN, HBD, HT, HB⟩ := hrel
    have hz := HB.out.size
    have b6 : wr.cell? ⟨g, 6, none⟩ = some (.slice Ab nb cb) := (HB.out.cell (p := ⟨g, 6, none⟩) hg).trans a6
    by_cases hknb : k < nb
    · have hlt : n < q := by have := HK.out; omega
      have hk1 : k ≤ 900000 := by omega
      have HLW : Hid (LogAt wr p g B sv (.slice Ab nb cb) m) := Lib.hid (HL.out.below HB.out)
      obtain ⟨t, ht⟩ : ∃ t, t = m.tell k := ⟨_, rfl⟩
      go_wp2_with fail
      refine (record_any wr p g B sv _ m HLW.out k (by rw [← HNB.out]; exact hknb)).mono ?_
      rintro e w1 ⟨v1, rfl, ho1, hb1⟩
      obtain ⟨A1, c1, rfl, -, -, -, -⟩ := ho1.rbn.open_
      obtain ⟨x, hx⟩ : ∃ x : RecV, x = ⟨m.lsn (m.begs.getD k 0), m.st.getD (m.begs.getD k 0) 0, A1, (textA m.st ((m.begs.getD k 0 : Nat) + 1 : Int) 1200).1.length, c1, (textA m.st ((m.begs.getD k 0 : Nat) + 1 : Int) 1200).1⟩ := ⟨_, rfl⟩
      have hxt : Hid (x.told = m.tell k) := Lib.hid (by rw [hx]; rfl)
      have ho1' : OB w1 wr.heap.size x.v x.body := by rw [hx]; exact ho1
      rw [show m.lsn (m.begs.getD k 0) = x.lsn by rw [hx], show m.st.getD (m.begs.getD k 0) 0 = x.kind by rw [hx], show (textA m.st ((m.begs.getD k 0 : Nat) + 1 : Int) 1200).1.length = x.n by rw [hx], show A1 = x.A by rw [hx], show c1 = x.c by rw [hx]]
      have HO1 := Lib.hid ho1'
      have HB1 := Lib.hid hb1
      have HOW : Hid (OK encRec 3 64 w1 w.heap.size (.slice A n c) xs) := Lib.hid (HO.out.below hb1)
      have hz1 := hb1.size
      have HBD1 : Hid (BodiesAt w1 w.heap.size (.slice A n c) xs) := Lib.hid (fun y hy => ⟨((HBD.out y hy).1.below hb1).more hb1.size, (HBD.out y hy).2⟩)
      have HLT : Hid (∀ b, (Value.slice A n c).ownBlock = some b → b < wr.heap.size) := Lib.hid (fun b hb => (HO.out.lt b hb).2)
      have hn1 : n + 1 ≤ 1000000 := by omega
      clear ho1 ho1' hb1 hx ht
      go_wp2_with (first
        | (at_builtin; refine wpList_appE etR encRec_len encRec_one (y := x) rfl (.tmp 23) (.tmp 27) rfl rfl (HOW.out.alloc _) w1.heap.size rfl (by intro j u hu; rw [(Blk.new w1 _ _).cell j]; simpa [encRec, RecV.v] using hu) (by rw [HLEN.out]; omega) (by simp; omega) ?_; intro v3 w4 k1 k2 k3; obtain ⟨A3, c3, hv3, -, -, -, -⟩ := (k1.rk encRec_len (Nat.le_refl _)).open_; have hl3 : (xs ++ [x]).length = n + 1 := (by rw [List.length_append, List.length_singleton, HLEN.out]); rw [hl3] at hv3; subst hv3; have K1 := Lib.hid k1; have K2 := Lib.hid k2; have K3 := Lib.hid k3; have HL3 := Lib.hid hl3; have hz4 := k2.size; clear k1 k2 k3 hl3))
      go_roundw
      case rel =>
        have hz4' : w1.heap.size + 1 ≤ w4.heap.size := by simpa using hz4
        refine ⟨k + 1, xs ++ [x], A3, n + 1, c3, by go_num, rfl, by omega, by omega, Lib.hid (by have := HK.out; omega), K1, HL3, Lib.hid (fun y hy => ?_), Lib.hid ?_, Lib.hid ?_⟩
        · rcases List.mem_append.1 hy with hy | hy
          · obtain ⟨y1, y2, y3⟩ := HBD1.out y hy
            refine ⟨((y1.alloc (Nat.le_refl _) _).more (by simp)).mod (Mod.of_grown K2.out) (y2.mono (fun b e => e.symm)), ?_, y3⟩
            rcases K3.out with e | e
            · rw [e]; exact y2
            · rw [e]; exact y1.off (fun b hb e2 => by simp at e2; omega)
          · rw [List.mem_singleton.1 hy]
            have hoff : Off (fun b => some b = (Value.slice A n c).ownBlock) x.v x.body := .inr (fun b hb e => by have := (HO1.out.lt b hb).1; have := HLT.out b e.symm; omega)
            refine ⟨(((HO1.out.rb (Nat.le_refl _)).alloc (Nat.le_refl _) _).more (by simp)).mod (Mod.of_grown K2.out) hoff, ?_, .inr (fun b hb e => by have := (HO1.out.lt b hb).1; omega)⟩
            rcases K3.out with e | e
            · rw [e]; exact hoff.mono (fun b e => e.symm)
            · rw [e]; exact .inr (fun b hb e2 => by have := (HO1.out.lt b hb).2; simp at e2; omega)
        · rw [List.map_append, HT.out, List.range_succ, List.map_append, List.map_singleton, List.map_singleton, hxt.out, HK.out]
        · exact ((HB.out.trans (HB1.out.mono hz)).alloc (by omega) _).grown K2.out (by simp; omega) (fun b hb => (HO.out.lt b hb).1)
      case measure => simp [intOf]; omega
    · have hqe : Hid (n = q) := Lib.hid (by have := HK.out; omega)
      go_wp2_with fail
      go_ret
      exact ⟨_, rfl, ⟨xs, HO.out, fun x hx => ⟨(HBD.out x hx).1, (HBD.out x hx).2.2⟩, by rw [HT.out, hqe.out]⟩, HB.out⟩
theorem recordsOf_any (w : World) (p g B : Nat) (sv bv : Value) (m : LG) (h : LogAt w p g B sv bv m) (i0 : Nat) (hi : i0 ≤ m.begs.length) (hc : m.begs.length ≤ 900000) :
    Calls Try.prog 81 #[.pointer (some ⟨g, 0, none⟩), .int .i64 (i0 : Int)] w fun e w' => ∃ v, e = .returned v ∧ RecsAt w' v ((List.range (m.begs.length - i0)).map (fun j => m.tell (i0 + j))) ∧ Below w.heap.size w w' :=
  (recordsOf_own w p g B sv bv m h i0 hi hc).mono fun e w' ⟨v, h1, h2, h3⟩ => ⟨v, h1, h2.at_, h3⟩
end Go.Proofs.Ytplkdcegfpiofaa

/-
  The walk of the log's Open, on a disk that is on and bears a log.
-/
namespace Go.Proofs.Ytplkdcegfpiofaa
open Go.RowKit Go.Maps
set_option linter.unusedVariables false

set_option maxRecDepth 100000 in
set_option maxHeartbeats 1000000 in
theorem findRecords_nil (w : World) (p sb mb g B : Nat) (pl : Option Nat) (s : DS) (m : LG) (h : WalAt w p sb mb pl s g B (.slice none 0 0) (.slice none 0 0) m) (hb : m.begs = []) (hst : m.st = []) :
    Calls Try.prog 87 #[.pointer (some ⟨g, 0, none⟩)] w fun e w' => e = .returned (.tuple #[]) ∧ (∃ sv' bv', WalAt w' p sb mb pl s g B sv' bv' (m.cutTo (scan m.st (m.st.length + 1) 0).1 (scan m.st (m.st.length + 1) 0).2)) ∧ Mod (fun k => k = g) w w' := by
  have e1 : Hid (m.cutTo (scan m.st (m.st.length + 1) 0).1 (scan m.st (m.st.length + 1) 0).2 = m) := Lib.hid (by
    rw [scan_end _ (by rw [hst]; exact Nat.zero_le _)]
    unfold LG.cutTo
    dsimp only
    rw [List.take_zero]
    cases m
    dsimp only at hb hst
    rw [hb, hst])
  rw [e1.out]
  have H := Lib.hid h
  have a5 := h.lg.blk.cell 5
  have f5 := h.lg.blk.frozen 5
  have hcell : Hid (WalAt (w.setCell ⟨g, 5, none⟩ (.slice none 0 0)) p sb mb pl s g B (.slice none 0 0) (.slice none 0 0) m) := Lib.hid ⟨h.dk.setLog h 5 _, h.lg.put 5 _ m h.lg.ok rfl rfl rfl, h.sep, h.pl⟩
  clear h hb hst e1
  go_enter Try.func87, Try.ntmps87
  go_wp2_with fail
  go_loopw [2] (fun i wr => i = .int .i64 0 ∧ wr = w) (fun i wr => 0)
  case atStart => exact ⟨rfl, rfl⟩
  case round =>
    obtain ⟨rfl, rfl⟩ := hrel
    go_wp2_with fail
    go_end0
    exact ⟨rfl, ⟨_, _, hcell.out⟩, (Mod.refl (fun k => k = g) wr).setCell (p := ⟨g, 5, none⟩) (fun _ => rfl) _⟩
theorem findRecords_any (w : World) (p sb mb g B : Nat) (sv : Value) (pl : Option Nat) (s : DS) (m : LG) (h : WalAt w p sb mb pl s g B sv (.slice none 0 0) m) (hb : m.begs = []) (hs : m.safe = 0) (hc : m.count ≤ 1000) :
    Calls Try.prog 87 #[.pointer (some ⟨g, 0, none⟩)] w fun e w' => e = .returned (.tuple #[]) ∧ (∃ sv' bv', WalAt w' p sb mb pl s g B sv' bv' (m.cutTo (scan m.st (m.st.length + 1) 0).1 (scan m.st (m.st.length + 1) 0).2)) ∧ Mod (fun k => k = g) w w' := by
  rcases h.lg.st.2.2.2 with ⟨e, hn⟩ | ⟨g1, cap, cur, e, _⟩
  · subst e
    exact findRecords_nil w p sb mb g B pl s m h hb (List.eq_nil_of_length_eq_zero hn)
  · subst e
    exact findRecords_some w p sb mb g B g1 _ cap pl s m h rfl hb hs hc

/-- All records of a log. -/
def LG.tells (m : LG) : List Told := (List.range m.begs.length).map m.tell
set_option maxRecDepth 100000 in
set_option maxHeartbeats 1000000 in
theorem Open_any (w : World) (p sb mb : Nat) (pl : Option Nat) (s : DS) (first count : Nat) (h : DiskAt w p sb mb pl s) (hoff : s.off = false) (hfit : first + count ≤ s.safe.length) (hc : 1 ≤ count ∧ count ≤ 1000) (hlog : isLog (s.has first)) :
    Calls Try.prog 35 #[.pointer (some ⟨p, 0, none⟩), .int .i64 (first : Int), .int .i64 (count : Int)] w fun e w' => ∃ g sv bv A n c, e = .returned (.tuple #[.pointer (some ⟨g, 0, none⟩), .slice A n c, .int .i64 0]) ∧ n = (LG.opened s first count).begs.length ∧ WalAt w' p sb mb pl s g w.heap.size sv bv (LG.opened s first count) ∧ RecsAt w' (.slice A n c) (LG.opened s first count).tells ∧ Below w.heap.size w w' := by
  have hn := h.ok.num
  have hth : Hid (thereB s.safe.length (first : Int) (count : Int) = true) := Lib.hid (by unfold thereB; simp; omega)
  have hI : I64 (first : Int) := ⟨by omega, by omega⟩
  have hl0 : (RS.upto s first 0).log first count = ⟨first, count, 0, 0, [], [], 0, false, false⟩ := rfl
  have H := Lib.hid h
  have HOFF := Lib.hid hoff
  have HFIT := Lib.hid hfit
  have HLOG := Lib.hid hlog
  have HI := Lib.hid hI
  have hW1 : Hid (WalAt (w.alloc (.cells #[.pointer (some ⟨p, 0, none⟩), .int .i64 (first : Int), .int .i64 (count : Int), .int .i64 0, .int .i64 0, .slice none 0 0, .slice none 0 0, .int .i64 0, .bool false, .bool false] 130)) p sb mb pl s w.heap.size w.heap.size (.slice none 0 0) (.slice none 0 0) ((RS.upto s first 0).log first count)) := Lib.hid (by
    have hlt := h.lt
    refine ⟨h.alloc _, ⟨RS.log_ok s (by omega) (by omega) (Nat.zero_le _), ?_, OB.nil _ _, OK.nil _ _, by simp [Value.ownBlock], by simp [Value.ownBlock], .inl rfl, Nat.le_refl _⟩, ⟨hlt.1, hlt.2.1, hlt.2.2.1⟩, ?_⟩
    · exact Blk.new _ _ _
    · intro b hb hk
      have := hlt.2.2.2 b hb
      rcases hk with hk | hk | hk
      · omega
      · cases hk
      · cases hk)
  clear h hoff hfit hlog hI hl0
  go_enter Try.func35, Try.ntmps35
  go_wp2_with fail
  refine (areThere_any w p sb mb pl s (first : Int) (count : Int) H.out HI.out).mono ?_
  rw [hth.out]
  rintro e w0 ⟨rfl, rfl⟩
  go_wp2_with fail
  refine (readStream_on _ p sb mb w.heap.size w.heap.size pl s first count hW1.out HOFF.out HFIT.out).mono ?_
  rintro e w2 ⟨hcase, hm2⟩
  have hres : e = .returned (.int .i64 0) ∧ ∃ sv', WalAt w2 p sb mb pl s w.heap.size w.heap.size sv' (.slice none 0 0) ((RS.upto s first count).log first count) := by
    rcases hcase with ⟨h, _⟩ | ⟨_, h1, h2⟩
    · exact absurd HLOG.out h
    · exact ⟨h1, h2⟩
  obtain ⟨rfl, sv2, hW2⟩ := hres
  have HW2 := Lib.hid hW2
  have HM2 := Lib.hid hm2
  clear hcase hm2 hW2
  go_wp2_with fail
  refine (findRecords_any w2 p sb mb w.heap.size w.heap.size sv2 pl s _ HW2.out rfl rfl (by show count ≤ 1000; omega)).mono ?_
  rintro e w3 ⟨rfl, ⟨sv3, bv3, hW3⟩, hm3⟩
  obtain ⟨m3, hm3e⟩ : ∃ m3, m3 = ((RS.upto s first count).log first count).cutTo (scan ((RS.upto s first count).log first count).st (((RS.upto s first count).log first count).st.length + 1) 0).1 (scan ((RS.upto s first count).log first count).st (((RS.upto s first count).log first count).st.length + 1) 0).2 := ⟨_, rfl⟩
  rw [← hm3e] at hW3
  have hme : Hid (({ m3 with safe := m3.st.length } : LG) = LG.opened s first count) := Lib.hid (by rw [hm3e]; rfl)
  obtain ⟨A3, c3, hsv3⟩ := hW3.lg.stream
  obtain ⟨n3, hn3⟩ : ∃ n3, n3 = m3.st.length := ⟨_, rfl⟩
  have hsv3' : sv3 = .slice A3 n3 c3 := by rw [hsv3, hn3]
  subst hsv3'
  have HW3 := Lib.hid hW3
  have HM3 := Lib.hid hm3
  have HN3 := Lib.hid hn3
  have c5 : w3.cell? ⟨w.heap.size, 5, none⟩ = some (.slice A3 n3 c3) := hW3.lg.blk.cell 5
  have c7 := hW3.lg.blk.cell 7
  have f7 := hW3.lg.blk.frozen 7
  have hW4 : Hid (WalAt (w3.setCell ⟨w.heap.size, 7, none⟩ (.int .i64 (n3 : Int))) p sb mb pl s w.heap.size w.heap.size (.slice A3 n3 c3) bv3 (LG.opened s first count)) := Lib.hid (by
    rw [← hme.out]
    refine ⟨hW3.dk.setLog hW3 7 _, hW3.lg.put 7 _ _ ⟨hW3.lg.ok.first, hW3.lg.ok.count, hW3.lg.ok.run, hW3.lg.ok.st, Nat.le_refl _, hW3.lg.ok.begs⟩ rfl rfl ?_, hW3.sep, hW3.pl⟩
    rw [hn3]; rfl)
  have hB4 : Hid (Below w.heap.size w (w3.setCell ⟨w.heap.size, 7, none⟩ (.int .i64 (n3 : Int)))) := Lib.hid (by
    have h1 : Mod (fun k => k = w.heap.size) w w3 := ((Mod.refl (fun k => k = w.heap.size) w).alloc _).trans' (HM2.out.trans' HM3.out)
    exact (h1.setCell (p := ⟨w.heap.size, 7, none⟩) (fun _ => rfl) _).below (Nat.le_refl _) (fun k e => Nat.le_of_eq e.symm))
  clear hW3 hm3 hsv3 hn3 hm3e
  go_wp2_with fail
  have hbl : (LG.opened s first count).begs.length ≤ 900000 := by
    have h1 := hW4.out.lg.ok.begs.1
    have h2 := hW4.out.lg.ok.st
    have h3 : (LG.opened s first count).count = count := rfl
    rw [h3] at h2
    omega
  refine (recordsOf_any _ p w.heap.size w.heap.size _ bv3 (LG.opened s first count) hW4.out.lg 0 (Nat.zero_le _) hbl).mono ?_
  rintro e w5 ⟨v5, rfl, hr5, hb5⟩
  have hts : (List.range ((LG.opened s first count).begs.length - 0)).map (fun j => (LG.opened s first count).tell (0 + j)) = (LG.opened s first count).tells := by
    unfold LG.tells
    rw [Nat.sub_zero]
    congr 1
    funext j
    rw [Nat.zero_add]
  rw [hts] at hr5
  have HW5 : Hid (WalAt w5 p sb mb pl s w.heap.size w.heap.size (.slice A3 n3 c3) bv3 (LG.opened s first count)) := Lib.hid (hW4.out.below hb5)
  have HR5 := Lib.hid hr5
  have HB5 : Hid (Below w.heap.size w w5) := Lib.hid (hB4.out.trans (hb5.mono hB4.out.size))
  have hform : ∃ A n c, v5 = .slice A n c ∧ n = (LG.opened s first count).begs.length := by
    obtain ⟨xs, h1, _, h2⟩ := hr5
    obtain ⟨A, c, rfl, _⟩ := h1.open_
    refine ⟨A, _, c, rfl, ?_⟩
    have := congrArg List.length h2
    unfold LG.tells at this
    simpa using this
  obtain ⟨A5, n5, c5', rfl, hn5⟩ := hform
  have HN5 := Lib.hid hn5
  clear hts hr5 hb5 hn5 hbl
  go_wp2_with fail
  go_ret3
  exact ⟨_, _, _, _, _, _, rfl, HN5.out, HW5.out, HR5.out, HB5.out⟩
end Go.Proofs.Ytplkdcegfpiofaa
