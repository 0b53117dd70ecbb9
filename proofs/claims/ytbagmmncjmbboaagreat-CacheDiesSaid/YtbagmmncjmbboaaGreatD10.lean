/-
  The walks of the disk's join, All, Safe.
-/
import Derived.Test.YtbagmmncjmbboaaGreatD9
namespace Go.Proofs.YtbagmmncjmbboaaGreat
open Go.RowKit Go.Maps
set_option linter.unusedVariables false

theorem flatMap_take (g : Nat → List Nat) (k : Nat) : (List.range (k + 1)).flatMap g = (List.range k).flatMap g ++ g k := by
  rw [List.range_succ, List.flatMap_append]; simp

theorem flatMap_len {g : Nat → List Nat} : ∀ n, (∀ i, i < n → (g i).length = 512) → ((List.range n).flatMap g).length = n * 512
  | 0, _ => rfl
  | n + 1, h => by rw [flatMap_take, List.length_append, flatMap_len n (fun i hi => h i (by omega)), h n (by omega)]; omega

theorem below_var {w W1 W2 : World} {o : Obj} (hb : Below w.heap.size w W1) (hm : Mod (fun k => k = W1.heap.size) (W1.alloc o) W2) : Below w.heap.size w W2 :=
  (((Mod.of_below hb (fun k => w.heap.size ≤ k)).alloc o).trans hm (fun j hj e => by have := hb.size; omega)).below (Nat.le_refl _) (fun _ h => h)

theorem size_var {W1 W2 : World} {o : Obj} (hz : W2.heap.size = (W1.alloc o).heap.size) : W1.heap.size < W2.heap.size := by rw [hz]; simp

theorem len_var {a b : List Nat} {k n : Nat} (ha : a.length = k * 512) (hb : b.length = 512) (hk : k < n) (hn : n ≤ 4096) : a.length + b.length ≤ 140737488355328 := by omega

theorem safes_eq (s : DS) : s.safes = (List.range s.safe.length).flatMap fun i => s.safe.getD i [] := by
  unfold DS.safes
  have : s.safe = (List.range s.safe.length).map fun i => s.safe.getD i [] := by
    apply List.ext_getElem?
    intro i
    by_cases hi : i < s.safe.length
    · simp [List.getD, hi]
    · rw [List.getElem?_eq_none (by omega), List.getElem?_eq_none (by simp; omega)]
  rw [show s.safe.flatMap id = ((List.range s.safe.length).map fun i => s.safe.getD i []).flatMap id by rw [← this], List.flatMap_map]
  rfl


set_option maxRecDepth 100000 in
set_option maxHeartbeats 1000000 in
theorem join_has (w : World) (p sb mb : Nat) (pl : Option Nat) (s : DS) (h : DiskAt w p sb mb pl s) :
    Calls Tryz.prog 44 #[.pointer (some ⟨p, 0, none⟩), .func (.func 45) #[.pointer (some ⟨p, 0, none⟩)] #[]] w fun e w' => ∃ v, e = .returned v ∧ OB w' w.heap.size v ((List.range s.safe.length).flatMap s.has) ∧ Below w.heap.size w w' := by
  have hn := h.ok.num
  have hlt := h.lt
  have a0 := h.blk.cell 0
  obtain ⟨n, hnn⟩ : ∃ n, n = s.safe.length := ⟨_, rfl⟩
  rw [← hnn] at a0 hn ⊢
  have hg : ∀ i, i < n → SecOk (s.has i) := fun i hi => h.ok.has (by omega)
  have hgl : ∀ k, k ≤ n → ((List.range k).flatMap s.has).length = k * 512 := fun k hk => flatMap_len k fun i hi => (hg i (by omega)).1
  have HG := Lib.hid hg
  have HGL := Lib.hid hgl
  have H := Lib.hid h
  have HN := Lib.hid hnn
  skip
  obtain ⟨i0, hi, hz0, hz1, hz2⟩ := info_parts info5
  have hmk : ∃ cur : Array Value, cur.size = n * 512 ∧ ∀ W : World, (Instr.makeSlice 22 (.int .i64 0) (.int .i64 ((n : Int) * 512))).run Tryz.prog W = .ok (.slice (some ⟨W.heap.size, 0, none⟩) 0 (n * 512)) (W.alloc (.cells cur 5)) := by
    refine ⟨madeCells (Value.int .u8 0).cells (n * 512), size_madeCells _ _, fun W => ?_⟩
    have := run_make (P := Tryz.prog) W 22 5 i0 _ Tryz.underlying22 hi hz0 .i64 .i64 0 ((n : Int) * 512) (by omega) (by omega) (by rw [hz2]; omega) (by omega)
    rw [hz1, show ((n : Int) * 512).toNat = n * 512 by omega] at this
    simpa using this
  obtain ⟨cur, hcs, hmk⟩ := hmk
  have HCS := Lib.hid hcs
  clear hi hz0 hz1 hz2 hg hgl h hnn hcs 
  go_enter Tryz.func44, Tryz.ntmps44
  go_wp2_with fail
  go_loopw [5, 20] (fun out i wr => ∃ k : Nat, k ≤ n ∧ i = .int .i64 k ∧ Hid (OB wr w.heap.size out ((List.range k).flatMap s.has)) ∧ Hid (Below w.heap.size w wr)) (fun out i wr => n - (intOf i).toNat)
  case atStart => exact ⟨0, Nat.zero_le _, rfl, OB.made w w.heap.size cur _ (Nat.le_refl _) (by omega) HCS.out, (Below.refl _ _).alloc (Nat.le_refl _) _⟩
  case round =>
    obtain ⟨k, hk, rfl, HO, HB⟩ := hrel
    have hwz := HB.out.size
    by_cases hlt2 : k < n
    · have hsec := HG.out k hlt2
      have hlen := HGL.out k hk
      have hstep := flatMap_take s.has k
      have HST := Lib.hid hstep
      have HLE := Lib.hid hlen
      clear hstep hlen
      have hD := H.out.mod (Mod.mono (S' := fun _ => False) ⟨HB.out.os, HB.out.tape, HB.out.output, HB.out.size, fun k hk _ => HB.out.block k hk⟩ (fun _ _ e => e)) id id id (fun _ _ => id)
      have HD := Lib.hid hD
      clear hD
      go_wp2_with (first
        | (go_at_call 45; refine (has_any wr p sb mb pl s HD.out k (by have := HN.out; omega)).mono ?_; rintro e W1 ⟨rfl, hb1⟩; have HB1 := Lib.hid hb1; clear hb1)
        | (refine wpList_allocS_ rfl rfl _ rfl ?_)
        | (refine wpList_storeS_ rfl _ _ rfl W1.heap.size [sec0] 0 (s.has k) rfl rfl (Secs.new W1) (by simp) hsec ?_; intro W2 hS2 hm2 hz2; have HS2 := Lib.hid hS2; have HM2 := Lib.hid hm2; have HZ2 := Lib.hid hz2; have hbb := Lib.hid (below_var HB1.out hm2); have hzw := Lib.hid (size_var hz2); clear hS2 hm2 hz2)
        | (at_builtin; (refine wpList_app rfl (.tmp 26) (.tmp 27) rfl w.heap.size _ _ rfl (HO.out.below hbb.out) W2.heap.size _ (s.has k) rfl (HS2.out.rb hzw.out) (Nat.le_trans hwz hbb.out.size) (len_var HLE.out hsec.1 hlt2 hn) ?_); intro v' W3 ho3 hg3 _; have HO3 := Lib.hid ho3; have HG3 := Lib.hid hg3; clear ho3 hg3))
      go_roundw
      case rel =>
        refine ⟨k + 1, by omega, by go_num, by rw [HST.out]; exact HO3, ?_⟩
        exact ((HB.out.trans (hbb.out.mono hwz))).grown HG3.out (by have := hbb.out.size; omega) (fun j hj => (HO.out.lt j hj).1)
      case measure => simp [intOf]; omega
    · obtain rfl : k = n := by omega
      go_wp2_with fail
      go_ret
      exact ⟨_, rfl, HO.out, HB.out⟩

theorem All_any (w : World) (p sb mb : Nat) (pl : Option Nat) (s : DS) (h : DiskAt w p sb mb pl s) :
    Calls Tryz.prog 11 #[.pointer (some ⟨p, 0, none⟩)] w fun e w' => ∃ v, e = .returned v ∧ OB w' w.heap.size v s.all ∧ Below w.heap.size w w' := by
  have H := Lib.hid h
  clear h
  go_enter Tryz.func11, Tryz.ntmps11
  go_wp2_with (first | (go_at_call 44; refine (join_has w p sb mb pl s H.out).mono ?_; rintro e w' ⟨v, rfl, ho, hb⟩; have HO := Lib.hid ho; have HB := Lib.hid hb; clear ho hb))
  go_ret
  exact ⟨v, rfl, HO.out, HB.out⟩
end Go.Proofs.YtbagmmncjmbboaaGreat
