/-
  The walk of Begin.
-/
import Derived.Test.YtgahkloldpjnkaaMV4
import Derived.Deep.RegionHeld3
namespace Go.Proofs.Ytgahkloldpjnkaa
open Go.RowKit Go.Maps
set_option linter.unusedVariables false

theorem isSome_live {M : MV} {bl : Int → Nat} (n : Int) : ((M.live? n).map fun x => txV x.start (bl n)).isSome = (M.live? n).isSome := by cases M.live? n <;> rfl

theorem Begin_full (w : World) (g lb cb : Nat) (bl : Int → Nat) (M : MV) (h : MvAt w g lb cb bl M) (hf : M.nums.length = 8) :
    Calls Try.prog 18 #[.pointer (some ⟨g, 0, none⟩)] w fun e w' => e = .returned (.tuple #[.int .i64 0, .int .i64 142]) ∧ w' = w := by
  have a2 : w.cell? ⟨g, 2, none⟩ = some (.map (some lb)) := h.blk.cell 2
  have HM := Lib.hid h.live
  have HF := Lib.hid hf
  have HL := Lib.hid (nums_in M (by have := h.ok.count; omega) · (fun n => (M.live? n).map fun x => txV x.start (bl n)) isSome_live)
  clear h hf
  go_enter Try.func18, Try.ntmps18
  go_wp2_with (at_len; refine wpList_lenG (X := kI) rfl _ _ rfl _ Try.underlying57 lb 8 rfl HM.out M.nums (nums_nodup M) (fun k => HL.out k) 8 HF.out ?_)
  go_ret2
  exact ⟨rfl, rfl⟩

/-- What Begin leaves. -/
def BeginOut (w : World) (g lb cb : Nat) (bl : Int → Nat) (M : MV) (e : Ending) (w' : World) : Prop :=
  e = .returned (.tuple #[.int .i64 ((M.txns.length : Int) + 1), .int .i64 0]) ∧ ∃ bl', MvAt w' g lb cb bl' M.add ∧ Mod (OwnM g lb cb bl M) w w' ∧ ∀ k, OwnM g lb cb bl' M.add k → OwnM g lb cb bl M k ∨ w.heap.size ≤ k

theorem nums_add (M : MV) : M.add.nums = M.nums ++ [(M.txns.length : Int) + 1] := by
  unfold MV.nums
  have hl : M.add.txns.length = M.txns.length + 1 := by simp [MV.add]
  rw [hl, List.range_succ, List.filter_append, List.map_append]
  congr 1
  · congr 1
    refine List.filter_congr fun i hi => ?_
    have := List.mem_range.1 hi
    rw [live_add, if_neg (by omega)]
  · rw [List.filter_cons_of_pos (by rw [live_add, if_pos rfl]; rfl)]
    rfl

theorem add_hor (M : MV) : M.hor ≤ M.add.hor := by
  have h0 := hor_le_last M
  rcases hor_get M.add with e | ⟨n, x, hx, e⟩
  · rw [e]; exact h0
  · rw [e]
    rw [live_add] at hx
    split at hx
    · injection hx with hx; subst hx; exact h0
    · exact hor_le hx

theorem begin_end {w W w2 : World} {g lb cb : Nat} {bl : Int → Nat} {M : MV} (h : MvAt w g lb cb bl M) (hf : M.nums.length < 8) (hc : M.txns.length < 4611686018427387904) (hW : Mod (fun k => k = g) w W) (hz : W.heap.size = w.heap.size)
    (hb2 : Blk w2 g 60 #[.int .i64 M.last, .int .i64 ((M.txns.length : Int) + 1), .map (some lb), .map (some cb)])
    (hM2 : MapG kI pT w2 lb (8 + 1) (fun c : Int => if c = (M.txns.length : Int) + 1 then some (txV M.last W.heap.size) else (M.live? c).map fun x => txV x.start (bl c)))
    (hT : (W.alloc (.map #[] 0)).drew.mapTurned w2 lb) :
    ∃ bl', MvAt w2 g lb cb bl' M.add ∧ Mod (OwnM g lb cb bl M) w w2 ∧ ∀ k, OwnM g lb cb bl' M.add k → OwnM g lb cb bl M k ∨ w.heap.size ≤ k := by
  have hm : Mod (fun k => k = g ∨ k = lb) w w2 := ((((hW.mono fun _ _ e => Or.inl e).alloc _).drew).turned hT fun _ => .inr rfl)
  have hne := h.ne
  have hlt := h.live.lt
  obtain ⟨cm, hcm, hco⟩ := h.com
  have hclt := hcm.lt
  have hglt := h.blk.lt
  have hnew : MapG kR pU w2 W.heap.size 0 (fun _ : Rf => none) := by
    have h1 : MapG kR pU (W.alloc (.map #[] 0)) W.heap.size 0 (fun _ : Rf => none) := MapG.made W
    have h2 : Mod (fun k => k = lb) (W.alloc (.map #[] 0)) w2 := (Mod.of_below (Below.refl _ (W.alloc (.map #[] 0))) _).drew.turned hT fun _ => rfl
    exact h1.mod h2 (by omega)
  have hold : ∀ n x, M.live? n = some x → n ≠ (M.txns.length : Int) + 1 := fun n x hx e => by have := live_lt hx; omega
  refine ⟨fun n => if n = (M.txns.length : Int) + 1 then W.heap.size else bl n, ⟨⟨h.ok.last, ?_, ?_, ?_, ?_⟩, ?_, ?_, ?_, ⟨cm, ?_, ?_⟩, h.ap1, ?_, ?_⟩, hm.mono ?_, ?_⟩
  · intro x hx
    rcases List.mem_append.1 hx with hx | hx
    · exact h.ok.tx x hx
    · rw [List.mem_singleton.1 hx]; have := h.ok.last; dsimp only [MV.add]; omega
  · intro x hx r hr
    rcases List.mem_append.1 hx with hx | hx
    · exact h.ok.refs x hx r hr
    · rw [List.mem_singleton.1 hx] at hr; cases hr
  · rw [nums_add, List.length_append]; simp; omega
  · simp [MV.add]; omega
  · have : ((M.add.txns.length : Nat) : Int) = (M.txns.length : Int) + 1 := by simp [MV.add]
    rw [this]; exact hb2
  · have hL : ∀ k : Int, k ∈ M.add.nums ↔ I64 k ∧ ((if k = (M.txns.length : Int) + 1 then some (txV M.last W.heap.size) else (M.live? k).map fun x => txV x.start (bl k)).isSome = true) :=
      fun k => nums_in M.add (by simp [MV.add]; omega) k (fun k => if k = (M.txns.length : Int) + 1 then some (txV M.last W.heap.size) else (M.live? k).map fun x => txV x.start (bl k)) (fun n => by
        rw [live_add]; by_cases hn : n = (M.txns.length : Int) + 1
        · simp [hn]
        · rw [if_neg hn, if_neg hn, isSome_live])
    refine ((MapG.bound (X := kI) hM2 (nums_nodup M.add) hL).mono (by rw [nums_add, List.length_append]; simp; omega)).cast fun k _ => ?_
    rw [live_add]
    by_cases hn : k = (M.txns.length : Int) + 1
    · simp [hn]
    · simp [hn]
  · intro n x hx
    try dsimp only
    rw [live_add] at hx
    by_cases hn : n = (M.txns.length : Int) + 1
    · rw [if_pos hn] at hx ⊢
      injection hx with hx
      subst hx
      exact hnew.cast fun r _ => by simp
    · rw [if_neg hn] at hx ⊢
      have hs := h.sets n x hx
      exact hs.mod hm (by rintro (e | e); exact hne.2.2 n x hx e; exact (h.ap2 n x hx).1 e)
  · have : M.add.spent = M.spent := by simp [MV.add, MV.spent]
    rw [this]
    exact hcm.mod hm (by rintro (e | e); exact hne.2.1 e; exact h.ap1 e.symm)
  · refine ⟨fun r t hr => ?_, fun x hx r hr hlt => ?_⟩
    · obtain ⟨x, hx, h1, h2⟩ := hco.from_ r t hr
      exact ⟨x, List.mem_append_left _ hx, h1, h2⟩
    · rcases List.mem_append.1 hx with hx | hx
      · exact hco.there x hx r hr (by have := add_hor M; omega)
      · rw [List.mem_singleton.1 hx] at hr; cases hr
  · intro n x hx
    try dsimp only
    by_cases hn : n = (M.txns.length : Int) + 1
    · rw [if_pos hn]; omega
    · rw [live_add, if_neg hn] at hx
      rw [if_neg hn]; exact h.ap2 n x hx
  · intro n x k y hx hy e
    try dsimp only at e
    rw [live_add] at hx hy
    by_cases hn : n = (M.txns.length : Int) + 1
    · by_cases hk : k = (M.txns.length : Int) + 1
      · omega
      · rw [if_neg hk] at hy
        rw [if_pos hn, if_neg hk] at e
        have := (h.sets k y hy).lt; omega
    · rw [if_neg hn] at hx
      by_cases hk : k = (M.txns.length : Int) + 1
      · rw [if_neg hn, if_pos hk] at e
        have := (h.sets n x hx).lt; omega
      · rw [if_neg hk] at hy
        rw [if_neg hn, if_neg hk] at e
        exact h.ap3 n x k y hx hy e
  · rintro k _ (e | e)
    · exact .inl e
    · exact .inr (.inl e)
  · rintro k (e | e | e | ⟨n, x, hx, e⟩)
    · exact .inl (.inl e)
    · exact .inl (.inr (.inl e))
    · exact .inl (.inr (.inr (.inl e)))
    · dsimp only at e
      by_cases hn : n = (M.txns.length : Int) + 1
      · rw [if_pos hn] at e; right; omega
      · rw [if_neg hn] at e
        rw [live_add, if_neg hn] at hx
        exact .inl (.inr (.inr (.inr ⟨n, x, hx, e⟩)))

set_option maxRecDepth 100000 in
set_option maxHeartbeats 1000000 in
theorem Begin_room (w : World) (g lb cb : Nat) (bl : Int → Nat) (M : MV) (h : MvAt w g lb cb bl M) (N : Nat) (hN : M.nums.length = N) (hf : N < 8) (hc : M.txns.length < 4611686018427387904) :
    Calls Try.prog 18 #[.pointer (some ⟨g, 0, none⟩)] w (BeginOut w g lb cb bl M) := by
  have a0 : w.cell? ⟨g, 0, none⟩ = some (.int .i64 M.last) := h.blk.cell 0
  have a1 : w.cell? ⟨g, 1, none⟩ = some (.int .i64 (M.txns.length : Int)) := h.blk.cell 1
  have a2 : w.cell? ⟨g, 2, none⟩ = some (.map (some lb)) := h.blk.cell 2
  have f1 : w.frozen? ⟨g, 1, none⟩ = false := h.blk.frozen 1
  have hg := h.blk.lt
  have hlt := h.live.lt
  have hne := h.ne.1
  have HM := Lib.hid h.live
  have HF := Lib.hid hN
  have HL := Lib.hid (nums_in M (by have := h.ok.count; omega) · (fun n => (M.live? n).map fun x => txV x.start (bl n)) isSome_live)
  have H := Lib.hid h
  clear h hN
  go_enter Try.func18, Try.ntmps18
  go_wp2_with (at_len; refine wpList_lenG (X := kI) rfl _ _ rfl _ Try.underlying57 lb 8 rfl HM.out M.nums (nums_nodup M) (fun k => HL.out k) N HF.out ?_)
  have hb : Blk w g 60 #[.int .i64 M.last, .int .i64 (M.txns.length : Int), .map (some lb), .map (some cb)] := H.out.blk
  have hb1 := hb.set_ 1 (.int .i64 ((M.txns.length : Int) + 1))
  have hW : Mod (fun k => k = g) w (w.setCell ⟨g, 1, none⟩ (.int .i64 ((M.txns.length : Int) + 1))) := (Mod.refl (fun k => k = g) w).setCell (p := ⟨g, 1, none⟩) (fun _ => rfl) _
  have hz : (w.setCell ⟨g, 1, none⟩ (.int .i64 ((M.txns.length : Int) + 1))).heap.size = w.heap.size := by simp
  generalize w.setCell ⟨g, 1, none⟩ (.int .i64 ((M.txns.length : Int) + 1)) = W at *
  simp only [List.setIfInBounds_toArray, List.set_cons_succ, List.set_cons_zero] at hb1
  have b0 : W.cell? ⟨g, 0, none⟩ = some (.int .i64 M.last) := hb1.cell 0
  have b1 : W.cell? ⟨g, 1, none⟩ = some (.int .i64 ((M.txns.length : Int) + 1)) := hb1.cell 1
  have b2 : W.cell? ⟨g, 2, none⟩ = some (.map (some lb)) := hb1.cell 2
  have hgW : g < W.heap.size := by omega
  have c0 : (W.alloc (.map #[] 0)).drew.cell? ⟨g, 0, none⟩ = some (.int .i64 M.last) := ((hb1.alloc _).drew).cell 0
  have c1 : (W.alloc (.map #[] 0)).drew.cell? ⟨g, 1, none⟩ = some (.int .i64 ((M.txns.length : Int) + 1)) := ((hb1.alloc _).drew).cell 1
  have c2 : (W.alloc (.map #[] 0)).drew.cell? ⟨g, 2, none⟩ = some (.map (some lb)) := ((hb1.alloc _).drew).cell 2
  have hmm := @run_makeMap Try.prog
  have hM1 : MapG kI pT ((W.alloc (.map #[] 0)).drew) lb 8 (fun n : Int => (M.live? n).map fun x => txV x.start (bl n)) := HM.out.mod (S := fun k => k = g) ((hW.alloc _).drew) hne
  have hi : I64 ((M.txns.length : Int) + 1) := by unfold I64; omega
  obtain ⟨w2, hrun, hM2, hturn⟩ := hM1.store (X := kI) Try.underlying57 (by omega) hi (pT_tx M.last W.heap.size)
  have hrun' : (Instr.mapUpdate 57 (.map (some lb)) (.int .i64 ((M.txns.length : Int) + 1)) (.agg #[.int .i64 M.last, .map (some W.heap.size)])).run Try.prog ((W.alloc (.map #[] 0)).drew) = .ok () w2 := hrun
  clear hrun
  have hb2 : Blk w2 g 60 #[.int .i64 M.last, .int .i64 ((M.txns.length : Int) + 1), .map (some lb), .map (some cb)] := ((hb1.alloc _).drew).grown hturn.grown (by simpa using fun e => hne e.symm)
  have d1 : w2.cell? ⟨g, 1, none⟩ = some (.int .i64 ((M.txns.length : Int) + 1)) := hb2.cell 1
  have HB2 := Lib.hid hb2
  have HB1 := Lib.hid hb1
  have HW := Lib.hid hW
  have HZ := Lib.hid hz
  have HM2 := Lib.hid hM2
  have HT := Lib.hid hturn
  clear hb hb2 hb1 hW hz hM1 hM2 hturn a0 a1 a2 f1 hi
  go_region
  go_wp2
  go_ret2
  exact ⟨rfl, begin_end H.out (by rw [HF.out]; exact hf) hc HW.out HZ.out HB2.out HM2.out HT.out⟩

end Go.Proofs.Ytgahkloldpjnkaa
