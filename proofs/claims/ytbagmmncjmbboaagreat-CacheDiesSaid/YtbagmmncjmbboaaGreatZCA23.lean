/-
  The walk of skeinlaw10.made: a disk with these pages, a log that begins, a pool.
-/
import Derived.Test.YtbagmmncjmbboaaGreatZCA18
import Derived.Test.YtbagmmncjmbboaaGreatZV18
import Derived.Test.YtbagmmncjmbboaaGreatD11
import Derived.Test.YtbagmmncjmbboaaGreatZN1
namespace Go.Proofs.YtbagmmncjmbboaaGreat
open Go.RowKit Go.Maps
set_option linter.unusedVariables false

/-- The bytes that made loads. -/
def allL (l : List Nat) (count : Nat) : List Nat := List.replicate 2048 0 ++ l ++ List.replicate (512 * count - l.length) 0

theorem allL_len {l : List Nat} {count : Nat} (h : l.length ≤ 512 * count) : (allL l count).length = (4 + count) * 512 := by
  unfold allL
  rw [List.length_append, List.length_append, List.length_replicate, List.length_replicate]; omega

/-- The disk that made loads. -/
def disk10 (l : List Nat) (count : Nat) : DS := DS.load (allL l count)

theorem disk10_len {l : List Nat} {count : Nat} (h : l.length ≤ 512 * count) (hc : count ≤ 12) : (disk10 l count).safe.length = 4 + count := by
  unfold disk10 DS.load secsOf
  dsimp only
  rw [List.length_map, List.length_range, allL_len h]
  omega

theorem disk10_clean (l : List Nat) (count : Nat) : Clean (disk10 l count) := ⟨fun _ => rfl, rfl⟩

theorem disk10_has {l : List Nat} {count i : Nat} (h : l.length ≤ 512 * count) (hc : count ≤ 12) (hi : i < 4 + count) : (disk10 l count).has i = pad (((allL l count).drop (i * 512)).take 512) := by
  have hl := disk10_len h hc
  show ((disk10 l count).safe.getD i []) = _
  unfold disk10 DS.load at hl ⊢
  dsimp only at hl ⊢
  rw [List.length_map, List.length_range] at hl
  rw [List.getD, List.getElem?_map, List.getElem?_range (by omega)]
  rfl

theorem pad_zero : pad (List.replicate 512 0) = sec0 := pad_full List.length_replicate

def lenS : Value → Nat
  | .slice _ n _ => n
  | _ => 0

theorem disk10_log {l : List Nat} {count i : Nat} (h : l.length ≤ 512 * count) (hc : count ≤ 12) (hi : i < 4) : (disk10 l count).has i = sec0 := by
  rw [disk10_has h hc (by omega)]
  unfold allL
  rw [List.append_assoc, List.drop_append_of_le_length (by rw [List.length_replicate]; omega), List.take_append_of_le_length (by rw [List.length_drop, List.length_replicate]; omega), List.drop_replicate, List.take_replicate]
  rw [show min 512 (2048 - i * 512) = 512 by omega]
  exact pad_zero

theorem disk10_blank {count i : Nat} (hc : count ≤ 12) (hi : i < 4 + count) : (disk10 [] count).has i = sec0 := by
  rw [disk10_has (by simp) hc hi]
  have e : allL [] count = List.replicate ((4 + count) * 512) 0 := by
    unfold allL
    rw [List.append_nil, List.replicate_append_replicate]
    congr 1
    simp; omega
  rw [e, List.drop_replicate, List.take_replicate, show min 512 ((4 + count) * 512 - i * 512) = 512 by omega]
  exact pad_zero

theorem begun10 {l : List Nat} {count : Nat} (h : l.length ≤ 512 * count) (hc : count ≤ 12) : Begun (disk10 l count) 0 4 :=
  begun (disk10_clean l count) (by rw [disk10_len h hc]; omega) (by omega) (by omega) (fun k hk => by rw [Nat.zero_add, disk10_log h hc hk]; exact secRun_sec0)

theorem zeros_made (n : Nat) : madeCells (Value.int .u8 0).cells n = ((List.replicate n 0).map Proofs.YtbagmmncjmbboaaGreat.bcell).toArray := by
  apply Array.ext
  · simp [size_madeCells]
  · intro i h1 h2
    simp [madeCells, Value.cells, Proofs.YtbagmmncjmbboaaGreat.bcell, Nat.mod_one]

def MadeC (w : World) (l : List Nat) (count : Nat) (frames : Int) (Q : Nat → Prop) (e : Ending) (w' : World) : Prop := ∃ I, e = .returned (.tuple #[.pointer (some ⟨I.p, 0, none⟩), .pointer (some ⟨I.g, 0, none⟩), .pointer (some ⟨I.q, 0, none⟩)]) ∧
  PoolAt w' I Q (newC (begS (disk10 l count) 0 4) (begL (disk10 l count) 0 4) 4 count (nfOf frames)) ∧ (∀ k, I.Core k → w.heap.size ≤ k) ∧ I.pl = none ∧ Below w.heap.size w w'

set_option maxRecDepth 100000 in
set_option maxHeartbeats 4000000 in
theorem made10_any (w : World) (v : Value) (l : List Nat) (hv : RB w w.heap.size v l) (count : Nat) (hl : l.length ≤ 512 * count) (hc : 1 ≤ count ∧ count ≤ 12) (frames : Int) (Q : Nat → Prop) (hQ : ∀ k, Q k → k < w.heap.size) :
    Calls Tryz.prog 10 #[v, .int .i64 (count : Int), .int .i64 frames] w (MadeC w l count frames Q) := by
  obtain ⟨i0, hi, hz0, hz1, hz2⟩ := info_parts info5
  have hmk : ∀ W : World, (Instr.makeSlice 22 (.int .i64 2048) (.int .i64 2048)).run Tryz.prog W = .ok (.slice (some ⟨W.heap.size, 0, none⟩) 2048 2048) (W.alloc (.cells ((List.replicate 2048 0).map Proofs.YtbagmmncjmbboaaGreat.bcell).toArray 5)) := by
    intro W
    have := run_make (P := Tryz.prog) W 22 5 i0 (Value.int .u8 0) Tryz.underlying22 hi hz0 .i64 .i64 2048 2048 (by omega) (by omega) (by rw [hz2]; omega) (by omega)
    rw [hz1] at this
    have e := zeros_made 2048
    rw [← e]
    simpa using this
  have hb := begun10 hl hc.2
  have hf : Hid (DS.format (0 : Nat) (4 : Nat) (disk10 l count) = (fmtS (disk10 l count) 0 4, 0)) := Lib.hid (Prod.ext rfl hb.fmt)
  have HBG := Lib.hid hb
  have HV := Lib.hid hv
  have HL := Lib.hid hl
  have HQ := Lib.hid hQ
  obtain ⟨n0, hn0⟩ : ∃ n0, n0 = l.length := ⟨_, rfl⟩
  have HN := Lib.hid hn0
  have hw1 : IntKind.i64.wrap (4 + (count : Int)) = ((4 + count : Nat) : Int) := by rw [IntKind.wrap_i64]; omega
  have hw2 : IntKind.i64.wrap (((4 + count : Nat) : Int) * 512) = (((4 + count) * 512 : Nat) : Int) := by rw [IntKind.wrap_i64]; omega
  have hn1 : n0 ≤ 512 * count := by rw [hn0]; exact hl
  obtain ⟨T, hT⟩ : ∃ T, T = (4 + count) * 512 := ⟨_, rfl⟩
  rw [← hT] at hw2
  have hT2 : 2048 + n0 ≤ T ∧ T ≤ 8192 := by omega
  have HT := Lib.hid hT
  have HS0 : Hid ((disk10 l count).steps = 0) := Lib.hid rfl
  obtain ⟨A0, c0, rfl, -, -, -, -⟩ := hv.open_
  rw [← hn0] at HV ⊢
  clear hb hl hQ hi hz0 hz1 hz2 hv hn0 hT
  go_enter Tryz.func10, Tryz.ntmps10
  have HO1 : Hid (OB (w.alloc (.cells ((List.replicate 2048 0).map Proofs.YtbagmmncjmbboaaGreat.bcell).toArray 5)) w.heap.size (.slice (some ⟨w.heap.size, 0, none⟩) 2048 2048) (List.replicate 2048 0)) := Lib.hid (OB.ofRow (heap_alloc_new w _) rfl (by simp) (Nat.le_refl _) (fun x hx => by have := (List.mem_replicate.1 hx).2; omega) (by omega))
  have HB1 : Hid (Below w.heap.size w (w.alloc (.cells ((List.replicate 2048 0).map Proofs.YtbagmmncjmbboaaGreat.bcell).toArray 5))) := Lib.hid ((Below.refl _ _).alloc (Nat.le_refl _) _)
  go_wp2_with (at_builtin; refine wpList_app rfl _ _ rfl w.heap.size _ (List.replicate 2048 0) rfl HO1.out _ _ l rfl (HV.out.below HB1.out) (by simp) (by rw [List.length_replicate]; have := HN.out; omega) ?_; intro v2 w2 ho2 hg2 _; have HO2 := Lib.hid ho2; have HB2 : Hid (Below w.heap.size w w2) := Lib.hid (HB1.out.grown hg2 (by simp) (fun k hk => (HO1.out.lt k hk).1)); clear ho2 hg2)
  obtain ⟨A2, c2, e2, -, -, -, -⟩ := HO2.out.rbn.open_
  rw [List.length_append, List.length_replicate, ← HN.out] at e2
  subst e2
  go_loopw [9] (fun v wr => ∃ j A c, v = .slice A (2048 + n0 + j) c ∧ 2048 + n0 + j ≤ T ∧ Hid (OB wr w.heap.size (.slice A (2048 + n0 + j) c) (List.replicate 2048 0 ++ l ++ List.replicate j 0)) ∧ Hid (Below w.heap.size w wr)) (fun v wr => T - lenS v)
  case atStart => exact ⟨0, A2, c2, rfl, hT2.1, Lib.hid (by rw [List.replicate_zero, List.append_nil]; exact HO2.out), HB2⟩
  case round =>
    obtain ⟨j, A, c, rfl, hj, HO, HB⟩ := hrel
    by_cases hlt : 2048 + n0 + j < T
    · have hdec : decide (2048 + (n0 : Int) + (j : Int) < (4 + (count : Int)) * 512) = true := by have := HT.out; simp; omega
      have HLN : Hid ((List.replicate 2048 0 ++ l ++ List.replicate j 0).length = 2048 + n0 + j) := Lib.hid (by rw [List.length_append, List.length_append, List.length_replicate, List.length_replicate, ← HN.out])
      go_wp2_with (at_builtin; go_must (refine wpList_app1 (w0 := w) rfl _ _ rfl w.heap.size _ _ rfl HO.out HB.out (Nat.le_refl _) _ 0 rfl (by omega) rfl (by rw [HLN.out]; omega) ?_); intro v' w1' ho1 hb1 _; have HO1 := Lib.hid ho1; have HB1' := Lib.hid hb1; have hf1 : ∃ A1 c1, v' = .slice A1 (2048 + n0 + (j + 1)) c1 := (by obtain ⟨A1, c1, e, _, _, _, _⟩ := ho1.rbn.open_; rw [List.length_append, List.length_singleton, HLN.out] at e; exact ⟨_, _, e⟩); obtain ⟨A1, c1, rfl⟩ := hf1; clear ho1 hb1)
      go_roundw
      case rel => exact ⟨j + 1, A1, c1, rfl, by omega, Lib.hid (by rw [show List.replicate (j + 1) 0 = List.replicate j 0 ++ [0] from List.replicate_succ', ← List.append_assoc]; exact HO1.out), HB1'⟩
      case measure => simp [lenS]; omega
    · have hdec : decide (2048 + (n0 : Int) + (j : Int) < (4 + (count : Int)) * 512) = false := by have := HT.out; simp; omega
      have hj2 : 2048 + n0 + j = T := by omega
      have HALL : Hid (OB wr w.heap.size (.slice A (2048 + n0 + j) c) (allL l count)) := Lib.hid (by
        have e : 512 * count - l.length = j := by have := HN.out; have := HT.out; omega
        unfold allL; rw [e]; exact HO.out)
      clear HO hj2
      go_wp2_with fail
      refine (Load_any wr _ (allL l count) HALL.out.rbn).mono ?_
      rintro e W0 ⟨rfl, hd0, hb0⟩
      have H0 : Hid (DiskAt W0 (wr.heap.size + 2) wr.heap.size (wr.heap.size + 1) none (disk10 l count)) := Lib.hid hd0
      have HB0 : Hid (Below w.heap.size w W0) := Lib.hid (HB.out.trans (hb0.mono HB.out.size))
      have hzr := HB.out.size
      clear hd0 hb0
      go_wp2_with fail
      refine (Format_any W0 (wr.heap.size + 2) wr.heap.size (wr.heap.size + 1) none (disk10 l count) 0 4 H0.out (by rw [HS0.out]; decide) ⟨by omega, by omega⟩).mono ?_
      rw [show DS.format 0 4 (disk10 l count) = (fmtS (disk10 l count) 0 4, 0) from hf.out]
      rintro e W1 ⟨rfl, hd1, hm1⟩
      have H1 : Hid (DiskAt W1 (wr.heap.size + 2) wr.heap.size (wr.heap.size + 1) none (fmtS (disk10 l count) 0 4)) := Lib.hid hd1
      have HB1' : Hid (Below w.heap.size w W1) := Lib.hid (below_by HB0.out hm1 (fun k hk => by unfold Own at hk; omega))
      clear hd1 hm1
      go_wp2_with fail
      refine (Open_any W1 (wr.heap.size + 2) wr.heap.size (wr.heap.size + 1) none (fmtS (disk10 l count) 0 4) 0 4 H1.out HBG.out.clean1.off (by rw [HBG.out.len1, disk10_len HL.out hc.2]; omega) ⟨by omega, by omega⟩ HBG.out.log).mono ?_
      rintro e W2 ⟨g, sv, bv, A3, n3, c3, rfl, hn3, hw2', hr2, hb2⟩
      have HW2 : Hid (WalAt W2 (wr.heap.size + 2) wr.heap.size (wr.heap.size + 1) none (fmtS (disk10 l count) 0 4) g W1.heap.size sv bv (fmtL (disk10 l count) 0 4)) := Lib.hid hw2'
      have HZ1 : Hid (w.heap.size ≤ W1.heap.size) := Lib.hid HB1'.out.size
      have HB3 : Hid (Below w.heap.size w W2) := Lib.hid (HB1'.out.trans (hb2.mono HB1'.out.size))
      clear hn3 hw2' hr2 hb2
      go_wp2_with fail
      refine (Reset_any W2 (wr.heap.size + 2) wr.heap.size (wr.heap.size + 1) g W1.heap.size none (fmtS (disk10 l count) 0 4) sv bv (fmtL (disk10 l count) 0 4) HW2.out (by have := HBG.out.steps1; rw [HS0.out] at this; omega)).mono ?_
      rw [HBG.out.res]
      rintro e W3 ⟨rfl, ⟨sv3, bv3, hw3⟩, hm3⟩
      have HW3 : Hid (WalAt W3 (wr.heap.size + 2) wr.heap.size (wr.heap.size + 1) none (begS (disk10 l count) 0 4) g W1.heap.size sv3 bv3 (begL (disk10 l count) 0 4)) := Lib.hid hw3
      have HB4 : Hid (Below w.heap.size w W3) := Lib.hid (below_by HB3.out hm3 (HW2.out.ownW ⟨by omega, by omega, by omega, HZ1.out⟩))
      clear hw3 hm3
      have HOW : Hid (∀ k, (OwnW (wr.heap.size + 2) wr.heap.size (wr.heap.size + 1) g k ∨ OwnL g sv3 bv3 k ∨ (none : Option Nat) = some k) → w.heap.size ≤ k) := Lib.hid (by
        intro k hk
        rcases hk with e | e | e
        · exact HW3.out.ownW ⟨by omega, by omega, by omega, HZ1.out⟩ k e
        · exact HW3.out.ownL HZ1.out k e
        · cases e)
      go_wp2_with fail
      refine (New_pool W3 (wr.heap.size + 2) wr.heap.size (wr.heap.size + 1) g W1.heap.size none (begS (disk10 l count) 0 4) sv3 bv3 (begL (disk10 l count) 0 4) HW3.out 4 count frames (by omega) Q (fun k hk => ⟨Nat.lt_of_lt_of_le (HQ.out k hk) HB4.out.size, fun e => by have := HOW.out k e; have := HQ.out k hk; omega⟩)).mono ?_
      rintro e W4 ⟨rfl, hp4, hb4⟩
      have HP4 := Lib.hid hp4
      have HB5 := Lib.hid hb4
      clear hp4 hb4
      go_wp2_with fail
      go_ret3
      have hz4 := HB4.out.size
      refine ⟨_, rfl, HP4.out, ?_, rfl, HB4.out.trans (HB5.out.mono hz4)⟩
      rintro k (e | e | e | e | e | e)
      · exact HOW.out k (.inl e)
      · exact HOW.out k (.inr (.inl e))
      · exact HOW.out k (.inr (.inr e))
      · simp only [newI] at e; omega
      · simp only [newI] at e; omega
      · simp only [newI] at e; omega
end Go.Proofs.YtbagmmncjmbboaaGreat

/-
  A pool that begins, in plain words; an append of the log beside it; the walk of skeinlaw10.one.
-/
namespace Go.Proofs.YtbagmmncjmbboaaGreat
open Go.RowKit Go.Maps
set_option linter.unusedVariables false

/-- The pages' sectors behind Format and Reset are as they were loaded. -/
theorem beg_has {l : List Nat} {count : Nat} (h : l.length ≤ 512 * count) (hc : count ≤ 12) : EachSec (fun i b => 4 ≤ i → b = (disk10 l count).has i) (begS (disk10 l count) 0 4) := by
  have hb := begun10 h hc
  have h0 : EachSec (fun i b => 4 ≤ i → b = (disk10 l count).has i) (disk10 l count) := fun i hi => ⟨fun _ => rfl, fun _ => rfl⟩
  have h1 : EachSec (fun i b => 4 ≤ i → b = (disk10 l count).has i) (fmtS (disk10 l count) 0 4) := by
    unfold fmtS DS.format
    split
    · exact EachSec.save (run := 1) (first := 0) (by simp) 1 0 _ (fun i hi h4 => by
        rcases hi with hi | hi
        · omega
        · simp at hi) h0
    · exact h0
  have h2 := (hb.fits.reset_any h1).1
  rw [hb.res] at h2
  refine h2.mono fun i b _ hq h4 => ?_
  rcases hq with hq | ⟨hq, -⟩
  · exact hq h4
  · have : (fmtL (disk10 l count) 0 4).first = 0 := rfl
    omega

/-- A pool that begins. -/
structure Begins (c : CP) (count : Nat) (was : Nat → List Nat) : Prop where
  fine : Fine c 0 0
  shape : Shape c.fs c.o.count
  base : c.o.base = 4
  cnt : c.o.count = count
  turn : c.o.turn = 0
  steps : c.s.steps ≤ 4
  run : 1 ≤ c.m.run
  log : c.m.first = 0 ∧ c.m.count = 4 ∧ c.m.st = []
  len : c.s.safe.length = 4 + count
  was : EachSec (fun i b => 4 ≤ i → b = was i) c.s
  idx : ∀ a, idx c.fs a = none
  frz : ∀ (i : Nat) x, c.fs[i]? = some x → x = frZ

theorem newC_begins {l : List Nat} {count : Nat} (h : l.length ≤ 512 * count) (hc : 1 ≤ count ∧ count ≤ 12) (nf : Nat) : Begins (newC (begS (disk10 l count) 0 4) (begL (disk10 l count) 0 4) 4 count nf) count (disk10 l count).has := by
  have hb := begun10 h hc.2
  have hln : (begS (disk10 l count) 0 4).safe.length = 4 + count := by rw [hb.len2, disk10_len h hc.2]
  have hg := hb.good
  have e1 : (begL (disk10 l count) 0 4).first = 0 := rfl
  have e2 : (begL (disk10 l count) 0 4).count = 4 := rfl
  have e3 : (begL (disk10 l count) 0 4).st = [] := rfl
  refine ⟨⟨⟨hb.clean2.off, fun j => ?_, .inl rfl⟩, rfl, ⟨hg.ok, hg.dead, rfl, fun x hx => (by rw [show (newC (begS (disk10 l count) 0 4) (begL (disk10 l count) 0 4) 4 count nf).m.st = [] from e3] at hx; cases hx), ?_⟩, ?_, ?_, ?_, ?_⟩, ⟨?_, ?_, ?_, ?_⟩, rfl, rfl, rfl, ?_, hg.run, ⟨e1, e2, e3⟩, hln, beg_has h hc.2, newFs_idx nf, fun i x hx => newFs_at hx⟩
  · show (begS (disk10 l count) 0 4).plan j = _
    rw [hb.clean2.plan]; split <;> rfl
  · exact hg.fit
  · show (begL (disk10 l count) 0 4).first + (begL (disk10 l count) 0 4).count ≤ 4
    rw [e1, e2]; omega
  · show 4 + count ≤ (begS (disk10 l count) 0 4).safe.length
    rw [hln]; exact Nat.le_refl _
  · intro i x pg hx hp
    rw [newFs_at hx] at hp; cases hp
  · intro _ n _
    show (begS (disk10 l count) 0 4).pend _ = none
    rw [hg.pend]
  · intro i j x y hx hy h1
    rw [newFs_at hx] at h1; cases h1
  · intro i x hx hp
    rw [newFs_at hx] at hp; cases hp
  · intro i x hx _
    rw [newFs_at hx]; exact ⟨rfl, rfl⟩
  · intro i x pg hx hp
    rw [newFs_at hx] at hp; cases hp
  · show (begS (disk10 l count) 0 4).steps ≤ 4
    have := hb.steps2
    have h0 : (disk10 l count).steps = 0 := rfl
    omega

section

variable {c : CP} {X : Nat} {q : Int}

/-- The pool behind an append of the log. -/
def CP.app (c : CP) (kind : Int) (body : List Nat) : CP := { c with m := (c.m.append kind body).1 }

/-- An append: the log takes the record, or it is full; the pool tells what it told. -/
theorem Fine.app (h : Fine c X q) (body : List Nat) (hb : ∀ x ∈ body, x < 256) (hl : body.length ≤ 1200) :
    Fine (c.app 1 body) X q ∧ (∀ n, (c.app 1 body).look n = c.look n) ∧ (c.app 1 body).m.safe = c.m.safe ∧ (c.app 1 body).m.run = c.m.run ∧
    (((c.m.append 1 body).2.2 = 0 ∧ (c.m.append 1 body).2.1 = c.m.lsn c.m.st.length ∧ c.m.st.length < (c.app 1 body).m.st.length) ∨
     ((c.m.append 1 body).2.2 = 90 ∧ c.app 1 body = c)) := by
  unfold CP.app LG.append
  rw [h.log.dead, h.log.fresh]
  simp only [Bool.false_eq_true, if_false, Bool.true_eq_false]
  rw [if_neg (by omega), if_neg (by omega)]
  by_cases h3 : c.m.room < 1 + (putL body.length ++ body).length
  · rw [if_pos h3]
    exact ⟨h, fun _ => rfl, rfl, rfl, .inr ⟨rfl, rfl⟩⟩
  · rw [if_neg h3]
    have hroom := room_le (q := 0) h3 h.log.ok
    have hln : (recL (1 : Int).toNat body).length = 1 + (putL body.length ++ body).length := by unfold recL; rw [List.length_cons]; omega
    refine ⟨⟨h.calm, h.dead, ⟨⟨h.log.ok.first, h.log.ok.count, h.log.ok.run, ?_, ?_, ?_⟩, rfl, rfl, ?_, h.log.fit⟩, h.lay, h.len, h.same, h.sync⟩, fun _ => rfl, rfl, rfl, .inl ⟨rfl, rfl, ?_⟩⟩
    · dsimp only; rw [List.length_append, hln]; omega
    · dsimp only; rw [List.length_append]; have := h.log.ok.safe; omega
    · dsimp only
      rw [List.length_append, List.length_append, List.length_singleton, hln]
      refine ⟨by have := h.log.ok.begs.1; omega, fun b hb => ?_⟩
      rcases List.mem_append.1 hb with hb | hb
      · have := h.log.ok.begs.2 b hb; omega
      · rw [List.mem_singleton.1 hb]; omega
    · dsimp only
      intro x hx
      rcases List.mem_append.1 hx with hx | hx
      · exact h.log.byte x hx
      · have hr : ∀ x ∈ strm ([] ++ [((1 : Int).toNat, body)]), x < 256 := strm_lt (fun r hr => by
          rw [List.nil_append, List.mem_singleton] at hr
          rw [hr]
          exact ⟨by dsimp only; omega, by dsimp only; omega, by dsimp only; omega, hb⟩)
        rw [strm_snoc, strm_empty, List.nil_append] at hr
        exact hr x hx
    · dsimp only; rw [List.length_append, hln]; omega
end

/-- The page that one makes. -/
def onePg (l : List Nat) : PG := ⟨0, 1, 5, if l.length ≤ 200 then [l] else []⟩

theorem new15_room : (PG.new 1 5).room = 200 := by decide

theorem onePg_insE (l : List Nat) : (PG.new 1 5).insE 0 l = if l.length ≤ 200 then 0 else 4 := by
  have hl : (PG.new 1 5).items.length = 0 := rfl
  unfold PG.insE
  rw [new15_room, hl]
  repeat' split
  all_goals first | rfl | omega

theorem onePg_ins (l : List Nat) : onePg l = if (PG.new 1 5).insE 0 l = 0 then (PG.new 1 5).insert (0 : Int).toNat l else PG.new 1 5 := by
  rw [onePg_insE]
  unfold onePg
  by_cases h : l.length ≤ 200
  · rw [if_pos h, if_pos h, if_pos rfl]
    rfl
  · rw [if_neg h, if_neg h, if_neg (by omega)]
    rfl

theorem onePg_fit (l : List Nat) : (onePg l).Fit := by
  unfold PG.Fit onePg
  dsimp only
  split <;> simp <;> omega

set_option maxRecDepth 100000 in
theorem one10_any (w : World) (v : Value) (l : List Nat) (hv : RB w w.heap.size v l) :
    Calls Tryz.prog 21 #[v] w fun e w' => ∃ y, e = .returned (.pointer (some ⟨y.p, 0, none⟩)) ∧ PgIn w' (fun k => w.heap.size ≤ k) y (onePg l) ∧ Below w.heap.size w w' := by
  have HV := Lib.hid hv
  clear hv
  go_enter Tryz.func21, Tryz.ntmps21
  go_wp2_with fail
  refine (pageNew_any w 1 5 (by omega)).mono ?_
  rintro e w1 ⟨rfl, hp1, hb1⟩
  have HP1 := Lib.hid hp1
  have HB1 := Lib.hid hb1
  clear hp1 hb1
  go_wp2_with fail
  refine (pageInsert_u HP1.out 0 ((HV.out.below HB1.out).more HB1.out.size) (onePg_ins l)).mono ?_
  rintro e w2 ⟨rfl, hout⟩
  have hb2 := hout.belowC HB1.out HB1.out.size (Nat.le_refl _) (fun k hk => by cases hk)
  obtain ⟨v2, xs2, hp2, hst, hit⟩ := hout
  have HP2 := Lib.hid hp2
  have HB2 := Lib.hid hb2
  have HIT := Lib.hid (hit (fun k => w.heap.size ≤ k) (fun j x l hx => by simp at hx) (fun k hk => Nat.le_trans HB1.out.size hk))
  clear hp2 hb2 hst hit
  go_wp2_with fail
  go_ret
  refine ⟨⟨w.heap.size, v2, xs2⟩, rfl, ⟨HP2.out.base' (Nat.zero_le _), onePg_fit l, Nat.le_refl _, fun k hk => (HP2.out.row.lt k hk).1, fun j z l' hz hl => ?_⟩, HB2.out⟩
  have a1 := HIT.out j z l' hz hl
  have a2 := HP2.out.itemsIn j z l' hz hl
  rcases a1 with a1 | a1
  · exact .inl a1
  · rcases a2 with a2 | a2
    · exact .inl a2
    · exact .inr fun b hb e => e ⟨Classical.not_not.1 (a2 b hb), Classical.not_not.1 (a1 b hb)⟩
end Go.Proofs.YtbagmmncjmbboaaGreat

/-
  No page on the disk is ahead of the log, unless it is as it was: in plain words, for each call of the pool. No walk.
-/
namespace Go.Proofs.YtbagmmncjmbboaaGreat
open Go.RowKit Go.Maps
set_option linter.unusedVariables false

/-- A page's sector is as it was, or has a page whose LSN is below L. -/
def LateP (B C : Nat) (L : Int) (was : Nat → List Nat) (i : Nat) (b : List Nat) : Prop := B ≤ i → i < B + C → b = was i ∨ ∃ pg, PgGood pg ∧ b = pageL pg ∧ pg.lsn < L

theorem LateP.mono {B C : Nat} {L L' : Int} {was : Nat → List Nat} {i : Nat} {b : List Nat} (h : LateP B C L was i b) (hL : L ≤ L') : LateP B C L' was i b := fun h1 h2 => (h h1 h2).imp id fun ⟨pg, a, e, l⟩ => ⟨pg, a, e, by omega⟩

structure Late (c : CP) (was : Nat → List Nat) : Prop where
  sec : EachSec (LateP c.o.base c.o.count (c.m.lsn c.m.safe : Nat) was) c.s
  dirty : ∀ (i : Nat) x pg, c.fs[i]? = some x → x.1.page = some pg → x.1.dirty = true → pg.lsn < ((c.m.lsn c.m.st.length : Nat) : Int)

section

variable {s : DS} {m : LG} {X : Nat} {q : Int}

theorem flush_log (s : DS) (hs : m.safe ≤ m.st.length) : (m.flush s).2.1.st = m.st ∧ (m.flush s).2.1.run = m.run ∧ m.safe ≤ (m.flush s).2.1.safe := by
  unfold LG.flush
  split
  · exact ⟨rfl, rfl, Nat.le_refl _⟩
  · split
    · exact ⟨rfl, rfl, Nat.le_refl _⟩
    · split
      · exact ⟨rfl, rfl, hs⟩
      · exact ⟨rfl, rfl, Nat.le_refl _⟩

theorem lsn_le {m m' : LG} (h1 : m'.run = m.run) {a b : Nat} (h : a ≤ b) : m.lsn a ≤ m'.lsn b := by unfold LG.lsn; rw [h1]; omega

theorem EachSec.flushL {P : Nat → List Nat → Prop} (h : EachSec P s) (hl : LogFit s m) (hP : ∀ i b, i < m.first + m.count → P i b) : EachSec P (m.flush s).1 := by
  have hst := hl.ok.st
  have hsf := hl.ok.safe
  unfold LG.flush
  split
  · exact h
  · split
    · exact h
    · rename_i hs
      have hk : m.safe / 498 * 498 ≤ m.safe := Nat.div_mul_le_self _ _
      have h1 : EachSec P (DS.save m.run m.first m.st m.st.length (m.safe / 498) s).1 := EachSec.save (run := m.run) (first := m.first) (P := P) hl.byte m.st.length (m.safe / 498) s (fun i hi => hP _ _ (by
        have : i < m.count := by
          rcases hi with hi | hi
          · have : i * 498 ≤ m.safe := by rw [hi]; exact hk
            exact Nat.lt_of_mul_lt_mul_right (a := 498) (by omega)
          · exact Nat.lt_of_mul_lt_mul_right (a := 498) (by omega)
        omega)) h
      split
      · exact h1
      · exact h1

theorem flushP_log (pg : PG) (s : DS) (hs : m.safe ≤ m.st.length) : (flushP pg s m).2.1.st = m.st ∧ (flushP pg s m).2.1.run = m.run ∧ m.safe ≤ (flushP pg s m).2.1.safe := by
  unfold flushP
  split
  · exact flush_log s hs
  · exact ⟨rfl, rfl, Nat.le_refl _⟩

theorem cleanP_log (at_ : Int) (pg : PG) (s : DS) : (cleanP at_ pg s m).2.1 = (flushP pg s m).2.1 := by unfold cleanP; split <;> rfl

end

section

variable {c : CP} {X : Nat} {q : Int} {was : Nat → List Nat}

theorem Late.clean (h : Late c was) (hf : Fine c X q) (hs : Shape c.fs c.o.count) (i : Nat) : Late (c.clean i).1 was := by
  cases hx : c.fs[i]? with
  | none =>
    have e : c.clean i = (c, 0) := by unfold CP.clean; rw [hx]
    rw [e]; exact h
  | some x =>
    cases hd : x.1.dirty with
    | false => rw [clean_not hx hd]; exact h
    | true =>
      cases hp : x.1.page with
      | none => rw [clean_free hx hp]; exact h
      | some pg =>
        have hr := hs.rng i x hx (by rw [hp]; rfl)
        obtain ⟨n, hn⟩ : ∃ n : Nat, x.1.num = (n : Int) := ⟨x.1.num.toNat, by omega⟩
        have hg := hs.good i x pg hx hp
        have hlay := hf.lay
        rw [clean_yes hx hp hd]
        obtain ⟨e1, e2, e3⟩ := flushP_log pg c.s hf.log.ok.safe
        have hlog := cleanP_log (m := c.m) ((c.o.base : Int) + x.1.num) pg c.s
        have hll : c.m.lsn c.m.safe ≤ (flushP pg c.s c.m).2.1.lsn (flushP pg c.s c.m).2.1.safe := lsn_le e2 e3
        obtain ⟨a1, a2, -⟩ := after_same c.o (cleanP ((c.o.base : Int) + x.1.num) pg c.s c.m).2.2
        have hsec : EachSec (LateP c.o.base c.o.count ((flushP pg c.s c.m).2.1.lsn (flushP pg c.s c.m).2.1.safe : Nat) was) (flushP pg c.s c.m).1 := by
          have h1 := h.sec.mono (Q := LateP c.o.base c.o.count ((flushP pg c.s c.m).2.1.lsn (flushP pg c.s c.m).2.1.safe : Nat) was) fun k b _ hb => hb.mono (by omega)
          have h2 : (flushP pg c.s c.m).1 = (c.m.flush c.s).1 ∨ (flushP pg c.s c.m).1 = c.s := by
            unfold flushP; split
            · exact .inl rfl
            · exact .inr rfl
          rcases h2 with h2 | h2
          · rw [h2]; exact h1.flushL hf.log (fun k b hk hb => by omega)
          · rw [h2]; exact h1
        refine ⟨?_, ?_⟩
        · show EachSec (LateP (c.o.after _).base (c.o.after _).count ((cleanP ((c.o.base : Int) + x.1.num) pg c.s c.m).2.1.lsn (cleanP ((c.o.base : Int) + x.1.num) pg c.s c.m).2.1.safe : Nat) was) (cleanP ((c.o.base : Int) + x.1.num) pg c.s c.m).1
          rw [a1, a2, hlog]
          unfold cleanP
          split
          · rename_i hk
            obtain ⟨s1, m1, k1, he, hfl⟩ := hf.calm.flushP hf.log pg
            rw [he] at hk hsec ⊢
            dsimp only at hk hsec ⊢
            rcases hfl with ⟨-, hok⟩ | ⟨hb, -⟩
            · refine hsec.write fun a ha _ _ => .inr ⟨pg, hg, pad_full (pageL_len hg.fit), hok.late (h.dirty i x pg hx hp hd)⟩
            · exact absurd hk hb
          · exact hsec
        · intro j y pg' hy hyp hyd
          obtain ⟨z, hz, rfl | ⟨-, -, rfl⟩⟩ := framesAfter_at hx _ hy
          · have := h.dirty j y pg' hz hyp hyd
            show pg'.lsn < (((cleanP ((c.o.base : Int) + x.1.num) pg c.s c.m).2.1.lsn (cleanP ((c.o.base : Int) + x.1.num) pg c.s c.m).2.1.st.length : Nat) : Int)
            rw [hlog, e1]
            have h3 : c.m.lsn c.m.st.length ≤ (flushP pg c.s c.m).2.1.lsn c.m.st.length := lsn_le e2 (Nat.le_refl _)
            omega
          · cases hyd

theorem Late.frames {fs : List (Fr × FrM)} {o : PO} (h : Late c was) (hb : o.base = c.o.base) (hc : o.count = c.o.count) (hd : ∀ (i : Nat) x pg, fs[i]? = some x → x.1.page = some pg → x.1.dirty = true → pg.lsn < ((c.m.lsn c.m.st.length : Nat) : Int)) : Late { c with o := o, fs := fs } was :=
  ⟨by show EachSec (LateP o.base o.count _ was) c.s; rw [hb, hc]; exact h.sec, hd⟩

theorem Late.set_ {i : Nat} {x y : Fr × FrM} {o : PO} (h : Late c was) (hx : c.fs[i]? = some x) (hb : o.base = c.o.base) (hc : o.count = c.o.count) (hy : ∀ pg, y.1.page = some pg → y.1.dirty = true → pg.lsn < ((c.m.lsn c.m.st.length : Nat) : Int)) : Late { c with o := o, fs := c.fs.set i y } was :=
  h.frames hb hc fun j z pg hz hp hd => by
    rcases set_at hx hz with ⟨rfl, rfl⟩ | ⟨-, hz⟩
    · exact hy pg hp hd
    · exact h.dirty j z pg hz hp hd

theorem Late.ask (h : Late c was) {i : Nat} {x : Fr × FrM} (hx : c.fs[i]? = some x) : Late (c.ask i x) was := h.set_ (o := { c.o with turn := c.o.turn + 1 }) hx rfl rfl fun pg hp hd => h.dirty i x pg hx hp hd

theorem Late.pinTo (h : Late c was) {i : Nat} {x : Fr × FrM} (hx : c.fs[i]? = some x) (p : Nat) : Late { c with fs := c.fs.set i ({ x.1 with pins := p }, x.2) } was := h.set_ (o := c.o) hx rfl rfl fun pg hp hd => h.dirty i x pg hx hp hd

theorem Late.put (h : Late c was) {i : Nat} {x : Fr × FrM} (hx : c.fs[i]? = some x) {pg : PG} (v : FrM) (hl : pg.lsn < ((c.m.lsn c.m.st.length : Nat) : Int)) : Late (c.put i x pg v) was := h.set_ (o := c.o) hx rfl rfl fun pg' hp _ => by
  have : some pg = some pg' := hp
  injection this with this
  rw [← this]; exact hl

theorem Late.take (h : Late c was) (hf : Fine c X q) (hs : Shape c.fs c.o.count) {n : Nat} {k : Int} {a : Option Nat} {c' : CP} (ht : TakeOut c n k a c') : Late c' was := by
  rcases ht with ⟨-, -, -, e⟩ | ⟨j, y, -, hy, ⟨-, -, -, e⟩ | ⟨-, -, -, -, e⟩ | ⟨-, -, -, -, -, e⟩ | ⟨-, -, pg, v, -, -, -, e⟩⟩
  · rw [e]; exact h
  · rw [e]; exact h.clean hf hs j
  · rw [e]; exact h.clean hf hs j
  · rw [e]; exact h.clean hf hs j
  · rw [e]
    have hl := (clean_keeps c j).2.2.2.1
    have hj : j < (c.clean j).1.fs.length := by rw [hl]; exact (List.getElem?_eq_some_iff.1 hy).1
    exact (h.clean hf hs j).set_ (o := (c.clean j).1.o) (List.getElem?_eq_getElem hj) rfl rfl fun pg' _ hd => by cases hd

theorem Late.find (h : Late c was) (hf : Fine c X q) (hs : Shape c.fs c.o.count) {n : Int} {k : Int} {a : Option Nat} {c' : CP} (ht : FindOut c n k a c') : Late c' was := by
  rcases ht with ⟨-, -, -, e⟩ | ⟨-, -, -, -, e⟩ | ⟨-, N, -, -, ⟨i, x, -, hx, -, -, e⟩ | ⟨-, k1, a1, c1, ht, ⟨-, -, -, e⟩ | ⟨-, i, x, -, hx, -, -, -, e⟩⟩⟩
  · rw [e]; exact h
  · rw [e]; exact h
  · rw [e]; exact h.ask hx
  · rw [e]; exact h.take hf hs ht
  · rw [e]; exact (h.take hf hs ht).ask hx

theorem Late.cleanAll : ∀ (ns : List Int) (c : CP), Late c was → Fine c X q → Shape c.fs c.o.count → Late (c.cleanAll ns).1 was
  | [], c, h, _, _ => h
  | n :: r, c, h, hf, hs => by
    unfold CP.cleanAll
    cases hi : idx c.fs n with
    | none => exact Late.cleanAll r c h hf hs
    | some i =>
      dsimp only
      obtain ⟨x, hx, -⟩ := idx_some hi
      split
      · rename_i h0
        rcases hf.clean hs hx with ⟨-, h1, -, -⟩ | ⟨hb, -⟩
        · exact Late.cleanAll r _ (h.clean hf hs i) h1 (hs.clean i)
        · exact absurd h0 hb
      · exact h.clean hf hs i

theorem Late.sync_ (h : Late c was) : Late c.syncC.1 was := by
  unfold CP.syncC
  split
  · exact h
  · split
    · exact ⟨h.sec.sync, h.dirty⟩
    · exact ⟨h.sec.sync, h.dirty⟩

theorem Late.flush (h : Late c was) (hf : Fine c X q) (hs : Shape c.fs c.o.count) : Late c.flush.1 was := by
  unfold CP.flush
  split
  · exact h
  · split
    · exact (Late.cleanAll _ c h hf hs).sync_
    · exact Late.cleanAll _ c h hf hs

theorem Late.app (h : Late c was) (hf : Fine c X q) (body : List Nat) (hb : ∀ x ∈ body, x < 256) (hl : body.length ≤ 1200) : Late (c.app 1 body) was := by
  obtain ⟨-, -, h1, h2, h3⟩ := hf.app body hb hl
  refine ⟨?_, fun i x pg hx hp hd => ?_⟩
  · show EachSec (LateP c.o.base c.o.count ((c.app 1 body).m.lsn (c.app 1 body).m.safe : Nat) was) c.s
    rw [h1, show (c.app 1 body).m.lsn c.m.safe = c.m.lsn c.m.safe by unfold LG.lsn; rw [h2]]
    exact h.sec
  · have h4 := h.dirty i x pg hx hp hd
    rcases h3 with ⟨-, -, h5⟩ | ⟨-, e⟩
    · have := lsn_le (m := c.m) (m' := (c.app 1 body).m) h2 (Nat.le_of_lt h5)
      omega
    · rw [e]; exact h4
end
end Go.Proofs.YtbagmmncjmbboaaGreat

/-
  The pool's calls as contracts on a pool that lives.
-/
namespace Go.Proofs.YtbagmmncjmbboaaGreat
open Go.RowKit Go.Maps
set_option linter.unusedVariables false

/-- A pool in memory that lives. -/
structure Live (w : World) (I : PI) (Q : Nat → Prop) (c : CP) (X : Nat) (q : Int) (was : Nat → List Nat) : Prop where
  at_ : PoolAt w I Q c
  fine : Fine c X q
  late : Late c was

/-- What is so behind any call of the pool. -/
structure Behind (w w' : World) (I : PI) (Q : Nat → Prop) (c c' : CP) (was : Nat → List Nat) : Prop where
  at_ : PoolAt w' I Q c'
  late : Late c' was
  mod : Mod I.Turn w w'
  steps : c'.s.steps ≤ c.s.steps + 300000
  turn : c'.o.turn ≤ c.o.turn + 1
  base : c'.o.base = c.o.base
  count : c'.o.count = c.o.count
  nf : c'.fs.length = c.fs.length
  len : c'.s.safe.length = c.s.safe.length
  stepsM : c'.s.steps ≤ c.s.steps + 64 * (c.m.count + 2) + 1

/-- The page couldn't be brought into a frame. -/
def Miss (c : CP) (X : Nat) (q : Int) (n : Int) (k : Int) (c' : CP) : Prop :=
  (k = 1 ∧ c' = c ∧ ¬ (0 ≤ n ∧ n < c.o.count)) ∨
  (∃ N : Nat, n = (N : Int) ∧ N < c.o.count ∧ idx c.fs n = none ∧ ((k = 100 ∧ c' = c ∧ ¬ Free c) ∨ (k = 80 ∧ Fine c' X q ∧ Kept c c' ∧ Free c ∧ ∀ m, ¬ PageOf (c.look N) m))) ∨
  (k ≠ 0 ∧ Hit c'.s X q ∧ c'.o.dead = true)

section

variable {w : World} {I : PI} {Q : Nat → Prop} {c : CP} {X : Nat} {q : Int} {was : Nat → List Nat}

theorem Live.sh (h : Live w I Q c X q was) : Shape c.fs c.o.count := h.at_.shape

theorem Live.below {w' : World} (h : Live w I Q c X q was) (hb : Below w.heap.size w w') : Live w' I Q c X q was := ⟨h.at_.below hb, h.fine, h.late⟩

theorem find_fit {c c' : CP} {n : Int} {k : Int} {a : Option Nat} (h : FindOut c n k a c') : c'.o.base = c.o.base ∧ c'.o.count = c.o.count ∧ c'.fs.length = c.fs.length := by
  have ht : ∀ {N : Nat} {k1 : Int} {a1 : Option Nat} {c1 : CP}, TakeOut c N k1 a1 c1 → c1.o.base = c.o.base ∧ c1.o.count = c.o.count ∧ c1.fs.length = c.fs.length := by
    intro N k1 a1 c1 ht
    rcases ht with ⟨-, -, -, e⟩ | ⟨j, y, -, -, ⟨-, -, -, e⟩ | ⟨-, -, -, -, e⟩ | ⟨-, -, -, -, -, e⟩ | ⟨-, -, pg, v, -, -, -, e⟩⟩
    · rw [e]; exact ⟨rfl, rfl, rfl⟩
    · rw [e]; exact ⟨(clean_keeps c j).1, (clean_keeps c j).2.1, (clean_keeps c j).2.2.2.1⟩
    · rw [e]; exact ⟨(clean_keeps c j).1, (clean_keeps c j).2.1, (clean_keeps c j).2.2.2.1⟩
    · rw [e]; exact ⟨(clean_keeps c j).1, (clean_keeps c j).2.1, (clean_keeps c j).2.2.2.1⟩
    · rw [e]; exact ⟨(clean_keeps c j).1, (clean_keeps c j).2.1, by dsimp only; rw [List.length_set]; exact (clean_keeps c j).2.2.2.1⟩
  rcases h with ⟨-, -, -, e⟩ | ⟨-, -, -, -, e⟩ | ⟨-, N, -, -, ⟨i, x, -, -, -, -, e⟩ | ⟨-, k1, a1, c1, h1, ⟨-, -, -, e⟩ | ⟨-, i, x, -, -, -, -, -, e⟩⟩⟩
  · rw [e]; exact ⟨rfl, rfl, rfl⟩
  · rw [e]; exact ⟨rfl, rfl, rfl⟩
  · rw [e]; exact ⟨rfl, rfl, by unfold CP.ask; simp⟩
  · rw [e]; exact ht h1
  · rw [e]; obtain ⟨a1, a2, a3⟩ := ht h1; exact ⟨a1, a2, by unfold CP.ask; simpa using a3⟩

theorem clean_len (c : CP) (i : Nat) : (c.clean i).1.s.safe.length = c.s.safe.length := by
  have hf : ∀ pg : PG, (flushP pg c.s c.m).1.safe.length = c.s.safe.length := fun pg => by
    unfold flushP
    split
    · exact flush_len c.s c.m
    · rfl
  cases hx : c.fs[i]? with
  | none =>
    have e : c.clean i = (c, 0) := by unfold CP.clean; rw [hx]
    rw [e]
  | some x =>
    cases hd : x.1.dirty with
    | false => rw [clean_not hx hd]
    | true =>
      cases hp : x.1.page with
      | none => rw [clean_free hx hp]
      | some pg =>
        rw [clean_yes hx hp hd]
        show (cleanP ((c.o.base : Int) + x.1.num) pg c.s c.m).1.safe.length = _
        unfold cleanP
        split
        · show ((flushP pg c.s c.m).1.write _ _).safe.length = _
          rw [len_write, hf]
        · exact hf pg

theorem find_len {c c' : CP} {n : Int} {k : Int} {a : Option Nat} (h : FindOut c n k a c') : c'.s.safe.length = c.s.safe.length := by
  have ht : ∀ {N : Nat} {k1 : Int} {a1 : Option Nat} {c1 : CP}, TakeOut c N k1 a1 c1 → c1.s.safe.length = c.s.safe.length := by
    intro N k1 a1 c1 ht
    rcases ht with ⟨-, -, -, e⟩ | ⟨j, y, -, -, ⟨-, -, -, e⟩ | ⟨-, -, -, -, e⟩ | ⟨-, -, -, -, -, e⟩ | ⟨-, -, pg, v, -, -, -, e⟩⟩
    · rw [e]
    · rw [e]; exact clean_len c j
    · rw [e]; exact clean_len c j
    · rw [e]; exact clean_len c j
    · rw [e]; exact clean_len c j
  rcases h with ⟨-, -, -, e⟩ | ⟨-, -, -, -, e⟩ | ⟨-, N, -, -, ⟨i, x, -, -, -, -, e⟩ | ⟨-, k1, a1, c1, h1, ⟨-, -, -, e⟩ | ⟨-, i, x, -, -, -, -, -, e⟩⟩⟩
  · rw [e]
  · rw [e]
  · rw [e]; rfl
  · rw [e]; exact ht h1
  · rw [e]; show c1.s.safe.length = _; exact ht h1

theorem clean_stepsN {c : CP} (hok : c.m.Ok) (i : Nat) : (c.clean i).1.s.steps ≤ c.s.steps + (c.m.count + 2) := by
  cases hx : c.fs[i]? with
  | none =>
    have e : c.clean i = (c, 0) := by unfold CP.clean; rw [hx]
    rw [e]; dsimp only; omega
  | some x =>
    cases hd : x.1.dirty with
    | false => rw [clean_not hx hd]; dsimp only; omega
    | true =>
      cases hp : x.1.page with
      | none => rw [clean_free hx hp]; dsimp only; omega
      | some pg =>
        rw [clean_yes hx hp hd]
        dsimp only
        have := cleanP_steps hok ((c.o.base : Int) + x.1.num) pg c.s
        omega

theorem find_stepsN {c c' : CP} (hok : c.m.Ok) {n : Int} {k : Int} {a : Option Nat} (h : FindOut c n k a c') : c'.s.steps ≤ c.s.steps + (c.m.count + 2) := by
  have ht : ∀ {N : Nat} {k1 : Int} {a1 : Option Nat} {c1 : CP}, TakeOut c N k1 a1 c1 → c1.s.steps ≤ c.s.steps + (c.m.count + 2) := by
    intro N k1 a1 c1 ht
    rcases ht with ⟨-, -, -, e⟩ | ⟨j, y, -, -, ⟨-, -, -, e⟩ | ⟨-, -, -, -, e⟩ | ⟨-, -, -, -, -, e⟩ | ⟨-, -, pg, v, -, -, -, e⟩⟩
    · rw [e]; omega
    · rw [e]; exact clean_stepsN hok j
    · rw [e]; exact clean_stepsN hok j
    · rw [e]; exact clean_stepsN hok j
    · rw [e]; exact clean_stepsN hok j
  rcases h with ⟨-, -, -, e⟩ | ⟨-, -, -, -, e⟩ | ⟨-, N, -, -, ⟨i, x, -, -, -, -, e⟩ | ⟨-, k1, a1, c1, h1, ⟨-, -, -, e⟩ | ⟨-, i, x, -, -, -, -, -, e⟩⟩⟩
  · rw [e]; omega
  · rw [e]; omega
  · rw [e]; show c.s.steps ≤ _; omega
  · rw [e]; exact ht h1
  · rw [e]; show c1.s.steps ≤ _; exact ht h1

theorem Live.found {w' : World} {c' : CP} {n : Int} {k : Int} {a : Option Nat} (h : Live w I Q c X q was) (ho : FindOut c n k a c') (hp : PoolAt w' I Q c') (hm : Mod I.Turn w w') : Behind w w' I Q c c' was ∧ FindFine c X q n k a c' := by
  have := find_steps h.at_.wal.lg.ok ho
  obtain ⟨f1, f2, f3⟩ := find_fit ho
  exact ⟨⟨hp, h.late.find h.fine h.sh ho, hm, by omega, find_turn ho, f1, f2, f3, find_len ho, by have := find_stepsN h.at_.wal.lg.ok ho; omega⟩, h.fine.find h.sh ho hp.shape⟩

/-- Found, or missed. -/
theorem find_or {c c' : CP} {n : Int} {k : Int} {a : Option Nat} (h : FindFine c X q n k a c') :
    (k = 0 ∧ Fine c' X q ∧ Kept c c' ∧ ∃ N : Nat, n = (N : Int) ∧ N < c.o.count ∧ ((idx c.fs n).isSome = true ∨ Free c) ∧ ∃ i x pg, a = some i ∧ c'.fs[i]? = some x ∧ isAt n x = true ∧ x.1.page = some pg ∧ PageOf (c.look N) pg) ∨ (k ≠ 0 ∧ Miss c X q n k c') := by
  rcases h with h | ⟨h1, h2⟩ | ⟨N, h1, h2, h3, h4⟩ | h
  · exact .inl h
  · exact .inr ⟨by omega, .inl ⟨h1, h2⟩⟩
  · refine .inr ⟨?_, .inr (.inl ⟨N, h1, h2, h3, h4⟩)⟩
    rcases h4 with ⟨h, -⟩ | ⟨h, -⟩ <;> omega
  · exact .inr ⟨h.1, .inr (.inr h)⟩

theorem Get_live (h : Live w I Q c X q was) (n : Int) (hn64 : I64 n) (hst : c.s.steps < 900000000000000) (htn : c.o.turn < 900000000000000) :
    Calls Tryz.prog 32 #[.pointer (some ⟨I.q, 0, none⟩), .int .i64 n] w fun e w' => ∃ k c', Behind w w' I Q c c' was ∧
      ((k = 0 ∧ Fine c' X q ∧ Kept c c' ∧ (idx c'.fs n).isSome = true ∧ ∃ N pg p' v' xs', n = ((N : Nat) : Int) ∧ N < c.o.count ∧ ((idx c.fs n).isSome = true ∨ Free c) ∧ e = .returned (.tuple #[.pointer (some ⟨p', 0, none⟩), .int .i64 0]) ∧ PageAt w' p' w.heap.size v' xs' pg ∧ ItemsIn (fun k => w.heap.size ≤ k) xs' pg.items ∧ PgGood pg ∧ PageOf (c.look N) pg) ∨
       (k ≠ 0 ∧ Miss c X q n k c' ∧ e = .returned (.tuple #[.pointer none, .int .i64 k]))) := by
  refine (Get_pool h.at_ n hn64 (by omega) (by omega)).mono ?_
  rintro e w' ⟨k, a, c', ho, hp, hm, he⟩
  obtain ⟨hb, hff⟩ := h.found ho hp hm
  refine ⟨k, c', hb, ?_⟩
  rcases find_or hff with ⟨h0, h1, h2, N, h3, h4, h5, i, x, pg, ha, hx, hat, hpg, hpo⟩ | ⟨h0, hmiss⟩
  · rcases he with ⟨h6, -⟩ | ⟨-, i2, x2, pg2, p', v', xs', ha2, hx2, hat2, hpg2, he, hpa, hit, hfit⟩
    · exact absurd h0 h6
    · have : i2 = i := by rw [ha] at ha2; injection ha2 with ha2; exact ha2.symm
      subst this
      rw [hx] at hx2
      injection hx2 with hx2
      subst hx2
      rw [hpg] at hpg2
      injection hpg2 with hpg2
      subst hpg2
      exact .inl ⟨h0, h1, h2, by rw [idx_of hp.uniq hx hat]; rfl, N, pg, p', v', xs', h3, h4, h5, he, hpa, hit, (hp.page i2 x pg hx hpg).good, hpo⟩
  · rcases he with ⟨-, he⟩ | ⟨h6, -⟩
    · exact .inr ⟨h0, hmiss, he⟩
    · exact absurd h6 h0

theorem Put_live (h : Live w I Q c X q was) (n : Int) (hn64 : I64 n) (hst : c.s.steps < 900000000000000) (htn : c.o.turn < 900000000000000) (y : FrM) (gm : PG) (hg : PgIn w (fun k => ¬ I.Turn k) y gm) (lsn : Int) (hlsn : 0 ≤ lsn ∧ lsn ≤ 9223372036854775807) (hlt : lsn < ((c.m.lsn c.m.st.length : Nat) : Int)) :
    Calls Tryz.prog 22 #[.pointer (some ⟨I.q, 0, none⟩), .int .i64 n, .pointer (some ⟨y.p, 0, none⟩), .int .i64 lsn] w fun e w' => ∃ k c', e = .returned (.int .i64 k) ∧ Behind w w' I Q c c' was ∧
      ((k = 0 ∧ Fine c' X q ∧ (idx c'.fs n).isSome = true ∧ ∃ N, n = ((N : Nat) : Int) ∧ N < c.o.count ∧ ((idx c.fs n).isSome = true ∨ Free c) ∧
        (∀ m, m < c.o.count → c'.look m = if m = N then pageL { gm with lsn := lsn } else c.look m) ∧ (∀ a, pinsOf c'.fs a = pinsOf c.fs a) ∧
        (∃ d, dirtOf c'.fs n = some d ∧ (d = lsn ∨ dirtOf c.fs n = some d) ∧ (dirtOf c.fs n = none → d = lsn)) ∧ (∀ a, a ≠ n → dirtOf c'.fs a = dirtOf c.fs a ∨ dirtOf c'.fs a = none) ∧ c'.m = { c.m with safe := c'.m.safe } ∧ c.m.safe ≤ c'.m.safe ∧ (∃ pg, PageOf (c.look N) pg)) ∨
       (k ≠ 0 ∧ Miss c X q n k c')) := by
  refine (Put_pool h.at_ n hn64 (by omega) (by omega) y gm hg lsn hlsn.2).mono ?_
  have hmax : max lsn 0 = lsn := by omega
  rw [hmax]
  rintro e w' ⟨k, a, c1, c', ho, rfl, ⟨w1, hp1⟩, hp, hm, he⟩
  have hst1 := find_steps h.at_.wal.lg.ok ho
  have htn1 := find_turn ho
  obtain ⟨f1, f2, f3⟩ := find_fit ho
  have hl1 := h.late.find h.fine h.sh ho
  rcases he with ⟨h0, rfl⟩ | ⟨h0, i, x, v, ha, hx, hat, rfl⟩
  · obtain ⟨hb, hff⟩ := h.found ho hp hm
    refine ⟨k, c', rfl, hb, ?_⟩
    rcases find_or hff with ⟨h1, -⟩ | ⟨-, hmiss⟩
    · exact absurd h1 h0
    · exact .inr ⟨h0, hmiss⟩
  · have hg2 : PgGood { gm with lsn := lsn } := by
      have h1 := hg.good
      exact ⟨⟨h1.ok.num, h1.ok.item, hlsn, h1.ok.kind, h1.ok.extra⟩, h1.fit, h1.byte⟩
    have hs1 := hp1.shape
    have hu1 := hp1.uniq
    rcases find_or (h.fine.find h.sh ho hs1) with ⟨-, h1, h2, N, h3, h4, h5, i2, x2, pg2, ha2, hx2, hat2, hpg2, hpo⟩ | ⟨h6, -⟩
    · subst h3
      obtain ⟨p1, p2, p3, p4, p5⟩ := h1.put hu1 hx hat v hg2
      have hlog := h2.log
      have hlt1 : lsn < ((c1.m.lsn c1.m.st.length : Nat) : Int) := by rw [hlog.1]; exact hlt
      refine ⟨k, _, rfl, ⟨hp, hl1.put hx v hlt1, hm, by show c1.s.steps ≤ _; omega, htn1, f1, f2, by unfold CP.put; simpa using f3, by show c1.s.safe.length = _; exact find_len ho, by have := find_stepsN h.at_.wal.lg.ok ho; show c1.s.steps ≤ _; omega⟩, .inl ⟨h0, p1, ?_, N, rfl, h4, h5, ?_, ?_, ?_, ?_, ?_, ?_, ⟨pg2, hpo⟩⟩⟩
      · rw [p5, idx_of hu1 hx hat]; rfl
      · intro m hm'
        rw [p2]
        by_cases hmN : m = N
        · rw [if_pos hmN, if_pos hmN]
        · rw [if_neg hmN, if_neg hmN]; exact h2.look m hm'
      · intro a; rw [p3]; exact h2.pins a
      · rw [p4, if_pos rfl]
        refine ⟨_, rfl, ?_, ?_⟩
        · rcases h2.dirt (N : Int) with e | e
          · rw [e]
            cases hd : dirtOf c.fs (N : Int) with
            | none => exact .inl rfl
            | some d => exact .inr rfl
          · rw [e]; exact .inl rfl
        · intro hn
          rcases h2.dirt (N : Int) with e | e
          · rw [e, hn]; rfl
          · rw [e]; rfl
      · intro a hne
        rw [p4, if_neg hne]
        exact h2.dirt a
      · exact hlog.1
      · exact hlog.2
    · exact absurd h0 h6
end
end Go.Proofs.YtbagmmncjmbboaaGreat
