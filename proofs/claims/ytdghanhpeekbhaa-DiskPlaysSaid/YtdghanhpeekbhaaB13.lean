/-
  The walk of skeinlaw07's asks: Sync, On, and what does nothing.
-/
import Derived.Test.YtdghanhpeekbhaaB12
namespace Go.Proofs.Ytdghanhpeekbhaa
open Go.RowKit Go.Maps
set_option linter.unusedVariables false

/-- A call of the script at a disk and the document's disk. -/
structure AskIn (w : World) (p sb mb : Nat) (pl : Option Nat) (s : DS) (B Bf : Nat) (A : Option Addr) (c : Nat) (P : Option Addr) (pn pc : Nat) (xs : List Spt) (fs : List (Int × Int)) (o : OpD) (dv kv fv : Value) : Prop where
  disk : DiskAt w p sb mb pl s
  ref : RefAt w B Bf A c P pn pc s xs fs
  data : RB w Bf dv o.data
  keeps : RI w Bf kv o.keeps
  fates : RF w Bf fv o.fates
  k64 : ∀ x ∈ o.keeps, I64 x
  f64 : ∀ f ∈ o.fates, I64 f.1
  sep : Bf ≤ p ∧ Bf ≤ sb ∧ Bf ≤ mb ∧ p < B ∧ sb < B ∧ mb < B ∧ B ≤ w.heap.size
  steps : s.steps < 4611686018427387904
  dlen : o.data.length ≤ 140737488351232
  flen : o.fates.length * 16 ≤ 140737488351232
/-- What such a call may turn: the disk's blocks, and what is laid since. -/
def AskS (p sb mb z : Nat) (k : Nat) : Prop := Own p sb mb k ∨ z ≤ k
/-- .. and what it leaves. -/
def AskOut7 (w : World) (p sb mb B Bf : Nat) (s' : DS) (e : Ending) (w' : World) : Prop :=
  Mod (AskS p sb mb w.heap.size) w w' ∧ w.heap.size ≤ w'.heap.size ∧ ∃ pl' A' c' P' pn' pc' xs' fs', e = .returned (.tuple #[refV A' c' P' pn' pc' s', .bool true]) ∧ DiskAt w' p sb mb pl' s' ∧ RefAt w' B Bf A' c' P' pn' pc' s' xs' fs'
theorem DiskAt.ne_pl {w : World} {p sb mb : Nat} {pl : Option Nat} {s : DS} {b q : Nat} {t : TypeId} {cs : Array Value} (h : DiskAt w p sb mb pl s) (hb : pl = some b) (hq : Blk w q t cs) : b ≠ q := by
  rcases h.plan with ⟨h1, _⟩ | ⟨b', n, g, h1, h2, h3, _⟩
  · rw [h1] at hb; cases hb
  · rw [h1] at hb
    injection hb with hb
    subst hb
    exact h3.cells_ne hq
theorem callsAt {f : FuncId} {a1 a2 : Array Value} {w : World} {Q : Ending → World → Prop} (he : a1 = a2) (h : Calls Try.prog f a1 w Q) : Calls Try.prog f a2 w Q := he ▸ h
theorem on_spotF (s : DS) (ks : List Int) (i : Nat) (hi : i < s.safe.length) : (s.on ks).spotF i = (if ks.contains (i : Int) then hasL (s.spotF i) else (s.spotF i).1, none) := by
  unfold DS.on DS.spotF
  dsimp only
  rw [List.getD, List.getElem?_map, List.getElem?_range hi]
  rfl
theorem on_len (s : DS) (ks : List Int) : (s.on ks).safe.length = s.safe.length := by unfold DS.on; simp
/-- The end: the result's block written. -/
theorem askOut_of {w W : World} {p sb mb B Bf : Nat} {pl : Option Nat} {A P : Option Addr} {c pn pc : Nat} {s : DS} {xs : List Spt} {fs : List (Int × Int)} {v0 v1 v2 v3 : Value} {q n st : Nat} {off : Bool} (hd : DiskAt W p sb mb pl s) (hr : RefAt W B Bf A c P pn pc s xs fs) (hb : Mod (AskS p sb mb w.heap.size) w W) (hz : w.heap.size ≤ W.heap.size) (hq : w.heap.size ≤ q) (hbr : Blk W q 46 #[v0, v1, v2, v3]) (hp : p < w.heap.size ∧ sb < w.heap.size ∧ mb < w.heap.size) (hf : Bf ≤ w.heap.size) (hpl : ∀ b, pl = some b → b ≠ q) (hn : n = s.safe.length) (hst : st = s.steps) (hoff : off = s.off) :
    Blk ((((W.setCell ⟨q, 0, none⟩ (.slice A n c)).setCell ⟨q, 1, none⟩ (.slice P pn pc)).setCell ⟨q, 2, none⟩ (.int .i64 (st : Int))).setCell ⟨q, 3, none⟩ (.bool off)) q 46 #[.slice A n c, .slice P pn pc, .int .i64 (st : Int), .bool off] ∧
    AskOut7 w p sb mb B Bf s (.returned (.tuple #[.agg #[.slice A n c, .slice P pn pc, .int .i64 (st : Int), .bool off], .bool true])) ((((W.setCell ⟨q, 0, none⟩ (.slice A n c)).setCell ⟨q, 1, none⟩ (.slice P pn pc)).setCell ⟨q, 2, none⟩ (.int .i64 (st : Int))).setCell ⟨q, 3, none⟩ (.bool off)) := by
  obtain ⟨h1, h2, h3⟩ := over_dk (x0 := .slice A n c) (x1 := .slice P pn pc) (x2 := .int .i64 (st : Int)) (x3 := .bool off) (Below.refl 0 W) (Nat.zero_le q) hbr
  refine ⟨h1, hb.trans h3 (fun k _ e => .inr (by omega)), Nat.le_trans hz h3.size, pl, A, c, P, pn, pc, xs, fs, by unfold refV dkV; rw [hn, hst, hoff], hd.mod h3 (fun e => by omega) (fun e => by omega) (fun e => by omega) hpl, hr.modT h3 (fun k e => by subst e; exact ⟨_, hbr⟩) (fun k e => by omega)⟩

set_option maxRecDepth 100000 in
set_option maxHeartbeats 4000000 in
theorem asks_none (w : World) (p sb mb : Nat) (pl : Option Nat) (s : DS) (B Bf : Nat) (A : Option Addr) (c : Nat) (P : Option Addr) (pn pc : Nat) (xs : List Spt) (fs : List (Int × Int)) (o : OpD) (dv kv fv : Value) (h : AskIn w p sb mb pl s B Bf A c P pn pc xs fs o dv kv fv) (hk : ¬ o.kind = 1 ∧ ¬ o.kind = 2 ∧ ¬ o.kind = 3 ∧ ¬ o.kind = 4 ∧ ¬ o.kind = 5) :
    Calls Try.prog 17 #[.pointer (some ⟨p, 0, none⟩), refV A c P pn pc s, .agg (opC o dv kv fv)] w (AskOut7 w p sb mb B Bf (s.run o)) := by
  obtain ⟨dA, dc, rfl, -, -, -, -⟩ := h.data.open_
  obtain ⟨kA, kc, rfl, -, -, -, -⟩ := h.keeps.open_
  obtain ⟨fA, fc, rfl, -, -, -, -⟩ := h.fates.open_
  obtain ⟨kind, oi, data, keeps, fates⟩ := o
  obtain ⟨n, hn⟩ : ∃ n, n = s.safe.length := ⟨_, rfl⟩
  obtain ⟨st, hs0⟩ : ∃ st, st = s.steps := ⟨_, rfl⟩
  obtain ⟨off, hoff⟩ : ∃ off, off = s.off := ⟨_, rfl⟩
  dsimp only at h hk ⊢
  obtain ⟨dn, hdn⟩ : ∃ dn, dn = data.length := ⟨_, rfl⟩
  obtain ⟨kn, hkn⟩ : ∃ kn, kn = keeps.length := ⟨_, rfl⟩
  obtain ⟨fn, hfn⟩ : ∃ fn, fn = fates.length := ⟨_, rfl⟩
  rw [← hdn, ← hkn, ← hfn] at h ⊢
  have HIN := Lib.hid h
  have hsp := h.sep
  have hpr : DiskAt w p sb mb pl s := h.disk
  obtain ⟨W0, hW0, hb1, hb2, hb3, hw0, hz0⟩ := boxes3s w #[.slice A n c, .slice P pn pc, .int .i64 (st : Int), .bool off] #[.int .i64 kind, .int .i64 oi, .slice dA dn dc, .slice kA kn kc, .slice fA fn fc] #[.slice none 0 0, .slice none 0 0, .int .i64 0, .bool false] 46 50 46
  have HW0 := Lib.hid hW0
  have HBD := Lib.hid hb1
  have HBO := Lib.hid hb2
  have HBR := Lib.hid hb3
  have HB0 := Lib.hid hw0
  have HZ0 := Lib.hid hz0
  have HD := Lib.hid (h.disk.below hw0)
  have HREF := Lib.hid (h.ref.below hw0)
  have HN := Lib.hid hn
  have HS0 := Lib.hid hs0
  have HOFF := Lib.hid hoff
  have HDN := Lib.hid hdn
  have HKN := Lib.hid hkn
  have HFN := Lib.hid hfn
  have HRUN : Hid (AskOut7 w p sb mb B Bf (s.run ⟨kind, oi, data, keeps, fates⟩) = AskOut7 w p sb mb B Bf (s)) := Lib.hid (by unfold DS.run; simp [show ¬ kind = 2 by omega, show ¬ kind = 3 by omega, show ¬ kind = 4 by omega, show ¬ kind = 5 by omega])
  rw [HRUN.out]
  have D0 : W0.cell? ⟨w.heap.size, 0, none⟩ = some (.slice A n c) := (HBD.out).cell 0
  have D1 : W0.cell? ⟨w.heap.size, 1, none⟩ = some (.slice P pn pc) := (HBD.out).cell 1
  have D2 : W0.cell? ⟨w.heap.size, 2, none⟩ = some (.int .i64 (st : Int)) := (HBD.out).cell 2
  have D3 : W0.cell? ⟨w.heap.size, 3, none⟩ = some (.bool off) := (HBD.out).cell 3
  have F1 : ∀ j, W0.frozen? ⟨w.heap.size, j, none⟩ = false := (HBD.out).frozen
  have O0 : W0.cell? ⟨w.heap.size + 1, 0, none⟩ = some (.int .i64 kind) := (HBO.out).cell 0
  have O1 : W0.cell? ⟨w.heap.size + 1, 1, none⟩ = some (.int .i64 oi) := (HBO.out).cell 1
  have O2 : W0.cell? ⟨w.heap.size + 1, 2, none⟩ = some (.slice dA dn dc) := (HBO.out).cell 2
  have O3 : W0.cell? ⟨w.heap.size + 1, 3, none⟩ = some (.slice kA kn kc) := (HBO.out).cell 3
  have O4 : W0.cell? ⟨w.heap.size + 1, 4, none⟩ = some (.slice fA fn fc) := (HBO.out).cell 4
  have R0 : W0.cell? ⟨w.heap.size + 2, 0, none⟩ = some (.slice none 0 0) := (HBR.out).cell 0
  have R1 : W0.cell? ⟨w.heap.size + 2, 1, none⟩ = some (.slice none 0 0) := (HBR.out).cell 1
  have R2 : W0.cell? ⟨w.heap.size + 2, 2, none⟩ = some (.int .i64 0) := (HBR.out).cell 2
  have R3 : W0.cell? ⟨w.heap.size + 2, 3, none⟩ = some (.bool false) := (HBR.out).cell 3
  have F2 : ∀ j, W0.frozen? ⟨w.heap.size + 2, j, none⟩ = false := (HBR.out).frozen
  unfold refV dkV opC
  rw [← hn, ← hs0, ← hoff]
  clear h hn hs0 hoff hdn hkn hfn hW0 hb1 hb2 hb3 hw0 hz0 hpr HRUN
  have g1 : (kind == 1) = false := by simpa using hk.1
  have g2 : (kind == 2) = false := by simpa using hk.2.1
  have g3 : (kind == 3) = false := by simpa using hk.2.2.1
  have g4 : (kind == 4) = false := by simpa using hk.2.2.2.1
  have g5 : (kind == 5) = false := by simpa using hk.2.2.2.2
  have hbf : Bf ≤ w.heap.size := by omega
  have hplne : ∀ b, pl = some b → b ≠ w.heap.size + 2 := fun b e => by
    have h1 := HD.out.ne_pl e HBR.out
    exact h1
  have HE := Lib.hid (askOut_of (n := n) (st := st) (off := off) HD.out HREF.out (Mod.of_below HB0.out _) (by have := HZ0.out; omega) (Nat.le_add_right _ 2) HBR.out (by omega) hbf hplne HN.out HS0.out HOFF.out)
  clear hk
  go_enter Try.func17, Try.ntmps17
  go_upto_region 1 with fail
  rw [← HW0.out]
  go_wp2_with fail
  exact ret_dk2 (b := w.heap.size + 2) rfl rfl rfl HE.out.1 rfl HE.out.2

set_option maxRecDepth 100000 in
set_option maxHeartbeats 4000000 in
theorem asks_sync (w : World) (p sb mb : Nat) (pl : Option Nat) (s : DS) (B Bf : Nat) (A : Option Addr) (c : Nat) (P : Option Addr) (pn pc : Nat) (xs : List Spt) (fs : List (Int × Int)) (o : OpD) (dv kv fv : Value) (h : AskIn w p sb mb pl s B Bf A c P pn pc xs fs o dv kv fv) (hk : o.kind = 3) :
    Calls Try.prog 17 #[.pointer (some ⟨p, 0, none⟩), refV A c P pn pc s, .agg (opC o dv kv fv)] w (AskOut7 w p sb mb B Bf (s.run o)) := by
  obtain ⟨dA, dc, rfl, -, -, -, -⟩ := h.data.open_
  obtain ⟨kA, kc, rfl, -, -, -, -⟩ := h.keeps.open_
  obtain ⟨fA, fc, rfl, -, -, -, -⟩ := h.fates.open_
  obtain ⟨kind, oi, data, keeps, fates⟩ := o
  obtain ⟨n, hn⟩ : ∃ n, n = s.safe.length := ⟨_, rfl⟩
  obtain ⟨st, hs0⟩ : ∃ st, st = s.steps := ⟨_, rfl⟩
  obtain ⟨off, hoff⟩ : ∃ off, off = s.off := ⟨_, rfl⟩
  dsimp only at h hk ⊢
  obtain ⟨dn, hdn⟩ : ∃ dn, dn = data.length := ⟨_, rfl⟩
  obtain ⟨kn, hkn⟩ : ∃ kn, kn = keeps.length := ⟨_, rfl⟩
  obtain ⟨fn, hfn⟩ : ∃ fn, fn = fates.length := ⟨_, rfl⟩
  rw [← hdn, ← hkn, ← hfn] at h ⊢
  subst hk
  have HIN := Lib.hid h
  have hsp := h.sep
  have hpr : DiskAt w p sb mb pl s := h.disk
  obtain ⟨W0, hW0, hb1, hb2, hb3, hw0, hz0⟩ := boxes3s w #[.slice A n c, .slice P pn pc, .int .i64 (st : Int), .bool off] #[.int .i64 3, .int .i64 oi, .slice dA dn dc, .slice kA kn kc, .slice fA fn fc] #[.slice none 0 0, .slice none 0 0, .int .i64 0, .bool false] 46 50 46
  have HW0 := Lib.hid hW0
  have HBD := Lib.hid hb1
  have HBO := Lib.hid hb2
  have HBR := Lib.hid hb3
  have HB0 := Lib.hid hw0
  have HZ0 := Lib.hid hz0
  have HD := Lib.hid (h.disk.below hw0)
  have HREF := Lib.hid (h.ref.below hw0)
  have HN := Lib.hid hn
  have HS0 := Lib.hid hs0
  have HOFF := Lib.hid hoff
  have HDN := Lib.hid hdn
  have HKN := Lib.hid hkn
  have HFN := Lib.hid hfn
  have HRUN : Hid (AskOut7 w p sb mb B Bf (s.run ⟨3, oi, data, keeps, fates⟩) = AskOut7 w p sb mb B Bf (s.sync)) := Lib.hid (by unfold DS.run; rfl)
  rw [HRUN.out]
  have D0 : W0.cell? ⟨w.heap.size, 0, none⟩ = some (.slice A n c) := (HBD.out).cell 0
  have D1 : W0.cell? ⟨w.heap.size, 1, none⟩ = some (.slice P pn pc) := (HBD.out).cell 1
  have D2 : W0.cell? ⟨w.heap.size, 2, none⟩ = some (.int .i64 (st : Int)) := (HBD.out).cell 2
  have D3 : W0.cell? ⟨w.heap.size, 3, none⟩ = some (.bool off) := (HBD.out).cell 3
  have F1 : ∀ j, W0.frozen? ⟨w.heap.size, j, none⟩ = false := (HBD.out).frozen
  have O0 : W0.cell? ⟨w.heap.size + 1, 0, none⟩ = some (.int .i64 3) := (HBO.out).cell 0
  have O1 : W0.cell? ⟨w.heap.size + 1, 1, none⟩ = some (.int .i64 oi) := (HBO.out).cell 1
  have O2 : W0.cell? ⟨w.heap.size + 1, 2, none⟩ = some (.slice dA dn dc) := (HBO.out).cell 2
  have O3 : W0.cell? ⟨w.heap.size + 1, 3, none⟩ = some (.slice kA kn kc) := (HBO.out).cell 3
  have O4 : W0.cell? ⟨w.heap.size + 1, 4, none⟩ = some (.slice fA fn fc) := (HBO.out).cell 4
  have R0 : W0.cell? ⟨w.heap.size + 2, 0, none⟩ = some (.slice none 0 0) := (HBR.out).cell 0
  have R1 : W0.cell? ⟨w.heap.size + 2, 1, none⟩ = some (.slice none 0 0) := (HBR.out).cell 1
  have R2 : W0.cell? ⟨w.heap.size + 2, 2, none⟩ = some (.int .i64 0) := (HBR.out).cell 2
  have R3 : W0.cell? ⟨w.heap.size + 2, 3, none⟩ = some (.bool false) := (HBR.out).cell 3
  have F2 : ∀ j, W0.frozen? ⟨w.heap.size + 2, j, none⟩ = false := (HBR.out).frozen
  unfold refV dkV opC
  rw [← hn, ← hs0, ← hoff]
  clear h hn hs0 hoff hdn hkn hfn hW0 hb1 hb2 hb3 hw0 hz0 hpr HRUN
  have hbf : Bf ≤ w.heap.size := by omega
  go_enter Try.func17, Try.ntmps17
  go_upto_region 1 with fail
  rw [← HW0.out]
  go_wp2_with fail
  refine (Sync_any W0 p sb mb pl s HD.out HIN.out.steps).mono ?_
  rintro e w1 ⟨rfl, hd1, hm1⟩
  have hbd := HBD.out.mod hm1 (fun e => by rcases e with e | e | e <;> omega)
  have hbo := HBO.out.mod hm1 (fun e => by rcases e with e | e | e <;> omega)
  have hbr := HBR.out.mod hm1 (fun e => by rcases e with e | e | e <;> omega)
  have HREF1 := Lib.hid (HREF.out.mod hm1 (fun k hk1 hk2 e => by rcases e with e | e | e <;> omega) (fun k e => by rcases e with e | e | e <;> omega))
  have HB1 : Hid (Below Bf w w1) := Lib.hid (((Mod.of_below HB0.out (fun q => Bf ≤ q)).trans hm1 (fun q _ e => by rcases e with e | e | e <;> omega)).below hbf (fun _ h => h))
  have HMA1 := Lib.hid ((Mod.of_below HB0.out (AskS p sb mb w.heap.size)).trans hm1 (fun q _ e => .inl e))
  have hz1 := hm1.size
  have HD1 := Lib.hid hd1
  have HBD1 := Lib.hid hbd
  have HBO1 := Lib.hid hbo
  have HBR1 := Lib.hid hbr
  clear D0 D1 D2 D3 F1 O0 O1 O2 O3 O4 R0 R1 R2 R3 F2
  have D0 : w1.cell? ⟨w.heap.size, 0, none⟩ = some (.slice A n c) := (hbd).cell 0
  have D1 : w1.cell? ⟨w.heap.size, 1, none⟩ = some (.slice P pn pc) := (hbd).cell 1
  have D2 : w1.cell? ⟨w.heap.size, 2, none⟩ = some (.int .i64 (st : Int)) := (hbd).cell 2
  have D3 : w1.cell? ⟨w.heap.size, 3, none⟩ = some (.bool off) := (hbd).cell 3
  have F1 : ∀ j, w1.frozen? ⟨w.heap.size, j, none⟩ = false := (hbd).frozen
  have O0 : w1.cell? ⟨w.heap.size + 1, 0, none⟩ = some (.int .i64 3) := (hbo).cell 0
  have O1 : w1.cell? ⟨w.heap.size + 1, 1, none⟩ = some (.int .i64 oi) := (hbo).cell 1
  have O2 : w1.cell? ⟨w.heap.size + 1, 2, none⟩ = some (.slice dA dn dc) := (hbo).cell 2
  have O3 : w1.cell? ⟨w.heap.size + 1, 3, none⟩ = some (.slice kA kn kc) := (hbo).cell 3
  have O4 : w1.cell? ⟨w.heap.size + 1, 4, none⟩ = some (.slice fA fn fc) := (hbo).cell 4
  have R0 : w1.cell? ⟨w.heap.size + 2, 0, none⟩ = some (.slice none 0 0) := (hbr).cell 0
  have R1 : w1.cell? ⟨w.heap.size + 2, 1, none⟩ = some (.slice none 0 0) := (hbr).cell 1
  have R2 : w1.cell? ⟨w.heap.size + 2, 2, none⟩ = some (.int .i64 0) := (hbr).cell 2
  have R3 : w1.cell? ⟨w.heap.size + 2, 3, none⟩ = some (.bool false) := (hbr).cell 3
  have F2 : ∀ j, w1.frozen? ⟨w.heap.size + 2, j, none⟩ = false := (hbr).frozen
  clear hbd hbo hbr
  obtain ⟨se, hse⟩ : ∃ se, se = s.syncE := ⟨_, rfl⟩
  rw [← hse]
  have HSE := Lib.hid hse
  have hBw1 : B ≤ w1.heap.size := by have := HZ0.out; omega
  have HBW1 := Lib.hid hBw1
  have HST := HIN.out.steps
  clear hse hm1 hd1
  go_wp2_with fail
  refine (refSync_any w1 B Bf A c P pn pc s xs fs HREF1.out HD.out.ok HST HBW1.out |> callsAt (by unfold refV dkV; rw [← HN.out, ← HS0.out, ← HOFF.out])).mono ?_
  rintro e w2 ⟨hb2, A2, c2, xs2, rfl, hr2⟩
  rw [← HSE.out]
  have HD2 := Lib.hid (HD1.out.below hb2)
  have HREF2 := Lib.hid hr2
  have HBR2 := Lib.hid (HBR1.out.below hb2 HBR1.out.lt)
  have HB2 : Hid (Below Bf w w2) := Lib.hid (HB1.out.trans (hb2.mono (by have := HZ0.out; omega)))
  obtain ⟨n2, hn2⟩ : ∃ n2, n2 = s.sync.safe.length := ⟨_, rfl⟩
  obtain ⟨st2, hst2⟩ : ∃ st2, st2 = s.sync.steps := ⟨_, rfl⟩
  obtain ⟨off2, hoff2⟩ : ∃ off2, off2 = s.sync.off := ⟨_, rfl⟩
  unfold refV dkV
  rw [← hn2, ← hst2, ← hoff2]
  obtain ⟨W3, hW3⟩ : ∃ W3, W3 = w2.alloc (.cells #[.slice A2 n2 c2, .slice P pn pc, .int .i64 (st2 : Int), .bool off2] 46) := ⟨_, rfl⟩
  have hb3 : Below w2.heap.size w2 W3 := by rw [hW3]; exact (Below.refl _ _).alloc (Nat.le_refl _) _
  have hbk3 : Blk W3 w2.heap.size 46 #[.slice A2 n2 c2, .slice P pn pc, .int .i64 (st2 : Int), .bool off2] := by rw [hW3]; exact Blk.new _ _ _
  have HD3 := Lib.hid (HD2.out.below hb3)
  have HREF3 := Lib.hid (HREF2.out.below hb3)
  have hbr := HBR2.out.below hb3 HBR2.out.lt
  have hz2 := hb2.size
  have hz3 := hb3.size
  have HB3 : Hid (Below Bf w W3) := Lib.hid (HB2.out.trans (hb3.mono (by have := HZ0.out; omega)))
  have hplne : ∀ b, pl = some b → b ≠ w.heap.size + 2 := fun b e => HD3.out.ne_pl e hbr
  have HE := Lib.hid (askOut_of (n := n2) (st := st2) (off := off2) HD3.out HREF3.out ((HMA1.out.trans' (Mod.of_below hb2 _)).trans' (Mod.of_below hb3 _)) (by have := HZ0.out; omega) (Nat.le_add_right _ 2) hbr (by omega) hbf hplne hn2 hst2 hoff2)
  have G0 : W3.cell? ⟨w2.heap.size, 0, none⟩ = some (.slice A2 n2 c2) := hbk3.cell 0
  have G1 : W3.cell? ⟨w2.heap.size, 1, none⟩ = some (.slice P pn pc) := hbk3.cell 1
  have G2 : W3.cell? ⟨w2.heap.size, 2, none⟩ = some (.int .i64 (st2 : Int)) := hbk3.cell 2
  have G3 : W3.cell? ⟨w2.heap.size, 3, none⟩ = some (.bool off2) := hbk3.cell 3
  clear D0 D1 D2 D3 F1 O0 O1 O2 O3 O4 R0 R1 R2 R3 F2
  have R0 : W3.cell? ⟨w.heap.size + 2, 0, none⟩ = some (.slice none 0 0) := hbr.cell 0
  have R1 : W3.cell? ⟨w.heap.size + 2, 1, none⟩ = some (.slice none 0 0) := hbr.cell 1
  have R2 : W3.cell? ⟨w.heap.size + 2, 2, none⟩ = some (.int .i64 0) := hbr.cell 2
  have R3 : W3.cell? ⟨w.heap.size + 2, 3, none⟩ = some (.bool false) := hbr.cell 3
  have F2 : ∀ j, W3.frozen? ⟨w.heap.size + 2, j, none⟩ = false := hbr.frozen
  have hne2 : ¬ w2.heap.size = w.heap.size + 2 := by have := HBR2.out.lt; omega
  have HW3 := Lib.hid hW3
  clear hb2 hr2 hn2 hst2 hoff2 hb3 hbk3 hbr hW3 hplne
  go_upto_region 17 with fail
  rw [← HW3.out]
  go_wp2_with fail
  exact ret_dk2 (b := w.heap.size + 2) rfl rfl rfl HE.out.1 rfl HE.out.2

set_option maxRecDepth 100000 in
set_option maxHeartbeats 4000000 in
theorem asks_on (w : World) (p sb mb : Nat) (pl : Option Nat) (s : DS) (B Bf : Nat) (A : Option Addr) (c : Nat) (P : Option Addr) (pn pc : Nat) (xs : List Spt) (fs : List (Int × Int)) (o : OpD) (dv kv fv : Value) (h : AskIn w p sb mb pl s B Bf A c P pn pc xs fs o dv kv fv) (hk : o.kind = 4) :
    Calls Try.prog 17 #[.pointer (some ⟨p, 0, none⟩), refV A c P pn pc s, .agg (opC o dv kv fv)] w (AskOut7 w p sb mb B Bf (s.run o)) := by
  obtain ⟨dA, dc, rfl, -, -, -, -⟩ := h.data.open_
  obtain ⟨kA, kc, rfl, -, -, -, -⟩ := h.keeps.open_
  obtain ⟨fA, fc, rfl, -, -, -, -⟩ := h.fates.open_
  obtain ⟨kind, oi, data, keeps, fates⟩ := o
  obtain ⟨n, hn⟩ : ∃ n, n = s.safe.length := ⟨_, rfl⟩
  obtain ⟨st, hs0⟩ : ∃ st, st = s.steps := ⟨_, rfl⟩
  obtain ⟨off, hoff⟩ : ∃ off, off = s.off := ⟨_, rfl⟩
  dsimp only at h hk ⊢
  obtain ⟨dn, hdn⟩ : ∃ dn, dn = data.length := ⟨_, rfl⟩
  obtain ⟨kn, hkn⟩ : ∃ kn, kn = keeps.length := ⟨_, rfl⟩
  obtain ⟨fn, hfn⟩ : ∃ fn, fn = fates.length := ⟨_, rfl⟩
  rw [← hdn, ← hkn, ← hfn] at h ⊢
  subst hk
  have HIN := Lib.hid h
  have hsp := h.sep
  have hpr : DiskAt w p sb mb pl s := h.disk
  obtain ⟨W0, hW0, hb1, hb2, hb3, hw0, hz0⟩ := boxes3s w #[.slice A n c, .slice P pn pc, .int .i64 (st : Int), .bool off] #[.int .i64 4, .int .i64 oi, .slice dA dn dc, .slice kA kn kc, .slice fA fn fc] #[.slice none 0 0, .slice none 0 0, .int .i64 0, .bool false] 46 50 46
  have HW0 := Lib.hid hW0
  have HBD := Lib.hid hb1
  have HBO := Lib.hid hb2
  have HBR := Lib.hid hb3
  have HB0 := Lib.hid hw0
  have HZ0 := Lib.hid hz0
  have HD := Lib.hid (h.disk.below hw0)
  have HREF := Lib.hid (h.ref.below hw0)
  have HN := Lib.hid hn
  have HS0 := Lib.hid hs0
  have HOFF := Lib.hid hoff
  have HDN := Lib.hid hdn
  have HKN := Lib.hid hkn
  have HFN := Lib.hid hfn
  have HRUN : Hid (AskOut7 w p sb mb B Bf (s.run ⟨4, oi, data, keeps, fates⟩) = AskOut7 w p sb mb B Bf (s.on keeps)) := Lib.hid (by unfold DS.run; rfl)
  rw [HRUN.out]
  have D0 : W0.cell? ⟨w.heap.size, 0, none⟩ = some (.slice A n c) := (HBD.out).cell 0
  have D1 : W0.cell? ⟨w.heap.size, 1, none⟩ = some (.slice P pn pc) := (HBD.out).cell 1
  have D2 : W0.cell? ⟨w.heap.size, 2, none⟩ = some (.int .i64 (st : Int)) := (HBD.out).cell 2
  have D3 : W0.cell? ⟨w.heap.size, 3, none⟩ = some (.bool off) := (HBD.out).cell 3
  have F1 : ∀ j, W0.frozen? ⟨w.heap.size, j, none⟩ = false := (HBD.out).frozen
  have O0 : W0.cell? ⟨w.heap.size + 1, 0, none⟩ = some (.int .i64 4) := (HBO.out).cell 0
  have O1 : W0.cell? ⟨w.heap.size + 1, 1, none⟩ = some (.int .i64 oi) := (HBO.out).cell 1
  have O2 : W0.cell? ⟨w.heap.size + 1, 2, none⟩ = some (.slice dA dn dc) := (HBO.out).cell 2
  have O3 : W0.cell? ⟨w.heap.size + 1, 3, none⟩ = some (.slice kA kn kc) := (HBO.out).cell 3
  have O4 : W0.cell? ⟨w.heap.size + 1, 4, none⟩ = some (.slice fA fn fc) := (HBO.out).cell 4
  have R0 : W0.cell? ⟨w.heap.size + 2, 0, none⟩ = some (.slice none 0 0) := (HBR.out).cell 0
  have R1 : W0.cell? ⟨w.heap.size + 2, 1, none⟩ = some (.slice none 0 0) := (HBR.out).cell 1
  have R2 : W0.cell? ⟨w.heap.size + 2, 2, none⟩ = some (.int .i64 0) := (HBR.out).cell 2
  have R3 : W0.cell? ⟨w.heap.size + 2, 3, none⟩ = some (.bool false) := (HBR.out).cell 3
  have F2 : ∀ j, W0.frozen? ⟨w.heap.size + 2, j, none⟩ = false := (HBR.out).frozen
  unfold refV dkV opC
  rw [← hn, ← hs0, ← hoff]
  clear h hn hs0 hoff hdn hkn hfn hW0 hb1 hb2 hb3 hw0 hz0 hpr HRUN
  have hbf : Bf ≤ w.heap.size := by omega
  go_enter Try.func17, Try.ntmps17
  go_upto_region 1 with fail
  rw [← HW0.out]
  have HKV : Hid (RI W0 W0.heap.size (.slice kA kn kc) keeps) := Lib.hid ((HIN.out.keeps.below (HB0.out.mono hbf)).more (by have := HZ0.out; omega))
  have HKO : Hid (Off (fun k => k = sb) (.slice kA kn kc) keeps) := Lib.hid (RK.off (HIN.out.keeps) (fun k hk e => by omega))
  go_wp2_with fail
  refine (On_any W0 p sb mb pl s _ keeps HD.out HKV.out HIN.out.k64 HKO.out).mono ?_
  rintro e w1 ⟨rfl, hd1, hm1⟩
  have hbd := HBD.out.mod hm1 (fun e => by rcases e with e | e | e <;> omega)
  have hbo := HBO.out.mod hm1 (fun e => by rcases e with e | e | e <;> omega)
  have hbr := HBR.out.mod hm1 (fun e => by rcases e with e | e | e <;> omega)
  have HREF1 := Lib.hid (HREF.out.mod hm1 (fun k hk1 hk2 e => by rcases e with e | e | e <;> omega) (fun k e => by rcases e with e | e | e <;> omega))
  have HB1 : Hid (Below Bf w w1) := Lib.hid (((Mod.of_below HB0.out (fun q => Bf ≤ q)).trans hm1 (fun q _ e => by rcases e with e | e | e <;> omega)).below hbf (fun _ h => h))
  have HMA1 := Lib.hid ((Mod.of_below HB0.out (AskS p sb mb w.heap.size)).trans hm1 (fun q _ e => .inl e))
  have hz1 := hm1.size
  have HD1 := Lib.hid hd1
  have HBD1 := Lib.hid hbd
  have HBO1 := Lib.hid hbo
  have HBR1 := Lib.hid hbr
  clear D0 D1 D2 D3 F1 O0 O1 O2 O3 O4 R0 R1 R2 R3 F2
  have D0 : w1.cell? ⟨w.heap.size, 0, none⟩ = some (.slice A n c) := (hbd).cell 0
  have D1 : w1.cell? ⟨w.heap.size, 1, none⟩ = some (.slice P pn pc) := (hbd).cell 1
  have D2 : w1.cell? ⟨w.heap.size, 2, none⟩ = some (.int .i64 (st : Int)) := (hbd).cell 2
  have D3 : w1.cell? ⟨w.heap.size, 3, none⟩ = some (.bool off) := (hbd).cell 3
  have F1 : ∀ j, w1.frozen? ⟨w.heap.size, j, none⟩ = false := (hbd).frozen
  have O0 : w1.cell? ⟨w.heap.size + 1, 0, none⟩ = some (.int .i64 4) := (hbo).cell 0
  have O1 : w1.cell? ⟨w.heap.size + 1, 1, none⟩ = some (.int .i64 oi) := (hbo).cell 1
  have O2 : w1.cell? ⟨w.heap.size + 1, 2, none⟩ = some (.slice dA dn dc) := (hbo).cell 2
  have O3 : w1.cell? ⟨w.heap.size + 1, 3, none⟩ = some (.slice kA kn kc) := (hbo).cell 3
  have O4 : w1.cell? ⟨w.heap.size + 1, 4, none⟩ = some (.slice fA fn fc) := (hbo).cell 4
  have R0 : w1.cell? ⟨w.heap.size + 2, 0, none⟩ = some (.slice none 0 0) := (hbr).cell 0
  have R1 : w1.cell? ⟨w.heap.size + 2, 1, none⟩ = some (.slice none 0 0) := (hbr).cell 1
  have R2 : w1.cell? ⟨w.heap.size + 2, 2, none⟩ = some (.int .i64 0) := (hbr).cell 2
  have R3 : w1.cell? ⟨w.heap.size + 2, 3, none⟩ = some (.bool false) := (hbr).cell 3
  have F2 : ∀ j, w1.frozen? ⟨w.heap.size + 2, j, none⟩ = false := (hbr).frozen
  clear hbd hbo hbr
  have hBw1 : B ≤ w1.heap.size := by have := HZ0.out; omega
  have HBW1 := Lib.hid hBw1
  have HKV1 : Hid (RI w1 w1.heap.size (.slice kA kn kc) keeps) := Lib.hid ((HIN.out.keeps.below HB1.out).more (by have := HZ0.out; omega))
  clear hm1 hd1
  go_wp2_with fail
  refine (refOn_any w1 B A n c xs s.spotF (by have h := HREF1.out.row; rw [← HN.out] at h; exact h) (by rw [HREF1.out.len]; exact HN.out.symm) (by rw [HN.out]; exact HD.out.ok.num) HBW1.out P pn pc st off _ keeps HKV1.out).mono ?_
  rintro e w2 ⟨A2, c2, xs2, rfl, hrow2, hxl2, hb2⟩
  have hr2 : RefAt w2 B Bf A2 c2 P pn pc (s.on keeps) xs2 fs := by
    have h2 := HREF1.out.below hb2
    have hln : (s.on keeps).safe.length = n := by rw [on_len]; exact HN.out.symm
    exact ⟨by rw [hln]; exact hrow2.congr (fun i hi => (on_spotF s keeps i (by rw [← HN.out]; omega)).symm), by rw [hln]; exact hxl2, h2.fates, h2.fb, h2.plan⟩
  have HD2 := Lib.hid (HD1.out.below hb2)
  have hbr := HBR1.out.below hb2 HBR1.out.lt
  have hz2 := hb2.size
  have HB2 : Hid (Below Bf w w2) := Lib.hid (HB1.out.trans (hb2.mono (by have := HZ0.out; omega)))
  have hplne : ∀ b, pl = some b → b ≠ w.heap.size + 2 := fun b e => HD2.out.ne_pl e hbr
  have HE := Lib.hid (askOut_of (n := n) (st := st) (off := false) HD2.out hr2 (HMA1.out.trans' (Mod.of_below hb2 _)) (by have := HZ0.out; omega) (Nat.le_add_right _ 2) hbr (by omega) hbf hplne (by rw [on_len]; exact HN.out) HS0.out rfl)
  clear D0 D1 D2 D3 F1 O0 O1 O2 O3 O4 R0 R1 R2 R3 F2
  have R0 : w2.cell? ⟨w.heap.size + 2, 0, none⟩ = some (.slice none 0 0) := hbr.cell 0
  have R1 : w2.cell? ⟨w.heap.size + 2, 1, none⟩ = some (.slice none 0 0) := hbr.cell 1
  have R2 : w2.cell? ⟨w.heap.size + 2, 2, none⟩ = some (.int .i64 0) := hbr.cell 2
  have R3 : w2.cell? ⟨w.heap.size + 2, 3, none⟩ = some (.bool false) := hbr.cell 3
  have F2 : ∀ j, w2.frozen? ⟨w.heap.size + 2, j, none⟩ = false := hbr.frozen
  unfold dkV
  clear hb2 hr2 hrow2 hxl2 hbr hplne
  go_wp2_with fail
  exact ret_dk2 (b := w.heap.size + 2) rfl rfl rfl HE.out.1 rfl HE.out.2
end Go.Proofs.Ytdghanhpeekbhaa
