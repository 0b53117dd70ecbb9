/-
  skeinlaw14's asks: one call of the program's beside the document's; what is common to all kinds.
-/
import Derived.Test.YtgahkloldpjnkaaMVR8
namespace Go.Proofs.Ytgahkloldpjnkaa
open Go.RowKit Go.Maps
set_option linter.unusedVariables false

theorem res_no_bool {w : World} {b : Nat} {t : TypeId} {A : Option Addr} {n c : Nat} {l : Int} (h : Blk w b t #[.slice A n c, .int .i64 l]) (o : Nat) (e : Bool) : w.cell? ⟨b, o, none⟩ ≠ some (.bool e) := by
  rw [h.cell]
  match o with
  | 0 => simp
  | 1 => simp
  | _ + 2 => simp

theorem Turn.after {w W w' : World} {g : Nat} {S : Nat → Prop} {N : MV} (h : Turn W g S N w') (hb : Below w.heap.size w W) : Turn w g S N w' := by
  obtain ⟨S', h1, h2, h3⟩ := h
  refine ⟨S', h1, (Mod.of_below hb S).trans' h2, fun k hk => (h3 k hk).imp id fun e => Nat.le_trans hb.size e⟩

theorem Turn.below {w w1 w' : World} {g : Nat} {S : Nat → Prop} {N : MV} (h : Turn w g S N w1) (hb : Below w1.heap.size w1 w') : Turn w g S N w' := by
  obtain ⟨S', h1, h2, h3⟩ := h
  exact ⟨S', h1.below hb, h2.trans' (Mod.of_below hb S), h3⟩

/-- A cell of a new row that is no table is written. -/
theorem Turn.setRow {w w1 : World} {g b : Nat} {S : Nat → Prop} {N : MV} {cs : Array Value} {t : TypeId} {fr : Nat × Nat} (h : Turn w g S N w1) (hb : w1.heap[b]? = some (.cells cs t fr)) (ht : t ≠ 60) (hB : w.heap.size ≤ b) (j : Nat) (u : Value) : Turn w g S N (w1.setCell ⟨b, j, none⟩ u) := by
  obtain ⟨S', h1, h2, h3⟩ := h
  refine ⟨S', h1.mod ((Mod.refl (fun k => k = b) w1).setCell (p := ⟨b, j, none⟩) (fun _ => rfl) u) (fun k hk e => ?_), h2.setCell (p := ⟨b, j, none⟩) (fun e => absurd e (Nat.not_lt.2 hB)) u, h3⟩
  subst e
  exact h1.not_row hb ht hk

theorem RTab.setRes {w : World} {b : Nat} {A : Option Addr} {n c : Nat} {l : Int} {v : Value} {xs : List TxV} {M : MV} (h : RTab w v xs M) (hk : Blk w b 28 #[.slice A n c, .int .i64 l]) (u0 u1 : Value) : RTab ((w.setCell ⟨b, 0, none⟩ u0).setCell ⟨b, 1, none⟩ u1) v xs M := by
  have hm : Mod (fun k => k = b) w ((w.setCell ⟨b, 0, none⟩ u0).setCell ⟨b, 1, none⟩ u1) := ((Mod.refl (fun k => k = b) w).setCell (p := ⟨b, 0, none⟩) (fun _ => rfl) u0).setCell (p := ⟨b, 1, none⟩) (fun _ => rfl) u1
  refine ⟨⟨h.row.rk.mod hm ?_, fun x hx => (h.row.refs x hx).mod hm ?_⟩, h.txs, h.ok, h.small⟩
  · obtain ⟨_, A', c', rfl, _, _, h5⟩ := h.row.rk
    rcases h5 with h5 | ⟨b', off, rfl, hb, hc⟩
    · exact .inl h5
    · cases xs with
      | nil => exact .inl rfl
      | cons r rs =>
        obtain ⟨_, _, c3, _⟩ := cellTx (hc 0 r rfl)
        refine .inr fun b2 e e2 => ?_
        injection e with e
        dsimp only at e
        subst e
        subst e2
        exact res_no_bool hk _ _ c3
  · obtain ⟨_, A', c', e0, _, _, h5⟩ := h.row.refs x hx
    rcases h5 with h5 | ⟨b', off, rfl, hb, hc⟩
    · exact .inl h5
    · cases hr : x.refs with
      | nil => exact .inl rfl
      | cons r rs =>
        obtain ⟨c1, _⟩ := cellR (hc 0 r (by rw [hr]; rfl))
        refine .inr fun b2 e e2 => ?_
        rw [e0] at e
        injection e with e
        dsimp only at e
        subst e
        subst e2
        exact res_no_bool hk _ _ c1

/-- What asks leaves. -/
def AskOut (w : World) (g : Nat) (S : Nat → Prop) (N N' : MV) (P : Prop) (e : Ending) (w' : World) : Prop :=
  ∃ v' xs' b, e = .returned (.tuple #[rtV v' N'.last, .bool b]) ∧ RTab w' v' xs' N' ∧ Turn w g S N w' ∧ (P → b = true)

/-- On the way through asks: the program's table stands for N, the document's as at the start. -/
structure AskS (w : World) (g : Nat) (S : Nat → Prop) (N M' : MV) (A : Option Addr) (c : Nat) (xs : List TxV) (cs : Array Value) (W : World) : Prop where
  turn : Turn w g S N W
  size : w.heap.size + 2 < W.heap.size
  k1 : Blk W w.heap.size 28 #[.slice A xs.length c, .int .i64 M'.last]
  k2 : Blk W (w.heap.size + 1) 32 cs
  k3 : Blk W (w.heap.size + 2) 28 #[.slice none 0 0, .int .i64 0]
  rt : RTab W (.slice A xs.length c) xs M'

def askW (w : World) (A : Option Addr) (n c : Nat) (l : Int) (cs : Array Value) : World := ((w.alloc (.cells #[.slice A n c, .int .i64 l] 28)).alloc (.cells cs 32)).alloc (.cells #[.slice none 0 0, .int .i64 0] 28)

theorem askW_below (w : World) (A : Option Addr) (n c : Nat) (l : Int) (cs : Array Value) : Below w.heap.size w (askW w A n c l cs) := (((Below.refl _ _).alloc (Nat.le_refl _) _).alloc (by simp) _).alloc (by simp; omega) _

theorem ask_start {w : World} {g : Nat} {S : Nat → Prop} {M M' : MV} {A : Option Addr} {c : Nat} {xs : List TxV} (hT : Tb w g S M) (h : RTab w (.slice A xs.length c) xs M') (cs : Array Value) : AskS w g S M M' A c xs cs (askW w A xs.length c M'.last cs) ∧ Tb (askW w A xs.length c M'.last cs) g S M := by
  have hb := askW_below w A xs.length c M'.last cs
  refine ⟨⟨turn_same hT hb, by simp [askW], ((Blk.new w _ _).alloc _).alloc _, ?_, ?_, h.below hb⟩, hT.below hb⟩
  · have := (Blk.new (w.alloc (.cells #[.slice A xs.length c, .int .i64 M'.last] 28)) 32 cs).alloc (.cells #[.slice none 0 0, .int .i64 0] 28)
    simpa [askW] using this
  · have := Blk.new ((w.alloc (.cells #[.slice A xs.length c, .int .i64 M'.last] 28)).alloc (.cells cs 32)) 28 #[.slice none 0 0, .int .i64 0]
    simpa [askW] using this

section

variable {w W w' : World} {g : Nat} {S : Nat → Prop} {M N M' : MV} {A : Option Addr} {c : Nat} {xs : List TxV} {cs : Array Value}

theorem AskS.turned (h : AskS w g S M M' A c xs cs W) (hT : Tb W g S M) (hb : Below w.heap.size w W) (ht : Turn W g S N w') : AskS w g S N M' A c xs cs w' := by
  have h0 := ht
  obtain ⟨S', h1, h2, h3⟩ := ht
  exact ⟨h0.after hb, Nat.lt_of_lt_of_le h.size h2.size, h.k1.mod h2 (hT.not_row h.k1 (by decide)), h.k2.mod h2 (hT.not_row h.k2 (by decide)), h.k3.mod h2 (hT.not_row h.k3 (by decide)), h.rt.mod hT h2⟩

theorem AskS.below (h : AskS w g S N M' A c xs cs W) (hb : Below W.heap.size W w') : AskS w g S N M' A c xs cs w' :=
  ⟨h.turn.below hb, Nat.lt_of_lt_of_le h.size hb.size, h.k1.below hb h.k1.lt, h.k2.below hb h.k2.lt, h.k3.below hb h.k3.lt, h.rt.below hb⟩

theorem AskS.alloc (h : AskS w g S N M' A c xs cs W) (o : Obj) : AskS w g S N M' A c xs cs (W.alloc o) := h.below ((Below.refl _ _).alloc (Nat.le_refl _) _)

theorem AskS.cells (h : AskS w g S N M' A c xs cs W) : W.cell? ⟨w.heap.size, 0, none⟩ = some (.slice A xs.length c) ∧ W.cell? ⟨w.heap.size, 1, none⟩ = some (.int .i64 M'.last) ∧ W.cell? ⟨w.heap.size + 1, 0, none⟩ = cs[0]? ∧ W.cell? ⟨w.heap.size + 1, 1, none⟩ = cs[1]? ∧ W.cell? ⟨w.heap.size + 1, 2, none⟩ = cs[2]? ∧ W.cell? ⟨w.heap.size + 2, 0, none⟩ = some (.slice none 0 0) ∧ W.cell? ⟨w.heap.size + 2, 1, none⟩ = some (.int .i64 0) ∧ W.frozen? ⟨w.heap.size + 2, 0, none⟩ = false ∧ W.frozen? ⟨w.heap.size + 2, 1, none⟩ = false :=
  ⟨h.k1.cell 0, h.k1.cell 1, h.k2.cell 0, h.k2.cell 1, h.k2.cell 2, h.k3.cell 0, h.k3.cell 1, h.k3.frozen 0, h.k3.frozen 1⟩

/-- The result's struct is written. -/
theorem AskS.fin (h : AskS w g S N M' A c xs cs W) (u0 u1 : Value) : Turn w g S N ((W.setCell ⟨w.heap.size + 2, 0, none⟩ u0).setCell ⟨w.heap.size + 2, 1, none⟩ u1) ∧ Blk ((W.setCell ⟨w.heap.size + 2, 0, none⟩ u0).setCell ⟨w.heap.size + 2, 1, none⟩ u1) (w.heap.size + 2) 28 #[u0, u1] :=
  ⟨(h.turn.setRow h.k3 (by decide) (by omega) 0 u0).setRow (h.k3.set_ 0 u0) (by decide) (by omega) 1 u1, two_set h.k3 u0 u1⟩

end

set_option maxRecDepth 100000 in
set_option maxHeartbeats 2000000 in
theorem asks_0 (w : World) (g : Nat) (S : Nat → Prop) (M : MV) (hT : Tb w g S M) (v : Value) (xs : List TxV) (M' : MV) (h : RTab w v xs M') (kk : Int) (hkk : kk ≠ 1 ∧ kk ≠ 2 ∧ kk ≠ 3 ∧ kk ≠ 4 ∧ kk ≠ 5 ∧ kk ≠ 6) (n : Int) (rA : Option Addr) (rn rc : Nat) :
    Calls Try.prog 11 #[.pointer (some ⟨g, 0, none⟩), rtV v M'.last, .agg #[.int .i64 kk, .int .i64 n, .slice rA rn rc]] w (AskOut w g S M M' (M' = M)) := by
  obtain ⟨A, c, hv, hc1, hc2, hc3, HC⟩ := h.row.rk.open_
  subst hv
  obtain ⟨HS0, hT1⟩ := ask_start hT h #[.int .i64 kk, .int .i64 n, .slice rA rn rc]
  have hbW := askW_below w A xs.length c M'.last #[.int .i64 kk, .int .i64 n, .slice rA rn rc]
  obtain ⟨W, hW⟩ : ∃ W, W = askW w A xs.length c M'.last #[.int .i64 kk, .int .i64 n, .slice rA rn rc] := ⟨_, rfl⟩
  rw [← hW] at HS0 hT1 hbW
  have HW := Lib.hid hW
  unfold askW at HW
  have HS := Lib.hid HS0
  have HT := Lib.hid hT1
  have HBW := Lib.hid hbW
  have H := Lib.hid h
  obtain ⟨z0, z1, o0, o1, o2, p0, p1, f0, f1⟩ := HS0.cells
  change _ = some (Value.int .i64 kk) at o0
  change _ = some (Value.int .i64 n) at o1
  change _ = some (Value.slice rA rn rc) at o2
  have HT0 := Lib.hid hT
  clear hW HS0 hT1 hbW hT h
  obtain ⟨q1, q2, q3, q4, q5, q6⟩ := hkk
  have e1 : (kk == 1) = false := by simpa using q1
  have e2 : (kk == 2) = false := by simpa using q2
  have e3 : (kk == 3) = false := by simpa using q3
  have e4 : (kk == 4) = false := by simpa using q4
  have e5 : (kk == 5) = false := by simpa using q5
  have e6 : (kk == 6) = false := by simpa using q6
  unfold rtV
  go_enter Try.func11, Try.ntmps11
  go_wp2_with fail
  obtain ⟨WE, hWE⟩ : ∃ WE, WE = ((w.alloc (.cells #[.slice A xs.length c, .int .i64 M'.last] 28)).alloc (.cells #[.int .i64 kk, .int .i64 n, .slice rA rn rc] 32)).alloc (.cells #[.slice A xs.length c, .int .i64 M'.last] 28) := ⟨_, rfl⟩
  rw [← hWE]
  have bE : Below w.heap.size w WE := by rw [hWE]; exact (((Below.refl _ _).alloc (Nat.le_refl _) _).alloc (by simp) _).alloc (by simp; omega) _
  have kE : Blk WE (w.heap.size + 1 + 1) 28 #[.slice A xs.length c, .int .i64 M'.last] := by
    rw [hWE]
    have := Blk.new ((w.alloc (.cells #[.slice A xs.length c, .int .i64 M'.last] 28)).alloc (.cells #[.int .i64 kk, .int .i64 n, .slice rA rn rc] 32)) 28 #[.slice A xs.length c, .int .i64 M'.last]
    simpa using this
  have r0 : WE.cell? ⟨w.heap.size + 1 + 1, 0, none⟩ = some (.slice A xs.length c) := kE.cell 0
  have r1 : WE.cell? ⟨w.heap.size + 1 + 1, 1, none⟩ = some (.int .i64 M'.last) := kE.cell 1
  clear hWE
  refine bodyPost_ret (v := .tuple #[.agg #[.slice A xs.length c, .int .i64 M'.last], .bool true]) (by simp [results, Try.results11, go_sem, r0, r1]) rfl ?_
  exact ⟨_, xs, true, rfl, H.out.below bE, turn_same HT0.out bE, fun _ => rfl⟩

set_option maxRecDepth 100000 in
set_option maxHeartbeats 2000000 in
theorem asks_4 (w : World) (g : Nat) (S : Nat → Prop) (M : MV) (hT : Tb w g S M) (v : Value) (xs : List TxV) (M' : MV) (h : RTab w v xs M') (n : Int) (rA : Option Addr) (rn rc : Nat) (hn : I64 n) :
    Calls Try.prog 11 #[.pointer (some ⟨g, 0, none⟩), rtV v M'.last, .agg #[.int .i64 4, .int .i64 n, .slice rA rn rc]] w (AskOut w g S (M.over n) (M'.over n) (M' = M)) := by
  obtain ⟨A, c, hv, hc1, hc2, hc3, HC⟩ := h.row.rk.open_
  subst hv
  obtain ⟨HS0, hT1⟩ := ask_start hT h #[.int .i64 4, .int .i64 n, .slice rA rn rc]
  have hbW := askW_below w A xs.length c M'.last #[.int .i64 4, .int .i64 n, .slice rA rn rc]
  obtain ⟨W, hW⟩ : ∃ W, W = askW w A xs.length c M'.last #[.int .i64 4, .int .i64 n, .slice rA rn rc] := ⟨_, rfl⟩
  rw [← hW] at HS0 hT1 hbW
  have HW := Lib.hid hW
  unfold askW at HW
  have HS := Lib.hid HS0
  have HT := Lib.hid hT1
  have HBW := Lib.hid hbW
  have H := Lib.hid h
  obtain ⟨z0, z1, o0, o1, o2, p0, p1, f0, f1⟩ := HS0.cells
  change _ = some (Value.int .i64 4) at o0
  change _ = some (Value.int .i64 n) at o1
  change _ = some (Value.slice rA rn rc) at o2
  have HT0 := Lib.hid hT
  clear hW HS0 hT1 hbW hT h
  unfold rtV
  go_enter Try.func11, Try.ntmps11
  go_wp2_with fail
  rw [← HW.out]
  refine (tAbort W g S M HT.out n hn).mono ?_
  rintro e w1 ⟨rfl, ht⟩
  have HS1 := Lib.hid (HS.out.turned HT.out HBW.out ht)
  clear ht z0 z1 o0 o1 o2 p0 p1 f0 f1
  have hsz := HS1.out.size
  obtain ⟨z0, z1, o0, o1, o2, p0, p1, f0, f1⟩ := HS1.out.cells
  change _ = some (Value.int .i64 4) at o0
  change _ = some (Value.int .i64 n) at o1
  change _ = some (Value.slice rA rn rc) at o2
  have hcall := rAbort_any w1 _ xs M' HS1.out.rt n
  unfold rtV at hcall
  go_wp2_with fail
  refine hcall.mono ?_
  rintro e w2 ⟨v', xs', rfl, hR2, hb2⟩
  obtain ⟨A2, c2, hv2, -, -, -, -⟩ := hR2.row.rk.open_
  subst hv2
  have HS2 := Lib.hid (HS1.out.below hb2)
  have HR2 := Lib.hid hR2
  have HP : Hid (M' = M → M.touchE n = M'.touchE n) := Lib.hid (fun e => by rw [e])
  obtain ⟨e1, he1⟩ : ∃ e1, e1 = M.touchE n := ⟨_, rfl⟩
  obtain ⟨e2, he2⟩ : ∃ e2, e2 = M'.touchE n := ⟨_, rfl⟩
  obtain ⟨l2, hl2⟩ : ∃ l2, l2 = (M'.over n).last := ⟨_, rfl⟩
  rw [← he1, ← he2] at HP
  rw [← he1, ← he2, ← hl2]
  have HL2 := Lib.hid hl2
  clear hb2 hR2 hcall he1 he2 hl2 hsz z0 z1 o0 o1 o2 p0 p1 f0 f1
  have hsz := HS2.out.size
  obtain ⟨z0, z1, o0, o1, o2, p0, p1, f0, f1⟩ := HS2.out.cells
  change _ = some (Value.int .i64 4) at o0
  change _ = some (Value.int .i64 n) at o1
  change _ = some (Value.slice rA rn rc) at o2
  unfold rtV
  go_wp2_with fail
  rw [show w.heap.size + 1 + 1 = w.heap.size + 2 from rfl]
  obtain ⟨tE0, kE0⟩ := HS2.out.fin (.slice A2 xs'.length c2) (.int .i64 l2)
  have rE0 := HR2.out.setRes HS2.out.k3 (.slice A2 xs'.length c2) (.int .i64 l2)
  have tE := tE0.below ((Below.refl _ _).alloc (Nat.le_refl _) (.cells #[.slice A2 xs'.length c2, .int .i64 l2] 28))
  have rE := rE0.below ((Below.refl _ _).alloc (Nat.le_refl _) (.cells #[.slice A2 xs'.length c2, .int .i64 l2] 28))
  have kE := kE0.alloc (.cells #[.slice A2 xs'.length c2, .int .i64 l2] 28)
  clear tE0 rE0 kE0
  generalize ((w2.setCell ⟨w.heap.size + 2, 0, none⟩ (.slice A2 xs'.length c2)).setCell ⟨w.heap.size + 2, 1, none⟩ (.int .i64 l2)).alloc (.cells #[.slice A2 xs'.length c2, .int .i64 l2] 28) = WE at *
  have r0 : WE.cell? ⟨w.heap.size + 2, 0, none⟩ = some (.slice A2 xs'.length c2) := kE.cell 0
  have r1 : WE.cell? ⟨w.heap.size + 2, 1, none⟩ = some (.int .i64 l2) := kE.cell 1
  refine bodyPost_ret (v := .tuple #[.agg #[.slice A2 xs'.length c2, .int .i64 l2], .bool (e1 == e2)]) (by simp [results, Try.results11, go_sem, r0, r1]) rfl ?_
  exact ⟨_, _, _, by rw [← HL2.out]; rfl, rE, tE, fun e => by rw [HP.out e]; simp⟩

set_option maxRecDepth 100000 in
set_option maxHeartbeats 2000000 in
theorem asks_1 (w : World) (g : Nat) (S : Nat → Prop) (M : MV) (hT : Tb w g S M) (v : Value) (xs : List TxV) (M' : MV) (h : RTab w v xs M') (n : Int) (rA : Option Addr) (rn rc : Nat) (hr1 : M'.txns.length + 1 ≤ 400000) (hr3 : M.txns.length ≤ 400000) :
    Calls Try.prog 11 #[.pointer (some ⟨g, 0, none⟩), rtV v M'.last, .agg #[.int .i64 1, .int .i64 n, .slice rA rn rc]] w (AskOut w g S M.begin M'.begin (M' = M)) := by
  obtain ⟨A, c, hv, hc1, hc2, hc3, HC⟩ := h.row.rk.open_
  subst hv
  obtain ⟨HS0, hT1⟩ := ask_start hT h #[.int .i64 1, .int .i64 n, .slice rA rn rc]
  have hbW := askW_below w A xs.length c M'.last #[.int .i64 1, .int .i64 n, .slice rA rn rc]
  obtain ⟨W, hW⟩ : ∃ W, W = askW w A xs.length c M'.last #[.int .i64 1, .int .i64 n, .slice rA rn rc] := ⟨_, rfl⟩
  rw [← hW] at HS0 hT1 hbW
  have HW := Lib.hid hW
  unfold askW at HW
  have HS := Lib.hid HS0
  have HT := Lib.hid hT1
  have HBW := Lib.hid hbW
  have H := Lib.hid h
  obtain ⟨z0, z1, o0, o1, o2, p0, p1, f0, f1⟩ := HS0.cells
  change _ = some (Value.int .i64 1) at o0
  change _ = some (Value.int .i64 n) at o1
  change _ = some (Value.slice rA rn rc) at o2
  have HT0 := Lib.hid hT
  clear hW HS0 hT1 hbW hT h
  unfold rtV
  go_enter Try.func11, Try.ntmps11
  go_wp2_with fail
  rw [← HW.out]
  refine (tBegin W g S M HT.out (by omega)).mono ?_
  rintro e w1 ⟨rfl, ht⟩
  have HS1 := Lib.hid (HS.out.turned HT.out HBW.out ht)
  clear ht z0 z1 o0 o1 o2 p0 p1 f0 f1
  have hsz := HS1.out.size
  obtain ⟨z0, z1, o0, o1, o2, p0, p1, f0, f1⟩ := HS1.out.cells
  change _ = some (Value.int .i64 1) at o0
  change _ = some (Value.int .i64 n) at o1
  change _ = some (Value.slice rA rn rc) at o2
  have hcall := rBegin_any w1 _ xs M' HS1.out.rt hr1
  unfold rtV at hcall
  go_wp2_with fail
  refine hcall.mono ?_
  rintro e w2 ⟨v', xs', rfl, hR2, hb2⟩
  obtain ⟨A2, c2, hv2, -, -, -, -⟩ := hR2.row.rk.open_
  subst hv2
  have HS2 := Lib.hid (HS1.out.below hb2)
  have HR2 := Lib.hid hR2
  have HP : Hid (M' = M → M.beginN = M'.beginN ∧ M.beginE = M'.beginE) := Lib.hid (fun e => by rw [e]; exact ⟨rfl, rfl⟩)
  obtain ⟨l2, hl2⟩ : ∃ l2, l2 = M'.begin.last := ⟨_, rfl⟩
  obtain ⟨a0, ha0⟩ : ∃ x, x = M.beginN := ⟨_, rfl⟩
  obtain ⟨b0, hb0⟩ : ∃ x, x = M'.beginN := ⟨_, rfl⟩
  obtain ⟨a1, ha1⟩ : ∃ x, x = M.beginE := ⟨_, rfl⟩
  obtain ⟨b1, hb1⟩ : ∃ x, x = M'.beginE := ⟨_, rfl⟩
  rw [← ha0, ← hb0, ← ha1, ← hb1] at HP
  rw [← ha0, ← hb0, ← ha1, ← hb1, ← hl2]
  have HL2 := Lib.hid hl2
  clear hb2 hR2 hcall ha0 hb0 ha1 hb1 hl2 hsz z0 z1 o0 o1 o2 p0 p1 f0 f1
  have hsz := HS2.out.size
  obtain ⟨z0, z1, o0, o1, o2, p0, p1, f0, f1⟩ := HS2.out.cells
  change _ = some (Value.int .i64 1) at o0
  change _ = some (Value.int .i64 n) at o1
  change _ = some (Value.slice rA rn rc) at o2
  unfold rtV
  by_cases hab : a0 = b0
  · have hab2 : (a0 == b0) = true := by simpa using hab
    go_wp2_with fail
    rw [show w.heap.size + 1 + 1 = w.heap.size + 2 from rfl]
    obtain ⟨tE0, kE0⟩ := HS2.out.fin (.slice A2 xs'.length c2) (.int .i64 l2)
    have rE0 := HR2.out.setRes HS2.out.k3 (.slice A2 xs'.length c2) (.int .i64 l2)
    have tE := tE0.below ((Below.refl _ _).alloc (Nat.le_refl _) (.cells #[.slice A2 xs'.length c2, .int .i64 l2] 28))
    have rE := rE0.below ((Below.refl _ _).alloc (Nat.le_refl _) (.cells #[.slice A2 xs'.length c2, .int .i64 l2] 28))
    have kE := kE0.alloc (.cells #[.slice A2 xs'.length c2, .int .i64 l2] 28)
    clear tE0 rE0 kE0
    generalize ((w2.setCell ⟨w.heap.size + 2, 0, none⟩ (.slice A2 xs'.length c2)).setCell ⟨w.heap.size + 2, 1, none⟩ (.int .i64 l2)).alloc (.cells #[.slice A2 xs'.length c2, .int .i64 l2] 28) = WE at *
    have r0 : WE.cell? ⟨w.heap.size + 2, 0, none⟩ = some (.slice A2 xs'.length c2) := kE.cell 0
    have r1 : WE.cell? ⟨w.heap.size + 2, 1, none⟩ = some (.int .i64 l2) := kE.cell 1
    refine bodyPost_ret (v := .tuple #[.agg #[.slice A2 xs'.length c2, .int .i64 l2], .bool (a1 == b1)]) (by simp [results, Try.results11, go_sem, r0, r1]) rfl ?_
    exact ⟨_, _, _, by rw [← HL2.out]; rfl, rE, tE, fun e => by rw [(HP.out e).2]; simp⟩
  · have hab2 : (a0 == b0) = false := by simpa using hab
    go_wp2_with fail
    rw [show w.heap.size + 1 + 1 = w.heap.size + 2 from rfl]
    obtain ⟨tE0, kE0⟩ := HS2.out.fin (.slice A2 xs'.length c2) (.int .i64 l2)
    have rE0 := HR2.out.setRes HS2.out.k3 (.slice A2 xs'.length c2) (.int .i64 l2)
    have tE := tE0.below ((Below.refl _ _).alloc (Nat.le_refl _) (.cells #[.slice A2 xs'.length c2, .int .i64 l2] 28))
    have rE := rE0.below ((Below.refl _ _).alloc (Nat.le_refl _) (.cells #[.slice A2 xs'.length c2, .int .i64 l2] 28))
    have kE := kE0.alloc (.cells #[.slice A2 xs'.length c2, .int .i64 l2] 28)
    clear tE0 rE0 kE0
    generalize ((w2.setCell ⟨w.heap.size + 2, 0, none⟩ (.slice A2 xs'.length c2)).setCell ⟨w.heap.size + 2, 1, none⟩ (.int .i64 l2)).alloc (.cells #[.slice A2 xs'.length c2, .int .i64 l2] 28) = WE at *
    have r0 : WE.cell? ⟨w.heap.size + 2, 0, none⟩ = some (.slice A2 xs'.length c2) := kE.cell 0
    have r1 : WE.cell? ⟨w.heap.size + 2, 1, none⟩ = some (.int .i64 l2) := kE.cell 1
    refine bodyPost_ret (v := .tuple #[.agg #[.slice A2 xs'.length c2, .int .i64 l2], .bool (false)]) (by simp [results, Try.results11, go_sem, r0, r1]) rfl ?_
    exact ⟨_, _, _, by rw [← HL2.out]; rfl, rE, tE, fun e => absurd (HP.out e).1 hab⟩

set_option maxRecDepth 100000 in
set_option maxHeartbeats 2000000 in
theorem asks_3 (w : World) (g : Nat) (S : Nat → Prop) (M : MV) (hT : Tb w g S M) (v : Value) (xs : List TxV) (M' : MV) (h : RTab w v xs M') (n : Int) (rA : Option Addr) (rn rc : Nat) (hn : I64 n) (hr4 : M.bulk ≤ 800000) :
    Calls Try.prog 11 #[.pointer (some ⟨g, 0, none⟩), rtV v M'.last, .agg #[.int .i64 3, .int .i64 n, .slice rA rn rc]] w (AskOut w g S (M.commit n) (M'.commit n) (M' = M)) := by
  obtain ⟨A, c, hv, hc1, hc2, hc3, HC⟩ := h.row.rk.open_
  subst hv
  obtain ⟨HS0, hT1⟩ := ask_start hT h #[.int .i64 3, .int .i64 n, .slice rA rn rc]
  have hbW := askW_below w A xs.length c M'.last #[.int .i64 3, .int .i64 n, .slice rA rn rc]
  obtain ⟨W, hW⟩ : ∃ W, W = askW w A xs.length c M'.last #[.int .i64 3, .int .i64 n, .slice rA rn rc] := ⟨_, rfl⟩
  rw [← hW] at HS0 hT1 hbW
  have HW := Lib.hid hW
  unfold askW at HW
  have HS := Lib.hid HS0
  have HT := Lib.hid hT1
  have HBW := Lib.hid hbW
  have H := Lib.hid h
  obtain ⟨z0, z1, o0, o1, o2, p0, p1, f0, f1⟩ := HS0.cells
  change _ = some (Value.int .i64 3) at o0
  change _ = some (Value.int .i64 n) at o1
  change _ = some (Value.slice rA rn rc) at o2
  have HT0 := Lib.hid hT
  clear hW HS0 hT1 hbW hT h
  unfold rtV
  go_enter Try.func11, Try.ntmps11
  go_wp2_with fail
  rw [← HW.out]
  refine (tCommit W g S M HT.out n hn (by omega)).mono ?_
  rintro e w1 ⟨rfl, ht⟩
  have HS1 := Lib.hid (HS.out.turned HT.out HBW.out ht)
  clear ht z0 z1 o0 o1 o2 p0 p1 f0 f1
  have hsz := HS1.out.size
  obtain ⟨z0, z1, o0, o1, o2, p0, p1, f0, f1⟩ := HS1.out.cells
  change _ = some (Value.int .i64 3) at o0
  change _ = some (Value.int .i64 n) at o1
  change _ = some (Value.slice rA rn rc) at o2
  have hcall := rCommit_any w1 _ xs M' HS1.out.rt n
  unfold rtV at hcall
  go_wp2_with fail
  refine hcall.mono ?_
  rintro e w2 ⟨v', xs', rfl, hR2, hb2⟩
  obtain ⟨A2, c2, hv2, -, -, -, -⟩ := hR2.row.rk.open_
  subst hv2
  have HS2 := Lib.hid (HS1.out.below hb2)
  have HR2 := Lib.hid hR2
  have HP : Hid (M' = M → M.commitT n = M'.commitT n ∧ M.tryE n = M'.tryE n) := Lib.hid (fun e => by rw [e]; exact ⟨rfl, rfl⟩)
  obtain ⟨l2, hl2⟩ : ∃ l2, l2 = (M'.commit n).last := ⟨_, rfl⟩
  obtain ⟨a0, ha0⟩ : ∃ x, x = M.commitT n := ⟨_, rfl⟩
  obtain ⟨b0, hb0⟩ : ∃ x, x = M'.commitT n := ⟨_, rfl⟩
  obtain ⟨a1, ha1⟩ : ∃ x, x = M.tryE n := ⟨_, rfl⟩
  obtain ⟨b1, hb1⟩ : ∃ x, x = M'.tryE n := ⟨_, rfl⟩
  rw [← ha0, ← hb0, ← ha1, ← hb1] at HP
  rw [← ha0, ← hb0, ← ha1, ← hb1, ← hl2]
  have HL2 := Lib.hid hl2
  clear hb2 hR2 hcall ha0 hb0 ha1 hb1 hl2 hsz z0 z1 o0 o1 o2 p0 p1 f0 f1
  have hsz := HS2.out.size
  obtain ⟨z0, z1, o0, o1, o2, p0, p1, f0, f1⟩ := HS2.out.cells
  change _ = some (Value.int .i64 3) at o0
  change _ = some (Value.int .i64 n) at o1
  change _ = some (Value.slice rA rn rc) at o2
  unfold rtV
  by_cases hab : a0 = b0
  · have hab2 : (a0 == b0) = true := by simpa using hab
    go_wp2_with fail
    rw [show w.heap.size + 1 + 1 = w.heap.size + 2 from rfl]
    obtain ⟨tE0, kE0⟩ := HS2.out.fin (.slice A2 xs'.length c2) (.int .i64 l2)
    have rE0 := HR2.out.setRes HS2.out.k3 (.slice A2 xs'.length c2) (.int .i64 l2)
    have tE := tE0.below ((Below.refl _ _).alloc (Nat.le_refl _) (.cells #[.slice A2 xs'.length c2, .int .i64 l2] 28))
    have rE := rE0.below ((Below.refl _ _).alloc (Nat.le_refl _) (.cells #[.slice A2 xs'.length c2, .int .i64 l2] 28))
    have kE := kE0.alloc (.cells #[.slice A2 xs'.length c2, .int .i64 l2] 28)
    clear tE0 rE0 kE0
    generalize ((w2.setCell ⟨w.heap.size + 2, 0, none⟩ (.slice A2 xs'.length c2)).setCell ⟨w.heap.size + 2, 1, none⟩ (.int .i64 l2)).alloc (.cells #[.slice A2 xs'.length c2, .int .i64 l2] 28) = WE at *
    have r0 : WE.cell? ⟨w.heap.size + 2, 0, none⟩ = some (.slice A2 xs'.length c2) := kE.cell 0
    have r1 : WE.cell? ⟨w.heap.size + 2, 1, none⟩ = some (.int .i64 l2) := kE.cell 1
    refine bodyPost_ret (v := .tuple #[.agg #[.slice A2 xs'.length c2, .int .i64 l2], .bool (a1 == b1)]) (by simp [results, Try.results11, go_sem, r0, r1]) rfl ?_
    exact ⟨_, _, _, by rw [← HL2.out]; rfl, rE, tE, fun e => by rw [(HP.out e).2]; simp⟩
  · have hab2 : (a0 == b0) = false := by simpa using hab
    go_wp2_with fail
    rw [show w.heap.size + 1 + 1 = w.heap.size + 2 from rfl]
    obtain ⟨tE0, kE0⟩ := HS2.out.fin (.slice A2 xs'.length c2) (.int .i64 l2)
    have rE0 := HR2.out.setRes HS2.out.k3 (.slice A2 xs'.length c2) (.int .i64 l2)
    have tE := tE0.below ((Below.refl _ _).alloc (Nat.le_refl _) (.cells #[.slice A2 xs'.length c2, .int .i64 l2] 28))
    have rE := rE0.below ((Below.refl _ _).alloc (Nat.le_refl _) (.cells #[.slice A2 xs'.length c2, .int .i64 l2] 28))
    have kE := kE0.alloc (.cells #[.slice A2 xs'.length c2, .int .i64 l2] 28)
    clear tE0 rE0 kE0
    generalize ((w2.setCell ⟨w.heap.size + 2, 0, none⟩ (.slice A2 xs'.length c2)).setCell ⟨w.heap.size + 2, 1, none⟩ (.int .i64 l2)).alloc (.cells #[.slice A2 xs'.length c2, .int .i64 l2] 28) = WE at *
    have r0 : WE.cell? ⟨w.heap.size + 2, 0, none⟩ = some (.slice A2 xs'.length c2) := kE.cell 0
    have r1 : WE.cell? ⟨w.heap.size + 2, 1, none⟩ = some (.int .i64 l2) := kE.cell 1
    refine bodyPost_ret (v := .tuple #[.agg #[.slice A2 xs'.length c2, .int .i64 l2], .bool (false)]) (by simp [results, Try.results11, go_sem, r0, r1]) rfl ?_
    exact ⟨_, _, _, by rw [← HL2.out]; rfl, rE, tE, fun e => absurd (HP.out e).1 hab⟩

end Go.Proofs.Ytgahkloldpjnkaa
