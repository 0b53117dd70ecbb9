/-
  The walk of MvccStarts.
-/
import Derived.Test.YtgahkloldpjnkaaMV17
import Derived.Deep.CutRange
import Derived.Deep.CutBlock
import Derived.Deep.DeepCutAuto
namespace Go.Proofs.Ytgahkloldpjnkaa
open Go.RowKit Go.Maps
set_option linter.unusedVariables false

def MV.starts (M : MV) : List Int := M.txns.map (·.start)

def MV.overs (M : MV) : List Bool := M.txns.map fun x => !x.live

def MV.numsTo (M : MV) (k : Nat) : List Int := ((List.range k).filter fun i : Nat => (M.live? ((i : Int) + 1)).isSome).map fun i : Nat => (i : Int) + 1

theorem numsTo_all (M : MV) : M.numsTo M.txns.length = M.nums := rfl

theorem numsTo_succ (M : MV) (k : Nat) : M.numsTo (k + 1) = if (M.live? ((k : Int) + 1)).isSome = true then M.numsTo k ++ [(k : Int) + 1] else M.numsTo k := by
  unfold MV.numsTo
  rw [List.range_succ, List.filter_append, List.map_append]
  by_cases h : (M.live? ((k : Int) + 1)).isSome = true
  · rw [if_pos h, List.filter_cons_of_pos (by exact h)]; rfl
  · rw [if_neg h, List.filter_cons_of_neg (by exact h)]; simp

theorem numsTo_len (M : MV) (k : Nat) : (M.numsTo k).length ≤ k := by
  unfold MV.numsTo
  rw [List.length_map]
  exact Nat.le_trans (List.length_filter_le _ _) (by simp)

theorem over_at_ {M : MV} {i : Nat} (h : i < M.txns.length) : M.overs[i]? = some (!(M.live? ((i : Int) + 1)).isSome) := by
  unfold MV.overs MV.live?
  rw [List.getElem?_map, List.getElem?_eq_getElem h, if_pos (by omega), show ((i : Int) + 1 - 1).toNat = i by omega, List.getElem?_eq_getElem h]
  cases hl : (M.txns[i]).live <;> simp [Option.filter, hl]

theorem start_at_ {M : MV} {i : Nat} (h : i < M.txns.length) (hl : (M.live? ((i : Int) + 1)).isSome = true) : M.starts[i]? = some (M.startOf ((i : Int) + 1)) := by
  obtain ⟨x, hx⟩ := Option.isSome_iff_exists.1 hl
  have h1 := (live_iff.1 hx).2.1
  rw [show ((i : Int) + 1 - 1).toNat = i by omega] at h1
  unfold MV.starts MV.startOf
  rw [hx, List.getElem?_map, h1]; rfl

theorem starts_begin (M : MV) : M.begin.starts = if M.nums.length < 8 then M.starts ++ [M.last] else M.starts := by
  unfold MV.begin
  split
  · simp [MV.starts, MV.add]
  · rfl

theorem overs_begin (M : MV) : M.begin.overs = if M.nums.length < 8 then M.overs ++ [false] else M.overs := by
  unfold MV.begin
  split
  · simp [MV.overs, MV.add]
  · rfl

theorem map_set_same {α β : Type} (f : α → β) (l : List α) (i : Nat) (x y : α) (h : l[i]? = some x) (hf : f y = f x) : (l.set i y).map f = l.map f := by
  rw [List.map_set, hf]
  apply List.ext_getElem?
  intro j
  by_cases hj : j = i
  · subst hj
    have := (List.getElem?_eq_some_iff.1 h).1
    rw [List.getElem?_set_self (by simpa using this), List.getElem?_map, h]; rfl
  · rw [List.getElem?_set_ne (Ne.symm hj)]

theorem starts_put {M : MV} {n : Int} {x y : Tx} (hl : M.live? n = some x) (hs : y.start = x.start) : (M.txns.set (n - 1).toNat y).map (·.start) = M.starts := map_set_same _ _ _ x y (live_iff.1 hl).2.1 hs

theorem starts_touch (M : MV) (n : Int) (rs : List Rf) : (M.touch n rs).starts = M.starts := by
  unfold MV.touch
  split
  · rfl
  · rename_i x hx; exact starts_put (y := { x with refs := x.refs ++ rs }) hx rfl

theorem overs_touch (M : MV) (n : Int) (rs : List Rf) : (M.touch n rs).overs = M.overs := by
  unfold MV.touch
  split
  · rfl
  · rename_i x hx
    exact map_set_same (fun x : Tx => !x.live) _ _ x { x with refs := x.refs ++ rs } (live_iff.1 hx).2.1 rfl

theorem starts_over (M : MV) (n : Int) : (M.over n).starts = M.starts := by
  unfold MV.over
  split
  · rfl
  · rename_i x hx; exact starts_put (y := { x with live := false }) hx rfl

theorem overs_over {M : MV} {n : Int} {x : Tx} (hl : M.live? n = some x) : (M.over n).overs = M.overs.set (n - 1).toNat true := by
  rw [over_eq hl]
  unfold MV.overs MV.put
  rw [List.map_set]; rfl

theorem starts_commit (M : MV) (n : Int) : (M.commit n).starts = M.starts := by
  unfold MV.commit
  split
  · rename_i hc
    cases hl : M.live? n with
    | none => unfold MV.refsOf at hc; rw [hl] at hc; exact absurd rfl hc.2
    | some x => rw [over_win hl]; exact starts_put (y := { x with at_ := M.last + 1, live := false }) hl rfl
  · exact starts_over M n

theorem overs_commit {M : MV} {n : Int} {x : Tx} (hl : M.live? n = some x) : (M.commit n).overs = M.overs.set (n - 1).toNat true := by
  unfold MV.commit
  split
  · rw [over_win hl]
    unfold MV.overs
    dsimp only
    rw [List.map_set]; rfl
  · exact overs_over hl

theorem commit_none {M : MV} {n : Int} (hl : M.live? n = none) : M.commit n = M := by
  unfold MV.commit MV.over MV.refsOf
  rw [hl]
  simp

theorem over_none {M : MV} {n : Int} (hl : M.live? n = none) : M.over n = M := by unfold MV.over; rw [hl]

/-- What the law keeps of its lists. -/
structure StAt (B : Nat) (w : World) (g : Nat) (sv ov : Value) (M : MV) : Prop where
  tb : TbB B w g M
  starts : OK encI 1 2 w B sv M.starts
  overs : OK encB 1 4 w B ov M.overs

theorem oneI (w : World) (y : Int) (t : TypeId) : ∀ (j : Nat) u, (encI y)[j]? = some u → (w.alloc (.cells #[.int .i64 y] t)).cell? ⟨w.heap.size, j, none⟩ = some u := by
  intro j u hu; rw [(Blk.new w _ _).cell j]; simpa [encI] using hu

theorem oneB (w : World) (y : Bool) (t : TypeId) : ∀ (j : Nat) u, (encB y)[j]? = some u → (w.alloc (.cells #[.bool y] t)).cell? ⟨w.heap.size, j, none⟩ = some u := by
  intro j u hu; rw [(Blk.new w _ _).cell j]; simpa [encB] using hu

theorem base1 {w wd : World} (hz : w.heap.size ≤ wd.heap.size) (o : Obj) : w.heap.size ≤ (wd.alloc o).heap.size := by simp; omega

theorem base2 {w wd w6 : World} {o : Obj} {row : Option Nat} (h : (wd.alloc o).grownBy w6 row) (hz : w.heap.size ≤ wd.heap.size) (o2 : Obj) : w.heap.size ≤ (w6.alloc o2).heap.size := by
  have := h.size
  simp at this ⊢
  omega

/-- A row of another type stays while one is grown. -/
theorem OK.beside {α β : Type} {enc : α → List Value} {enc' : β → List Value} {k k' E E' : Nat} {w w' : World} {B B' : Nat} {v v' : Value} {xs : List α} {ys : List β} {o : Obj} (h : OK enc k E w B v xs) (h' : OK enc' k' E' w B' v' ys) (hne : E ≠ E') (hg : (w.alloc o).grownBy w' v'.ownBlock) : OK enc k E w' B v xs :=
  (h.alloc o).kept hg (rows_ne (h.alloc o) (h'.alloc o) hne)

theorem TbB.beside {β : Type} {enc' : β → List Value} {k' E' : Nat} {B : Nat} {w w' : World} {g : Nat} {M : MV} {B' : Nat} {v' : Value} {ys : List β} {o : Obj} (h : TbB B w g M) (h' : OK enc' k' E' w B' v' ys) (hne : E' ≠ 60) (hg : (w.alloc o).grownBy w' v'.ownBlock) : TbB B w' g M := by
  refine (h.alloc o).grown hg fun b hb _ => ?_
  rcases (h'.alloc o).2.2 with ⟨e, _⟩ | ⟨g', cap, cur, e, _, hh, _⟩
  · rw [e] at hb; cases hb
  · rw [e] at hb
    simp only [Value.ownBlock] at hb
    injection hb with hb
    subst hb
    exact ⟨_, _, _, hh, hne⟩

theorem below_beside {α : Type} {enc : α → List Value} {k E : Nat} {w0 w w' : World} {v : Value} {xs : List α} {o : Obj} (hb : Below w0.heap.size w0 w) (h : OK enc k E w w0.heap.size v xs) (hg : (w.alloc o).grownBy w' v.ownBlock) : Below w0.heap.size w0 w' :=
  (hb.alloc hb.size o).grown hg (by have := hb.size; simp; omega) fun k hk => ((h.alloc o).lt k hk).1

/-- One answer of a row of yes or no, and how it is written. -/
theorem OK.cellB {w : World} {B n c j : Nat} {A : Option Addr} {xs : List Bool} (h : OK encB 1 4 w B (.slice A n c) xs) (hj : j < xs.length) : ∃ b, A = some ⟨b, 0, none⟩ ∧ B ≤ b ∧ w.cell? ⟨b, j, none⟩ = some (.bool xs[j]) ∧ w.frozen? ⟨b, j, none⟩ = false ∧
    OK encB 1 4 (w.setCell ⟨b, j, none⟩ (.bool true)) B (.slice A n c) (xs.set j true) := by
  obtain ⟨b, rfl, hs⟩ := h.setB hj true
  refine ⟨b, rfl, (h.lt b rfl).1, ?_, h.unfrozen j, hs⟩
  obtain ⟨A', c', e, _, _, _, HC⟩ := (h.rk encB_len (Nat.le_refl _)).open_
  injection e with e1 e2 e3
  subst e1
  obtain ⟨b', o', e', _, hx⟩ := HC.out j hj
  injection e' with e'
  injection e' with e4 e5
  subst e4 e5
  have := hx 0 _ rfl
  simpa using this

theorem TbB.setRow {β : Type} {enc' : β → List Value} {k' E' : Nat} {B : Nat} {w : World} {g : Nat} {M : MV} {B' b n c : Nat} {ys : List β} (h : TbB B w g M) (h' : OK enc' k' E' w B' (.slice (some ⟨b, 0, none⟩) n c) ys) (hne : E' ≠ 60) (j : Nat) (u : Value) : TbB B (w.setCell ⟨b, j, none⟩ u) g M := by
  obtain ⟨S, h1, h2⟩ := h
  refine ⟨S, h1.mod ((Mod.refl (fun k => k = b) w).setCell (p := ⟨b, j, none⟩) (fun _ => rfl) u) (fun k hk e => ?_), h2⟩
  subst e
  rcases h'.2.2 with ⟨e, _⟩ | ⟨g', cap, cur, e, _, hh, _⟩
  · cases e
  · injection e with e
    injection e with e
    injection e with e
    subst e
    exact h1.not_row hh hne hk

theorem OK.setOther {α β : Type} {enc : α → List Value} {enc' : β → List Value} {k k' E E' : Nat} {w : World} {B B' b n c : Nat} {v : Value} {xs : List α} {ys : List β} (h : OK enc k E w B v xs) (h' : OK enc' k' E' w B' (.slice (some ⟨b, 0, none⟩) n c) ys) (hne : E ≠ E') (j : Nat) (u : Value) : OK enc k E (w.setCell ⟨b, j, none⟩ u) B v xs := by
  refine ⟨h.1, ownsRow_setCell_other h.2 ?_ u⟩
  rcases rows_ne h h' hne with e | e
  · rw [e]; exact fun h => nomatch h
  · exact e

theorem mem_sum {α : Type} (f : α → Nat) : ∀ (l : List α) (x : α), x ∈ l → f x ≤ (l.map f).sum
  | [], _, h => nomatch h
  | a :: r, x, h => by
    rw [List.map_cons, List.sum_cons]
    rcases List.mem_cons.1 h with rfl | h
    · omega
    · have := mem_sum f r x h; omega

theorem touchE_live {M : MV} {n : Int} {x : Tx} (h : M.live? n = some x) : M.touchE n = 0 := by unfold MV.touchE; rw [h]; rfl

theorem touchE_none {M : MV} {n : Int} (h : M.live? n = none) : M.touchE n = 141 := by unfold MV.touchE; rw [h]; rfl

theorem tryE_none {M : MV} {n : Int} (h : M.live? n = none) : M.tryE n = 141 := by unfold MV.tryE; rw [h]

theorem tryE_live {M : MV} {n : Int} {x : Tx} (h : M.live? n = some x) : (M.tryE n == 141) = false := by rcases try_cases h with e | e | e <;> rw [e] <;> rfl

theorem run_1 (M : MV) (n : Int) (A : Option Addr) (a c : Nat) (rs : List Rf) : M.run ⟨1, n, A, a, c, rs⟩ = M.begin := rfl

theorem run_2 (M : MV) (n : Int) (A : Option Addr) (a c : Nat) (rs : List Rf) : M.run ⟨2, n, A, a, c, rs⟩ = M.touch n rs := rfl

theorem run_3 (M : MV) (n : Int) (A : Option Addr) (a c : Nat) (rs : List Rf) : M.run ⟨3, n, A, a, c, rs⟩ = M.commit n := rfl

theorem run_4 (M : MV) (n : Int) (A : Option Addr) (a c : Nat) (rs : List Rf) : M.run ⟨4, n, A, a, c, rs⟩ = M.over n := rfl

theorem run_0 (M : MV) {kd : Int} (n : Int) (A : Option Addr) (a c : Nat) (rs : List Rf) (h1 : ¬ kd = 1) (h2 : ¬ kd = 2) (h3 : ¬ kd = 3) (h4 : ¬ kd = 4) : M.run ⟨kd, n, A, a, c, rs⟩ = M := by
  unfold MV.run
  rw [if_neg h1, if_neg h2, if_neg h3, if_neg h4]

set_option maxRecDepth 100000 in
set_option maxHeartbeats 2000000 in
theorem mvccStarts_walk (last : Int) (v : Value) (os : List OpM) (w : World) (hl : I64 last) (hs : ScrAt w v os) :
    Calls Try.prog 6 #[.int .i64 last, v] w fun e w' => e = .returned (.bool true) ∧ Below w.heap.size w w' := by
  obtain ⟨A, c, rfl, hc1, hc2, hc3, HC⟩ := hs.rk.open_
  have hlen := hs.len
  have HS := Lib.hid hs
  have HL := Lib.hid hl
  clear hs hl
  go_enter Try.func6, Try.ntmps6
  go_wp2_with fail
  refine (bNew w.heap.size w (Nat.le_refl _) last HL.out).mono ?_
  rintro e w1 ⟨rfl, h1, t1⟩
  obtain ⟨g, hg⟩ : ∃ g, g = w.heap.size + 2 := ⟨_, rfl⟩
  rw [← hg] at h1 ⊢
  have H1 := Lib.hid h1
  have T1 := Lib.hid t1
  clear h1 t1 hg
  go_wp2_with fail
  refine (alive_any w1).mono ?_
  rintro e w2 ⟨rfl, hb2⟩
  have H2 := Lib.hid (H1.out.below hb2)
  have T2 := Lib.hid (T1.out.trans (Tame.of_below hb2 T1.out.below.size))
  clear hb2
  go_wp2_with fail
  have h3 : StAt w.heap.size ((w2.alloc (.cells #[] 2)).alloc (.cells #[] 4)) g (.slice (some ⟨w2.heap.size, 0, none⟩) 0 0) (.slice (some ⟨w2.heap.size + 1, 0, none⟩) 0 0) (MV.new last) := by
    have e0 : (w2.alloc (.cells #[] 2)).heap.size = w2.heap.size + 1 := by simp
    have z2 := T2.out.size
    refine ⟨(H2.out.alloc _).alloc _, OK.alloc ⟨by simp [MV.starts, MV.new], ?_⟩ _, ⟨by simp [MV.overs, MV.new], ?_⟩⟩
    · exact World.ownsRow_made w2 #[] 0 z2 (by simp) (by simp)
    · have := World.ownsRow_made (e := 4) (size := 1) (w2.alloc (.cells #[] 2)) #[] 0 (base := w.heap.size) (by omega) (by simp) (by simp)
      rw [e0] at this
      exact this
  have H3 := Lib.hid h3
  have T3 : Hid (Below w.heap.size w ((w2.alloc (.cells #[] 2)).alloc (.cells #[] 4))) := Lib.hid ((T2.out.alloc (Nat.le_refl _) _).alloc (Nat.le_refl _) _).below
  clear h3
  go_loopw [6, 7, 32] (fun s o i wr => ∃ (k : Nat) (sA : Option Addr) (sn sc : Nat) (oA : Option Addr) (on oc : Nat), k ≤ os.length ∧ i = .int .i64 k ∧ s = .slice sA sn sc ∧ o = .slice oA on oc ∧ Hid (StAt w.heap.size wr g (.slice sA sn sc) (.slice oA on oc) ((MV.new last).runs (os.take k))) ∧ Hid (Below w.heap.size w wr)) (fun _ _ i _ => os.length - (intOf i).toNat)
  case atStart => exact ⟨0, _, _, _, _, _, _, Nat.zero_le _, rfl, rfl, rfl, H3, T3⟩
  case round =>
    obtain ⟨k, sA, sn, sc, oA, on, oc, hk, rfl, rfl, rfl, HST, HT⟩ := hrel
    by_cases hkl : k < os.length
    · obtain ⟨b1, o1, rfl, hb, hx⟩ := HC.out k hkl
      obtain ⟨hx1, hx2, hx3⟩ := cellOM hx
      have y1 : wr.cell? ⟨b1, o1 + k * 3, none⟩ = _ := (HT.out.cell (p := ⟨b1, o1 + k * 3, none⟩) hb).trans hx1
      have y2 : wr.cell? ⟨b1, o1 + k * 3 + 1, none⟩ = _ := (HT.out.cell (p := ⟨b1, o1 + k * 3 + 1, none⟩) hb).trans hx2
      have y3 : wr.cell? ⟨b1, o1 + k * 3 + 2, none⟩ = _ := (HT.out.cell (p := ⟨b1, o1 + k * 3 + 2, none⟩) hb).trans hx3
      have HOP := Lib.hid (HS.out.at_ os[k] (List.getElem_mem hkl))
      have HTK := Lib.hid (List.take_succ_eq_append_getElem hkl)
      have HSM := Lib.hid (runs_small (last := last) HS.out k)
      have HRL := Lib.hid (Nat.le_trans (mem_sum (fun x : OpM => x.refs.length) os os[k] (List.getElem_mem hkl)) HS.out.sum)
      clear hx hx1 hx2 hx3
      obtain ⟨x, hx⟩ : ∃ x, x = os[k] := ⟨_, rfl⟩
      rw [← hx] at y1 y2 y3 HOP HTK HRL
      clear hx
      obtain ⟨M, hM⟩ : ∃ M, M = (MV.new last).runs (os.take k) := ⟨_, rfl⟩
      rw [← hM] at HST HSM
      have HM := Lib.hid hM
      clear hM
      obtain ⟨kd, n, rA, rn, rc, refs⟩ := x
      dsimp only at y1 y2 y3
      have hn64 : I64 n := HOP.out.n64
      have HN64 := Lib.hid hn64
      clear hn64
      obtain ⟨W, hW⟩ : ∃ W, W = wr.alloc (.cells #[.int .i64 kd, .int .i64 n, .slice rA rn rc] 32) := ⟨_, rfl⟩
      have hbx : Blk W wr.heap.size 32 #[.int .i64 kd, .int .i64 n, .slice rA rn rc] := by rw [hW]; exact Blk.new _ _ _
      have hstW : StAt w.heap.size W g (.slice sA sn sc) (.slice oA on oc) M := by rw [hW]; exact ⟨HST.out.tb.alloc _, HST.out.starts.alloc _, HST.out.overs.alloc _⟩
      have htW : Below w.heap.size w W := by rw [hW]; exact HT.out.alloc HT.out.size _
      have z0 : W.cell? ⟨wr.heap.size, 0, none⟩ = some (.int .i64 kd) := hbx.cell 0
      have z1 : W.cell? ⟨wr.heap.size, 1, none⟩ = some (.int .i64 n) := hbx.cell 1
      have z2 : W.cell? ⟨wr.heap.size, 2, none⟩ = some (.slice rA rn rc) := hbx.cell 2
      have HBX := Lib.hid hbx
      have HSTW := Lib.hid hstW
      have HTW := Lib.hid htW
      have HW := Lib.hid hW
      clear hbx hstW htW hW HST HT
      go_upto_region 10 with (go_at_call 13; rw [← HW.out]; refine (bLast w.heap.size W g M HSTW.out.tb).mono ?_; rintro e w' ⟨rfl, rfl⟩)
      go_cut [11, 32] from 32 to 168 (fun b i wx => b = .bool (M.live? n).isSome ∧ i = .int .i64 (k : Int) ∧ wx = w')
      case first =>
        obtain ⟨oA', oc', eO, ho1, ho2, ho3, HCO⟩ := (HSTW.out.overs.rk encB_len (Nat.le_refl _)).open_
        injection eO with eA eN eC
        have hol : M.overs.length = M.txns.length := by simp [MV.overs]
        have hsm := HSM.out.1
        by_cases hn1 : 1 ≤ n
        · by_cases hn2 : n ≤ (on : Int)
          · obtain ⟨j, rfl⟩ : ∃ j : Nat, n = (j : Int) + 1 := ⟨(n - 1).toNat, by omega⟩
            have hj : j < M.txns.length := by omega
            obtain ⟨b2, o2, e2, hb2, hx2⟩ := HCO.out j (by omega)
            rw [← eA] at e2
            subst e2
            have hov := over_at_ hj
            have hovj : M.overs[j]'(by omega) = !(M.live? ((j : Int) + 1)).isSome := by rw [List.getElem?_eq_getElem (by omega)] at hov; exact Option.some.inj hov
            have u1 : w'.cell? ⟨b2, o2 + j, none⟩ = some (.bool (!(M.live? ((j : Int) + 1)).isSome)) := by
              have := hx2 0 _ rfl
              rw [hovj] at this
              simpa using this
            obtain ⟨bb, hbb⟩ : ∃ bb, bb = (M.live? ((j : Int) + 1)).isSome := ⟨_, rfl⟩
            rw [← hbb] at u1
            have HBB := Lib.hid hbb
            have hjo : j < on := by omega
            have hj3 : (j : Int) ≤ 300000 := by omega
            clear hbb hovj hov hx2 HCO hol eN eC eA ho1 ho2 ho3 hj
            cases bb
            · go_wp2
              go_meet
              case rel => exact ⟨by rw [← HBB.out], rfl, rfl⟩
            · go_wp2
              go_meet
              case rel => exact ⟨by rw [← HBB.out], rfl, rfl⟩
          · have hnone : (M.live? n).isSome = false := by
              cases hl : M.live? n with
              | none => rfl
              | some x => have := live_lt hl; omega
            have HNO := Lib.hid hnone
            clear HCO eN eC eA ho1 ho2 ho3 hnone
            go_wp2
            go_meet
            case rel => exact ⟨by rw [HNO.out], rfl, rfl⟩
        · have hnone : (M.live? n).isSome = false := by
            cases hl : M.live? n with
            | none => rfl
            | some x => have := live_lt hl; omega
          have HNO := Lib.hid hnone
          clear HCO eN eC eA ho1 ho2 ho3 hnone
          go_wp2
          go_meet
          case rel => exact ⟨by rw [HNO.out], rfl, rfl⟩
      case rest =>
        obtain ⟨rfl, rfl, rfl⟩ := hcut
        go_upto_block 2 with fail
        go_cut [6, 7, 11, 32] from 32 to 168 (fun s o _ i wx => ∃ (sA' : Option Addr) (sn' sc' : Nat) (oA' : Option Addr) (on' oc' : Nat), s = .slice sA' sn' sc' ∧ o = .slice oA' on' oc' ∧ i = .int .i64 (k : Int) ∧ Hid (StAt w.heap.size wx g (.slice sA' sn' sc') (.slice oA' on' oc') (M.run ⟨kd, n, rA, rn, rc, refs⟩)) ∧ Hid (Below w.heap.size w wx))
        case first =>
          have hst := HSTW.out
          have hol : on = M.txns.length := by
            obtain ⟨_, _, e, _⟩ := (hst.overs.rk encB_len (Nat.le_refl _)).open_
            injection e with e1 e2 e3
            rw [e2]; simp [MV.overs]
          have hsl : sn = M.txns.length := by
            obtain ⟨_, _, e, _⟩ := (hst.starts.rk encI_len (Nat.le_refl _)).open_
            injection e with e1 e2 e3
            rw [e2]; simp [MV.starts]
          have hsm := HSM.out
          have HOL := Lib.hid hol
          have HSL := Lib.hid hsl
          have hwz := HTW.out.size
          clear hol hsl
          by_cases h1 : kd = 1
          · subst h1
            have hrun : M.run ⟨1, n, rA, rn, rc, refs⟩ = M.begin := rfl
            have HRUN := Lib.hid hrun
            clear hrun hst
            go_wp2_with fail
            refine (bBegin w.heap.size wc g M HSTW.out.tb hwz (by omega)).mono ?_
            rintro e wd ⟨rfl, h5, t5⟩
            have H5 := Lib.hid h5
            have S5 := Lib.hid (t5.row (by decide) HSTW.out.starts)
            have O5 := Lib.hid (t5.row (by decide) HSTW.out.overs)
            have B5 := Lib.hid (HTW.out.trans t5.below)
            clear h5 t5
            by_cases hf : M.nums.length < 8
            · have e1 : M.beginN = (M.txns.length : Int) + 1 := by unfold MV.beginN; rw [if_pos hf]
              have e2 : M.beginE = 0 := by unfold MV.beginE; rw [if_pos hf]
              have HSB : Hid (M.begin.starts = M.starts ++ [M.last]) := Lib.hid (by rw [starts_begin, if_pos hf])
              have HOB : Hid (M.begin.overs = M.overs ++ [false]) := Lib.hid (by rw [overs_begin, if_pos hf])
              rw [e1, e2]
              clear e1 e2 hf
              have hwd := B5.out.size
              have HLS : Hid (M.starts.length + 1 ≤ 1000000) := Lib.hid (by simp only [MV.starts, List.length_map]; omega)
              have HLO : Hid (M.overs.length + 1 ≤ 1000000) := Lib.hid (by simp only [MV.overs, List.length_map]; omega)
              have HL7 : Hid ((M.overs ++ [false]).length = M.txns.length + 1) := Lib.hid (by simp [MV.overs])
              go_wp2_with (first
                | (at_builtin; refine wpList_appE etI64 encI_len encI_one (y := M.last) rfl (.tmp 68) (.tmp 70) rfl rfl (S5.out.alloc _) wd.heap.size rfl (oneI wd _ _) HLS.out (base1 hwd _) ?_; intro v6 w6 k1 k2 k3; obtain ⟨A6, c6, rfl, -, -, -, -⟩ := (k1.rk encI_len (Nat.le_refl _)).open_; have K1 := Lib.hid k1; have K2 := Lib.hid k2; clear k1 k2 k3)
                | (at_builtin; refine wpList_appE etBool encB_len encB_one (y := false) rfl (.tmp 72) (.tmp 73) rfl rfl ((O5.out.beside S5.out (show (4 : Nat) ≠ 2 from fun h => nomatch h) K2.out).alloc _) w6.heap.size rfl (oneB w6 _ _) HLO.out (base2 K2.out hwd _) ?_; intro v7 w7 k1 k2 k3; obtain ⟨A7, c7, rfl, -, -, -, -⟩ := (k1.rk encB_len (Nat.le_refl _)).open_; rw [HL7.out]; have L1 := Lib.hid k1; have L2 := Lib.hid k2; clear k1 k2 k3))
              go_meet
              case rel =>
                have o6 := O5.out.beside S5.out (show (4 : Nat) ≠ 2 from fun h => nomatch h) K2.out
                have l1 := L1.out
                rw [HL7.out] at l1
                refine ⟨_, _, _, _, _, _, rfl, rfl, rfl, Lib.hid ⟨?_, ?_, ?_⟩, Lib.hid (below_beside (below_beside B5.out S5.out K2.out) o6 L2.out)⟩
                · rw [HRUN.out]
                  exact (H5.out.beside S5.out (by decide) K2.out).beside o6 (by decide) L2.out
                · rw [HRUN.out, HSB.out]
                  have k1 := K1.out.beside o6 (by decide) L2.out
                  rw [show (M.starts ++ [M.last]).length = M.starts.length + 1 by simp] at k1
                  exact k1
                · rw [HRUN.out, HOB.out]
                  exact l1
            · have e1 : M.beginN = 0 := by unfold MV.beginN; rw [if_neg hf]
              have e2 : M.beginE = 142 := by unfold MV.beginE; rw [if_neg hf]
              have HSB : Hid (M.begin.starts = M.starts) := Lib.hid (by rw [starts_begin, if_neg hf])
              have HOB : Hid (M.begin.overs = M.overs) := Lib.hid (by rw [overs_begin, if_neg hf])
              rw [e1, e2]
              clear e1 e2 hf
              go_wp2_with fail
              go_meet
              case rel =>
                refine ⟨_, _, _, _, _, _, rfl, rfl, rfl, Lib.hid ⟨?_, ?_, ?_⟩, B5⟩
                · rw [HRUN.out]; exact H5.out
                · rw [HRUN.out, HSB.out]; exact S5.out
                · rw [HRUN.out, HOB.out]; exact O5.out
          · have g1 : (kd == 1) = false := by simpa using h1
            by_cases h2 : kd = 2
            · subst h2
              have hrr : RR wc wc.heap.size (.slice rA rn rc) refs := (HOP.out.refs.below HTW.out).more HTW.out.size
              have hbk : refs.length ≤ 400000 := HRL.out
              have hc := bTouch w.heap.size wc g M HSTW.out.tb hwz n HN64.out (.slice rA rn rc) refs hrr HOP.out.r64 (by omega)
              have hrun : M.run ⟨2, n, rA, rn, rc, refs⟩ = M.touch n refs := rfl
              have HRUN := Lib.hid hrun
              clear hrun hst hrr
              cases hl : M.live? n with
              | none =>
                rw [touchE_none hl] at hc
                simp only [Option.isSome_none]
                clear hl
                go_wp2_with fail
                refine hc.mono ?_
                rintro e wd ⟨rfl, h5, t5⟩
                have H5 := Lib.hid h5
                have S5 := Lib.hid (t5.row (by decide) HSTW.out.starts)
                have O5 := Lib.hid (t5.row (by decide) HSTW.out.overs)
                have B5 := Lib.hid (HTW.out.trans t5.below)
                clear h5 t5 hc
                go_wp2_with fail
                go_meet
                case rel =>
                  refine ⟨_, _, _, _, _, _, rfl, rfl, rfl, Lib.hid ⟨?_, ?_, ?_⟩, B5⟩
                  · rw [HRUN.out]; exact H5.out
                  · rw [HRUN.out, starts_touch]; exact S5.out
                  · rw [HRUN.out, overs_touch]; exact O5.out
              | some x =>
                rw [touchE_live hl] at hc
                simp only [Option.isSome_some]
                clear hl
                go_wp2_with fail
                refine hc.mono ?_
                rintro e wd ⟨rfl, h5, t5⟩
                have H5 := Lib.hid h5
                have S5 := Lib.hid (t5.row (by decide) HSTW.out.starts)
                have O5 := Lib.hid (t5.row (by decide) HSTW.out.overs)
                have B5 := Lib.hid (HTW.out.trans t5.below)
                clear h5 t5 hc
                go_wp2_with fail
                go_meet
                case rel =>
                  refine ⟨_, _, _, _, _, _, rfl, rfl, rfl, Lib.hid ⟨?_, ?_, ?_⟩, B5⟩
                  · rw [HRUN.out]; exact H5.out
                  · rw [HRUN.out, starts_touch]; exact S5.out
                  · rw [HRUN.out, overs_touch]; exact O5.out
            · have g2 : (kd == 2) = false := by simpa using h2
              by_cases h3 : kd = 3
              · subst h3
                have hc := bCommit w.heap.size wc g M HSTW.out.tb hwz n HN64.out (by omega)
                have HRUN : Hid (M.run ⟨3, n, rA, rn, rc, refs⟩ = M.commit n) := Lib.hid rfl
                clear hst
                cases hl : M.live? n with
                | none =>
                  rw [tryE_none hl] at hc
                  simp only [Option.isSome_none]
                  have HLN := Lib.hid hl
                  clear hl
                  go_wp2_with fail
                  refine hc.mono ?_
                  rintro e wd ⟨rfl, h5, t5⟩
                  have H5 := Lib.hid h5
                  have S5 := Lib.hid (t5.row (by decide) HSTW.out.starts)
                  have O5 := Lib.hid (t5.row (by decide) HSTW.out.overs)
                  have B5 := Lib.hid (HTW.out.trans t5.below)
                  clear h5 t5 hc
                  go_wp2_with fail
                  go_meet
                  case rel =>
                    refine ⟨_, _, _, _, _, _, rfl, rfl, rfl, Lib.hid ⟨?_, ?_, ?_⟩, B5⟩
                    · rw [HRUN.out]; exact H5.out
                    · rw [HRUN.out, commit_none HLN.out]; exact S5.out
                    · rw [HRUN.out, commit_none HLN.out]; exact O5.out
                | some x => 
                  have gt := tryE_live hl
                  simp only [Option.isSome_some]
                  have hlt := live_lt hl
                  obtain ⟨j, rfl⟩ : ∃ j : Nat, n = (j : Int) + 1 := ⟨(n - 1).toNat, by omega⟩
                  have hj : j < M.txns.length := by omega
                  have hj3 : (j : Int) ≤ 300000 := by omega
                  have HJ := Lib.hid hj
                  have HLN := Lib.hid hl
                  obtain ⟨ct, hct⟩ : ∃ ct, ct = M.commitT ((j : Int) + 1) := ⟨_, rfl⟩
                  obtain ⟨te, hte⟩ : ∃ te, te = M.tryE ((j : Int) + 1) := ⟨_, rfl⟩
                  rw [← hte] at gt hc
                  rw [← hct] at hc
                  have hjo : j < on := by have := HOL.out; omega
                  clear hl hct hte hj hlt
                  go_wp2_with fail
                  refine hc.mono ?_
                  rintro e wd ⟨rfl, h5, t5⟩
                  have q1 : wd.cell? ⟨wr.heap.size, 1, none⟩ = some (.int .i64 ((j : Int) + 1)) := (t5.blk (by decide) HBX.out).cell 1
                  have H5 := Lib.hid h5
                  have S5 := Lib.hid (t5.row (by decide) HSTW.out.starts)
                  have O5 := Lib.hid (t5.row (by decide) HSTW.out.overs)
                  have B5 := Lib.hid (HTW.out.trans t5.below)
                  clear h5 t5 hc
                  obtain ⟨ob, rfl, hob, ocell, ofr, oset⟩ := O5.out.cellB (j := j) (by simp only [MV.overs, List.length_map]; exact HJ.out)
                  have OS := Lib.hid oset
                  clear oset
                  go_wp2_with fail
                  go_meet
                  case rel =>
                    refine ⟨_, _, _, _, _, _, rfl, rfl, rfl, Lib.hid ⟨?_, ?_, ?_⟩, Lib.hid (B5.out.setCell hob _)⟩
                    · rw [HRUN.out]; exact H5.out.setRow O5.out (by decide) j _
                    · rw [HRUN.out, starts_commit]; exact S5.out.setOther O5.out (by decide) j _
                    · rw [HRUN.out, overs_commit HLN.out, show ((j : Int) + 1 - 1).toNat = j by omega]; exact OS.out
              · have g3 : (kd == 3) = false := by simpa using h3
                by_cases h4 : kd = 4
                · subst h4
                  have hc := bAbort w.heap.size wc g M HSTW.out.tb hwz n HN64.out
                  have HRUN : Hid (M.run ⟨4, n, rA, rn, rc, refs⟩ = M.over n) := Lib.hid rfl
                  clear hst
                  cases hl : M.live? n with
                  | none =>
                    rw [touchE_none hl] at hc
                    simp only [Option.isSome_none]
                    have HLN := Lib.hid hl
                    clear hl
                    go_wp2_with fail
                    refine hc.mono ?_
                    rintro e wd ⟨rfl, h5, t5⟩
                    have H5 := Lib.hid h5
                    have S5 := Lib.hid (t5.row (by decide) HSTW.out.starts)
                    have O5 := Lib.hid (t5.row (by decide) HSTW.out.overs)
                    have B5 := Lib.hid (HTW.out.trans t5.below)
                    clear h5 t5 hc
                    go_wp2_with fail
                    go_meet
                    case rel =>
                      refine ⟨_, _, _, _, _, _, rfl, rfl, rfl, Lib.hid ⟨?_, ?_, ?_⟩, B5⟩
                      · rw [HRUN.out]; exact H5.out
                      · rw [HRUN.out, over_none HLN.out]; exact S5.out
                      · rw [HRUN.out, over_none HLN.out]; exact O5.out
                  | some x => 
                    rw [touchE_live hl] at hc
                    simp only [Option.isSome_some]
                    have hlt := live_lt hl
                    obtain ⟨j, rfl⟩ : ∃ j : Nat, n = (j : Int) + 1 := ⟨(n - 1).toNat, by omega⟩
                    have hj : j < M.txns.length := by omega
                    have hj3 : (j : Int) ≤ 300000 := by omega
                    have HJ := Lib.hid hj
                    have HLN := Lib.hid hl
                    have hjo : j < on := by have := HOL.out; omega
                    clear hl hj hlt
                    go_wp2_with fail
                    refine hc.mono ?_
                    rintro e wd ⟨rfl, h5, t5⟩
                    have q1 : wd.cell? ⟨wr.heap.size, 1, none⟩ = some (.int .i64 ((j : Int) + 1)) := (t5.blk (by decide) HBX.out).cell 1
                    have H5 := Lib.hid h5
                    have S5 := Lib.hid (t5.row (by decide) HSTW.out.starts)
                    have O5 := Lib.hid (t5.row (by decide) HSTW.out.overs)
                    have B5 := Lib.hid (HTW.out.trans t5.below)
                    clear h5 t5 hc
                    obtain ⟨ob, rfl, hob, ocell, ofr, oset⟩ := O5.out.cellB (j := j) (by simp only [MV.overs, List.length_map]; exact HJ.out)
                    have OS := Lib.hid oset
                    clear oset
                    go_wp2_with fail
                    go_meet
                    case rel =>
                      refine ⟨_, _, _, _, _, _, rfl, rfl, rfl, Lib.hid ⟨?_, ?_, ?_⟩, Lib.hid (B5.out.setCell hob _)⟩
                      · rw [HRUN.out]; exact H5.out.setRow O5.out (by decide) j _
                      · rw [HRUN.out, starts_over]; exact S5.out.setOther O5.out (by decide) j _
                      · rw [HRUN.out, overs_over HLN.out, show ((j : Int) + 1 - 1).toNat = j by omega]; exact OS.out
                · have g4 : (kd == 4) = false := by simpa using h4
                  have HRUN := Lib.hid (run_0 M n rA rn rc refs h1 h2 h3 h4)
                  clear hst
                  go_wp2_with fail
                  go_meet
                  case rel =>
                    refine ⟨_, _, _, _, _, _, rfl, rfl, rfl, Lib.hid ?_, HTW⟩
                    rw [HRUN.out]; exact HSTW.out
        case rest =>
          obtain ⟨sA', sn', sc', oA', on', oc', rfl, rfl, rfl, HST', HT'⟩ := hcut
          obtain ⟨M', hM'⟩ : ∃ M', M' = M.run ⟨kd, n, rA, rn, rc, refs⟩ := ⟨_, rfl⟩
          rw [← hM'] at HST'
          have HSM' : Hid (M'.txns.length ≤ 300000) := Lib.hid (by have := (runs_small (last := last) HS.out (k + 1)).1; rw [HTK.out, runs_snoc, ← HM.out, ← hM'] at this; exact this)
          have HREL : Hid ((MV.new last).runs (os.take (k + 1)) = M') := Lib.hid (by rw [HTK.out, runs_snoc, ← HM.out, ← hM'])
          clear hM'
          have hwz := HT'.out.size
          have hol : on' = M'.txns.length := by
            obtain ⟨_, _, e, _⟩ := (HST'.out.overs.rk encB_len (Nat.le_refl _)).open_
            injection e with e1 e2 e3
            rw [e2]; simp [MV.overs]
          have hsl : sn' = M'.txns.length := by
            obtain ⟨_, _, e, _⟩ := (HST'.out.starts.rk encI_len (Nat.le_refl _)).open_
            injection e with e1 e2 e3
            rw [e2]; simp [MV.starts]
          have hon : on' ≤ 300000 := by rw [hol]; exact HSM'.out
          have HOL := Lib.hid hol
          have HSL := Lib.hid hsl
          clear hol hsl z0 z1 z2 y1 y2 y3
          go_wp2_with fail
          have hl0 : OK encI 1 3 (wc.alloc (.cells #[] 3)) w.heap.size (.slice (some ⟨wc.heap.size, 0, none⟩) 0 0) (M'.numsTo 0) := ⟨by simp [MV.numsTo], World.ownsRow_made wc #[] 0 hwz (by simp) (by simp)⟩
          have HL0 := Lib.hid hl0
          clear hl0
          go_loopw [16, 127] (fun l i wr => ∃ (m : Nat) (vA : Option Addr) (vn vc : Nat), m ≤ on' ∧ i = .int .i64 m ∧ l = .slice vA vn vc ∧ Hid (OK encI 1 3 wr w.heap.size (.slice vA vn vc) (M'.numsTo m)) ∧ Hid (StAt w.heap.size wr g (.slice sA' sn' sc') (.slice oA' on' oc') M') ∧ Hid (Below w.heap.size w wr)) (fun _ i _ => on' - (intOf i).toNat)
          case atStart => exact ⟨0, _, _, _, Nat.zero_le _, rfl, rfl, HL0, Lib.hid ⟨HST'.out.tb.alloc _, HST'.out.starts.alloc _, HST'.out.overs.alloc _⟩, Lib.hid (HT'.out.alloc hwz _)⟩
          case round =>
            obtain ⟨m, vA, vn, vc, hm, rfl, rfl, HLI, HSQ, HBQ⟩ := hrel
            have hwq := HBQ.out.size
            by_cases hmo : m < on'
            · have hmt : m < M'.txns.length := by have := HOL.out; omega
              have hovl : m < M'.overs.length := by simp only [MV.overs, List.length_map]; exact hmt
              obtain ⟨ob, rfl, hob, ocell, ofr, oset⟩ := HSQ.out.overs.cellB hovl
              have hov := over_at_ hmt
              rw [List.getElem?_eq_getElem hovl] at hov
              rw [Option.some.inj hov] at ocell
              clear hov oset
              cases hl : (M'.live? ((m : Int) + 1)).isSome with
              | false =>
                rw [hl] at ocell
                have HN : Hid (M'.numsTo (m + 1) = M'.numsTo m) := Lib.hid (by rw [numsTo_succ, hl]; rfl)
                clear hl
                go_wp2_with fail
                go_roundw
                case rel => exact ⟨m + 1, _, _, _, by omega, by go_num, rfl, Lib.hid (by rw [HN.out]; exact HLI.out), HSQ, HBQ⟩
                case measure => simp [intOf]; omega
              | true =>
                rw [hl] at ocell
                have HN : Hid (M'.numsTo (m + 1) = M'.numsTo m ++ [(m : Int) + 1]) := Lib.hid (by rw [numsTo_succ, hl]; rfl)
                have HNL : Hid ((M'.numsTo m).length + 1 ≤ 1000000) := Lib.hid (by have := numsTo_len M' m; omega)
                have hsa := start_at_ hmt hl
                obtain ⟨x, hx⟩ := Option.isSome_iff_exists.1 hl
                have HTE := Lib.hid (touchE_live hx)
                have HSA := Lib.hid hsa
                clear hl hx hsa
                go_wp2_with (first
                  | (at_builtin; refine wpList_appE etInt encI_len encI_one (y := (m : Int) + 1) rfl (.tmp 135) (.tmp 138) rfl rfl (HLI.out.alloc _) wr.heap.size rfl (oneI wr _ _) HNL.out (base1 hwq _) ?_; intro v6 w6 k1 k2 k3; obtain ⟨A6, c6, rfl, -, -, -, -⟩ := (k1.rk encI_len (Nat.le_refl _)).open_; have K1 := Lib.hid k1; have K2 := Lib.hid k2; clear k1 k2 k3))
                have o6 := HSQ.out.overs.beside HLI.out (show (4 : Nat) ≠ 3 from fun h => nomatch h) K2.out
                have s6 := HSQ.out.starts.beside HLI.out (show (2 : Nat) ≠ 3 from fun h => nomatch h) K2.out
                have t6 := HSQ.out.tb.beside HLI.out (show (3 : Nat) ≠ 60 from fun h => nomatch h) K2.out
                have b6 := below_beside HBQ.out HLI.out K2.out
                have HS6 : Hid (StAt w.heap.size w6 g (.slice sA' sn' sc') (.slice (some ⟨ob, 0, none⟩) on' oc') M') := Lib.hid ⟨t6, s6, o6⟩
                have HB6 := Lib.hid b6
                clear o6 s6 t6 b6
                have i64 : I64 ((m : Int) + 1) := by unfold I64; omega
                refine (bStart w.heap.size w6 g M' HS6.out.tb ((m : Int) + 1) i64).mono ?_
                rintro e w8 ⟨rfl, hb8⟩
                rw [HTE.out]
                have HS8 : Hid (StAt w.heap.size w8 g (.slice sA' sn' sc') (.slice (some ⟨ob, 0, none⟩) on' oc') M') := Lib.hid ⟨HS6.out.tb.below hb8, HS6.out.starts.below hb8, HS6.out.overs.below hb8⟩
                have HK8 := Lib.hid (K1.out.below hb8)
                have HB8 := Lib.hid (HB6.out.trans (hb8.mono HB6.out.size))
                clear hb8 i64
                obtain ⟨st, hst⟩ : ∃ st, st = M'.startOf ((m : Int) + 1) := ⟨_, rfl⟩
                obtain ⟨sA2, sc2, eS, -, -, -, HCS⟩ := (HS8.out.starts.rk encI_len (Nat.le_refl _)).open_
                injection eS with e1 e2 e3
                have hslen : m < M'.starts.length := by simp only [MV.starts, List.length_map]; exact hmt
                obtain ⟨sb, so, e4, hsb, hsx⟩ := HCS.out m hslen
                rw [← e1] at e4
                subst e4
                have hs0 := HSA.out
                rw [List.getElem?_eq_getElem hslen] at hs0
                have scell : w8.cell? ⟨sb, so + m, none⟩ = some (.int .i64 st) := by
                  have := hsx 0 _ rfl
                  rw [Option.some.inj hs0, ← hst] at this
                  simpa using this
                rw [← hst]
                have hmsl : m < sn' := by have := HSL.out; omega
                clear hst hs0 hsx HCS e1 e2 e3 hslen hsb
                go_wp2_with fail
                go_roundw
                case rel =>
                  have hk8 := HK8.out
                  rw [show (M'.numsTo m ++ [(m : Int) + 1]).length = (M'.numsTo m).length + 1 by simp] at hk8
                  exact ⟨m + 1, _, _, _, by omega, by go_num, rfl, Lib.hid (by rw [HN.out]; exact hk8), HS8, HB8⟩
                case measure => simp [intOf]; omega
            · have hme : m = M'.txns.length := by have := HOL.out; omega
              have hli := HLI.out
              rw [hme, numsTo_all] at hli
              have hvn : vn = M'.nums.length := by
                obtain ⟨_, _, e, _⟩ := (hli.rk encI_len (Nat.le_refl _)).open_
                injection e
              have hv8 : vn ≤ 8 := by rw [hvn]; exact HSQ.out.tb.ok.few
              have HLI2 := Lib.hid hli
              clear hme hli hvn
              go_wp2_with fail
              refine (bLive w.heap.size wr g M' HSQ.out.tb).mono ?_
              rintro e w8 ⟨v8, rfl, h8, hb8⟩
              obtain ⟨A8, c8, rfl, -, -, -, -⟩ := (h8.rk encI_len (Nat.le_refl _)).open_
              have hsi := SameInts_yes (.slice A8 M'.nums.length c8) (.slice vA vn vc) M'.nums w8 _ _ (h8.rk encI_len (Nat.le_refl _)) ((HLI2.out.below hb8).rk encI_len (Nat.le_refl _))
              have HS8 : Hid (StAt w.heap.size w8 g (.slice sA' sn' sc') (.slice oA' on' oc') M') := Lib.hid ⟨HSQ.out.tb.below hb8, HSQ.out.starts.below hb8, HSQ.out.overs.below hb8⟩
              have HB8 := Lib.hid (HBQ.out.trans (hb8.mono HBQ.out.size))
              clear h8 hb8
              go_wp2_with fail
              refine hsi.mono ?_
              rintro e w9 ⟨rfl, q, rfl⟩
              clear hsi
              go_wp2_with fail
              go_roundw
              case rel =>
                refine ⟨k + 1, _, _, _, _, _, _, by omega, by go_num, rfl, rfl, Lib.hid ?_, Lib.hid ⟨HB8.out.os, HB8.out.tape, HB8.out.output, HB8.out.size, HB8.out.block⟩⟩
                rw [HREL.out]
                have hq : Below w8.heap.size w8 (w8.drewN q) := ⟨rfl, rfl, rfl, Nat.le_refl _, fun _ _ => rfl⟩
                exact ⟨HS8.out.tb.below hq, HS8.out.starts.below hq, HS8.out.overs.below hq⟩
              case measure => simp [intOf]; omega
    · go_wp2
      go_ret
      exact ⟨rfl, HT.out⟩

end Go.Proofs.Ytgahkloldpjnkaa
