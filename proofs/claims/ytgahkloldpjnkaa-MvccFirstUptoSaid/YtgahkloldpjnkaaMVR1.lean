/-
  The document's table in memory; the walks of skeinref14's Is, Live and Horizon.
-/
import Derived.Test.YtgahkloldpjnkaaMV18
namespace Go.Proofs.Ytgahkloldpjnkaa
open Go.RowKit Go.Maps
set_option linter.unusedVariables false

/-- A transaction as the document's answer has it. -/
structure TxV where
  start : Int
  A : Option Addr
  n : Nat
  c : Nat
  live : Bool
  at_ : Int
  refs : List Rf

def TxV.tx (x : TxV) : Tx := ⟨x.start, x.refs, x.live, x.at_⟩

def encTx (x : TxV) : List Value := [.int .i64 x.start, .slice x.A x.n x.c, .bool x.live, .int .i64 x.at_]

theorem encTx_len (x : TxV) : (encTx x).length = 4 := rfl

theorem encTx_one (x : TxV) : ∀ u ∈ encTx x, u.oneCell' = true := by
  intro u hu
  simp only [encTx, List.mem_cons, List.not_mem_nil, or_false] at hu
  rcases hu with rfl | rfl | rfl | rfl <;> rfl

instance : Inhabited TxV := ⟨⟨0, none, 0, 0, false, 0, []⟩⟩

theorem etTx : ElemT 26 73 4 48 := elemT_of (z := .agg #[.int .i64 0, .slice none 0 0, .bool false, .int .i64 0]) Try.underlying26 (by kernel_rfl) (by kernel_rfl) (by decide) (by decide) (by decide)

theorem cellTx {w : World} {b off i : Nat} {x : TxV} (h : ∀ (j : Nat) u, (encTx x)[j]? = some u → w.cell? ⟨b, off + i * 4 + j, none⟩ = some u) :
    w.cell? ⟨b, off + i * 4, none⟩ = some (.int .i64 x.start) ∧ w.cell? ⟨b, off + i * 4 + 1, none⟩ = some (.slice x.A x.n x.c) ∧ w.cell? ⟨b, off + i * 4 + 2, none⟩ = some (.bool x.live) ∧ w.cell? ⟨b, off + i * 4 + 3, none⟩ = some (.int .i64 x.at_) :=
  ⟨h 0 _ rfl, h 1 _ rfl, h 2 _ rfl, h 3 _ rfl⟩

/-- A row of transactions. -/
structure TxRow (w : World) (v : Value) (xs : List TxV) : Prop where
  rk : RK encTx 4 w w.heap.size v xs
  refs : ∀ x ∈ xs, RR w w.heap.size (.slice x.A x.n x.c) x.refs

theorem TxRow.below {w w' : World} {v : Value} {xs : List TxV} (h : TxRow w v xs) (hb : Below w.heap.size w w') : TxRow w' v xs :=
  ⟨(h.rk.below hb).more hb.size, fun x hx => ((h.refs x hx).below hb).more hb.size⟩

/-- In w the row v, with the last time, stands for M. -/
structure RTab (w : World) (v : Value) (xs : List TxV) (M : MV) : Prop where
  row : TxRow w v xs
  txs : M.txns = xs.map TxV.tx
  ok : M.Ok
  small : M.txns.length ≤ 400000 ∧ M.bulk ≤ 800000

theorem RTab.below {w w' : World} {v : Value} {xs : List TxV} {M : MV} (h : RTab w v xs M) (hb : Below w.heap.size w w') : RTab w' v xs M := ⟨h.row.below hb, h.txs, h.ok, h.small⟩

theorem RTab.len {w : World} {v : Value} {xs : List TxV} {M : MV} (h : RTab w v xs M) : M.txns.length = xs.length := by rw [h.txs, List.length_map]

theorem RTab.live {w : World} {v : Value} {xs : List TxV} {M : MV} (h : RTab w v xs M) {i : Nat} (hi : i < xs.length) : M.live? ((i : Int) + 1) = if (xs[i]).live = true then some (xs[i]).tx else none := by
  unfold MV.live?
  rw [if_pos (by omega), show ((i : Int) + 1 - 1).toNat = i by omega, h.txs, List.getElem?_map, List.getElem?_eq_getElem hi]
  cases hl : (xs[i]).live <;> simp [Option.filter, TxV.tx, hl]

theorem live_out {M : MV} {n : Int} (h : ¬ (1 ≤ n ∧ n ≤ (M.txns.length : Int))) : M.live? n = none := by
  cases hl : M.live? n with
  | none => rfl
  | some x => exact absurd (live_lt hl) h

/-- A row of transactions lies in none of a table's blocks. -/
theorem Tb.offTx {w : World} {g : Nat} {S : Nat → Prop} {M : MV} (h : Tb w g S M) {B : Nat} {v : Value} {xs : List TxV} (hv : RK encTx 4 w B v xs) : Off S v xs := by
  obtain ⟨lb, cb, bl, h1, _, h3⟩ := h
  obtain ⟨_, A, c, rfl, _, _, h5⟩ := hv
  rcases h5 with h5 | ⟨b, off, rfl, hb, hc⟩
  · exact .inl h5
  · cases xs with
    | nil => exact .inl rfl
    | cons r rs =>
      obtain ⟨c1, _, c3, _⟩ := cellTx (hc 0 r rfl)
      refine .inr fun b' e => ?_
      injection e with e
      dsimp only at e
      subst e
      intro hS
      obtain ⟨cm, hcm, _⟩ := h1.com
      rcases (h3 b).2 hS with rfl | rfl | rfl | ⟨n, x, hx, rfl⟩
      · exact tab_no_bool h1.blk _ _ c3
      · rw [cell_map h1.live] at c1; cases c1
      · rw [cell_map hcm] at c1; cases c1
      · rw [cell_map (h1.sets n x hx)] at c1; cases c1

theorem RTab.mod {w w' : World} {g : Nat} {S : Nat → Prop} {M M' : MV} {v : Value} {xs : List TxV} (h : RTab w v xs M') (ht : Tb w g S M) (hm : Mod S w w') : RTab w' v xs M' :=
  ⟨⟨h.row.rk.mod hm (ht.offTx h.row.rk), fun x hx => (h.row.refs x hx).mod hm (ht.offR (h.row.refs x hx))⟩, h.txs, h.ok, h.small⟩

theorem Blk.beside {β : Type} {enc' : β → List Value} {k' E' : Nat} {w w' : World} {g : Nat} {t : TypeId} {cs : Array Value} {B' : Nat} {v' : Value} {ys : List β} {o : Obj} (h : Blk w g t cs) (h' : OK enc' k' E' w B' v' ys) (hne : t ≠ E') (hg : (w.alloc o).grownBy w' v'.ownBlock) : Blk w' g t cs := by
  refine (h.alloc o).grown hg fun e => ?_
  rcases (h'.alloc o).2.2 with ⟨e2, _⟩ | ⟨g', cap, cur, e2, _, hh, _⟩
  · rw [e2] at e; cases e
  · rw [e2] at e
    simp only [Value.ownBlock] at e
    injection e with e
    subst e
    exact (h.alloc o).ne_ (t' := E') (cs' := cur) hh hne rfl

/-- The table as a value. -/
def rtV (v : Value) (last : Int) : Value := .agg #[v, .int .i64 last]

set_option maxRecDepth 100000 in
theorem rIs_any (w : World) (v : Value) (xs : List TxV) (M : MV) (h : RTab w v xs M) (n : Int) :
    Calls Try.prog 30 #[rtV v M.last, .int .i64 n] w fun e w' => e = .returned (.bool (M.live? n).isSome) ∧ Below w.heap.size w w' := by
  obtain ⟨A, c, rfl, hc1, hc2, hc3, HC⟩ := h.row.rk.open_
  have hsm := h.small.1
  have hlen := h.len
  rw [hlen] at hsm
  unfold rtV
  by_cases hn1 : 1 ≤ n
  · by_cases hn2 : n ≤ (xs.length : Int)
    · obtain ⟨j, rfl⟩ : ∃ j : Nat, n = (j : Int) + 1 := ⟨(n - 1).toNat, by omega⟩
      have hj : j < xs.length := by omega
      obtain ⟨b2, o2, rfl, hb2, hx2⟩ := HC.out j hj
      obtain ⟨_, _, u2, _⟩ := cellTx hx2
      have hl := h.live hj
      have hj3 : (j : Int) ≤ 400000 := by omega
      obtain ⟨bb, hbb⟩ : ∃ bb, bb = (xs[j]).live := ⟨_, rfl⟩
      have HL : Hid ((M.live? ((j : Int) + 1)).isSome = bb) := Lib.hid (by rw [hl, hbb]; cases (xs[j]).live <;> rfl)
      rw [← hbb] at u2
      clear hl hbb hx2 HC h hlen
      go_enter Try.func30, Try.ntmps30
      go_wp2
      go_ret
      exact ⟨by rw [HL.out]; rfl, (Below.refl _ _).alloc (Nat.le_refl _) _⟩
    · have HL : Hid (M.live? n = none) := Lib.hid (live_out (by omega))
      clear HC h hlen
      go_enter Try.func30, Try.ntmps30
      go_wp2
      go_ret
      exact ⟨by rw [HL.out]; rfl, (Below.refl _ _).alloc (Nat.le_refl _) _⟩
  · have HL : Hid (M.live? n = none) := Lib.hid (live_out (by omega))
    clear HC h hlen
    go_enter Try.func30, Try.ntmps30
    go_wp2
    go_ret
    exact ⟨by rw [HL.out]; rfl, (Below.refl _ _).alloc (Nat.le_refl _) _⟩

set_option maxRecDepth 100000 in
set_option maxHeartbeats 1000000 in
theorem rLive_any (w : World) (v : Value) (xs : List TxV) (M : MV) (h : RTab w v xs M) :
    Calls Try.prog 17 #[rtV v M.last] w fun e w' => ∃ v', e = .returned v' ∧ OK encI 1 3 w' w.heap.size v' M.nums ∧ Below w.heap.size w w' := by
  obtain ⟨A, c, rfl, hc1, hc2, hc3, HC⟩ := h.row.rk.open_
  have hsm := h.small.1
  have hlen := h.len
  rw [hlen] at hsm
  obtain ⟨N, hN⟩ : ∃ N, N = xs.length := ⟨_, rfl⟩
  rw [← hN] at hc1 hc3 hsm ⊢
  have HN := Lib.hid hN
  have H := Lib.hid h
  have HLN := Lib.hid hlen
  have hb0 : Below w.heap.size w (w.alloc (.cells #[.slice A N c, .int .i64 M.last] 28)) := (Below.refl _ _).alloc (Nat.le_refl _) _
  have HB0 := Lib.hid hb0
  have hbk : Blk ((w.alloc (.cells #[.slice A N c, .int .i64 M.last] 28)).alloc (.cells #[] 3)) w.heap.size 28 #[.slice A N c, .int .i64 M.last] := (Blk.new _ _ _).alloc _
  have HBK := Lib.hid hbk
  have hl0 : OK encI 1 3 ((w.alloc (.cells #[.slice A N c, .int .i64 M.last] 28)).alloc (.cells #[] 3)) w.heap.size (.slice (some ⟨w.heap.size + 1, 0, none⟩) 0 0) (M.numsTo 0) := by
    have := World.ownsRow_made (e := 3) (size := 1) (w.alloc (.cells #[.slice A N c, .int .i64 M.last] 28)) #[] 0 (base := w.heap.size) (by simp) (by simp) (by simp)
    rw [show (w.alloc (.cells #[.slice A N c, .int .i64 M.last] 28)).heap.size = w.heap.size + 1 by simp] at this
    exact ⟨by simp [MV.numsTo], this⟩
  have HL0 := Lib.hid hl0
  clear hN h hlen hb0 hbk hl0
  unfold rtV
  go_enter Try.func17, Try.ntmps17
  go_wp2_with fail
  go_loopw [3, 4] (fun l i wr => ∃ (m : Nat) (vA : Option Addr) (vn vc : Nat), m ≤ N ∧ i = .int .i64 m ∧ l = .slice vA vn vc ∧ Hid (OK encI 1 3 wr w.heap.size (.slice vA vn vc) (M.numsTo m)) ∧ Hid (Blk wr w.heap.size 28 #[.slice A N c, .int .i64 M.last]) ∧ Hid (Below w.heap.size w wr)) (fun _ i _ => N - (intOf i).toNat)
  case atStart => exact ⟨0, _, _, _, Nat.zero_le _, rfl, rfl, HL0, HBK, Lib.hid (HB0.out.alloc (by simp) _)⟩
  case round =>
    obtain ⟨m, vA, vn, vc, hm, rfl, rfl, HLI, HBR, HB⟩ := hrel
    have z0 : wr.cell? ⟨w.heap.size, 0, none⟩ = some (.slice A N c) := HBR.out.cell 0
    have hwz := HB.out.size
    by_cases hmo : m < N
    · have hmx : m < xs.length := by rw [← HN.out]; exact hmo
      obtain ⟨b2, o2, rfl, hb2, hx2⟩ := HC.out m hmx
      obtain ⟨_, _, u2, _⟩ := cellTx hx2
      have y2 : wr.cell? ⟨b2, o2 + m * 4 + 2, none⟩ = _ := (HB.out.cell (p := ⟨b2, o2 + m * 4 + 2, none⟩) hb2).trans u2
      have hl := H.out.live hmx
      obtain ⟨bb, hbb⟩ : ∃ bb, bb = (xs[m]).live := ⟨_, rfl⟩
      have hls : (M.live? ((m : Int) + 1)).isSome = bb := by rw [hl, hbb]; cases (xs[m]).live <;> rfl
      rw [← hbb] at y2
      clear hl hbb hx2 u2
      cases bb with
      | false =>
        have HNN : Hid (M.numsTo (m + 1) = M.numsTo m) := Lib.hid (by rw [numsTo_succ, hls]; rfl)
        clear hls
        go_wp2_with fail
        go_roundw
        case rel => exact ⟨m + 1, _, _, _, by omega, by go_num, rfl, Lib.hid (by rw [HNN.out]; exact HLI.out), HBR, HB⟩
        case measure => simp [intOf]; omega
      | true =>
        have HNN : Hid (M.numsTo (m + 1) = M.numsTo m ++ [(m : Int) + 1]) := Lib.hid (by rw [numsTo_succ, hls]; rfl)
        have HNL : Hid ((M.numsTo m).length + 1 ≤ 1000000) := Lib.hid (by have := numsTo_len M m; omega)
        clear hls
        go_wp2_with (first
          | (at_builtin; refine wpList_appE etInt encI_len encI_one (y := (m : Int) + 1) rfl (.tmp 19) (.tmp 22) rfl rfl (HLI.out.alloc _) wr.heap.size rfl (oneI wr _ _) HNL.out (base1 hwz _) ?_; intro v6 w6 k1 k2 k3; obtain ⟨A6, c6, rfl, -, -, -, -⟩ := (k1.rk encI_len (Nat.le_refl _)).open_; have K1 := Lib.hid k1; have K2 := Lib.hid k2; clear k1 k2 k3))
        go_roundw
        case rel =>
          have k1 := K1.out
          rw [show (M.numsTo m ++ [(m : Int) + 1]).length = (M.numsTo m).length + 1 by simp] at k1
          have hbr6 : Blk w6 w.heap.size 28 #[.slice (some ⟨b2, o2, none⟩) N c, .int .i64 M.last] := HBR.out.beside HLI.out (by decide) K2.out
          exact ⟨m + 1, _, _, _, by omega, by go_num, rfl, Lib.hid (by rw [HNN.out]; exact k1), Lib.hid hbr6, Lib.hid (below_beside HB.out HLI.out K2.out)⟩
        case measure => simp [intOf]; omega
    · have e : m = xs.length := by rw [← HN.out]; omega
      have hli := HLI.out
      rw [e, ← HLN.out, numsTo_all] at hli
      have HLI2 := Lib.hid hli
      clear e hli
      go_wp2_with fail
      go_ret
      exact ⟨_, rfl, HLI2.out, HB.out⟩

end Go.Proofs.Ytgahkloldpjnkaa
