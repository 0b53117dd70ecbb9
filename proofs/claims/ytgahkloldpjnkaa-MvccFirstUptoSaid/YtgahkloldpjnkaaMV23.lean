/-
  MvccAlone: what the tables are, in plain words; the walk of skeinlaw14's meet.
-/
import Derived.Test.YtgahkloldpjnkaaMV22
namespace Go.Proofs.Ytgahkloldpjnkaa
open Go.RowKit Go.Maps
set_option linter.unusedVariables false

/-- All numbers of V are given up. -/
def MV.giveUp (M : MV) (V : List Int) : MV := V.foldl MV.over M

theorem giveUp_snoc (M : MV) (V : List Int) (n : Int) : M.giveUp (V ++ [n]) = (M.giveUp V).over n := by unfold MV.giveUp; rw [List.foldl_append]; rfl

theorem over_live' {M : MV} {n : Int} (k : Int) : (M.over n).live? k = if k = n then none else M.live? k := by
  cases hl : M.live? n with
  | none =>
    rw [over_none hl]
    by_cases e : k = n
    · rw [if_pos e, e, hl]
    · rw [if_neg e]
  | some x => exact over_live hl k

theorem giveUp_live (M : MV) (V : List Int) (k : Int) : (M.giveUp V).live? k = if k ∈ V then none else M.live? k := by
  induction V generalizing M with
  | nil => simp [MV.giveUp]
  | cons n r ih =>
    change ((M.over n).giveUp r).live? k = _
    rw [ih, over_live']
    by_cases h1 : k ∈ r
    · rw [if_pos h1, if_pos (List.mem_cons_of_mem _ h1)]
    · rw [if_neg h1]
      by_cases h2 : k = n
      · rw [if_pos h2, if_pos (by rw [h2]; exact List.mem_cons_self)]
      · rw [if_neg h2, if_neg (fun h => by rcases List.mem_cons.1 h with h | h; exact h2 h; exact h1 h)]

theorem giveUp_last (M : MV) (V : List Int) : (M.giveUp V).last = M.last := by
  induction V generalizing M with
  | nil => rfl
  | cons n r ih => change ((M.over n).giveUp r).last = _; rw [ih, over_last]

theorem giveUp_bulk (M : MV) (V : List Int) : (M.giveUp V).bulk = M.bulk := by
  induction V generalizing M with
  | nil => rfl
  | cons n r ih => change ((M.over n).giveUp r).bulk = _; rw [ih, bulk_over]

theorem giveUp_len (M : MV) (V : List Int) : (M.giveUp V).txns.length = M.txns.length := by
  induction V generalizing M with
  | nil => rfl
  | cons n r ih => change ((M.over n).giveUp r).txns.length = _; rw [ih, len_over]

theorem nums_nil {M : MV} (h : ∀ k, M.live? k = none) : M.nums = [] := by
  cases hn : M.nums with
  | nil => rfl
  | cons n r =>
    have := mem_nums.1 (show n ∈ M.nums by rw [hn]; exact List.mem_cons_self)
    rw [h n] at this
    cases this

theorem giveUp_all (M : MV) : (M.giveUp M.nums).nums = [] := nums_nil fun k => by
  rw [giveUp_live]
  by_cases h : k ∈ M.nums
  · rw [if_pos h]
  · rw [if_neg h]
    cases hl : M.live? k with
    | none => rfl
    | some x => exact absurd (mem_nums.2 (by rw [hl]; rfl)) h

theorem run_last (M : MV) (o : OpM) : (M.run o).last ≤ M.last + 1 := by
  unfold MV.run
  split
  · rw [begin_last]; omega
  · split
    · rw [touch_last]; omega
    · split
      · unfold MV.commit
        split
        · rename_i hc
          cases hl : M.live? o.n with
          | none => unfold MV.refsOf at hc; rw [hl] at hc; exact absurd rfl hc.2
          | some x => rw [over_win hl]; dsimp only; omega
        · rw [over_last]; omega
      · split
        · rw [over_last]; omega
        · omega

theorem runs_last (M : MV) (os : List OpM) : (M.runs os).last ≤ M.last + os.length := by
  induction os generalizing M with
  | nil => simp [MV.runs]
  | cons o r ih =>
    have h1 := ih (M.run o)
    have h2 := run_last M o
    change ((M.run o).runs r).last ≤ _
    rw [List.length_cons]
    omega

theorem try_zero {M : MV} {n : Int} {x : Tx} (hok : M.Ok) (hl : M.live? n = some x) (hst : x.start = M.last) (hlast : M.last < 1099511627776) : M.tryE n = 0 := by
  unfold MV.tryE
  rw [hl]
  dsimp only
  have hc : M.clash x = false := by
    rw [Bool.eq_false_iff]
    intro h
    obtain ⟨y, hy, h2⟩ := List.any_eq_true.1 h
    rw [Bool.and_eq_true, decide_eq_true_eq] at h2
    have := hok.tx y hy
    omega
  rw [hc, if_neg (by decide), if_neg (fun h => by have := h.2; omega)]

theorem begin_free {M : MV} (h : M.nums.length < 8) : M.begin = M.add ∧ M.beginN = (M.txns.length : Int) + 1 ∧ M.beginE = 0 := by
  refine ⟨?_, ?_, ?_⟩
  · unfold MV.begin; rw [if_pos h]
  · unfold MV.beginN; rw [if_pos h]
  · unfold MV.beginE; rw [if_pos h]

theorem add_live_new (M : MV) : M.add.live? ((M.txns.length : Int) + 1) = some ⟨M.last, [], true, -1⟩ := by rw [live_add, if_pos rfl]

theorem touch_live_new {M : MV} {n : Int} {x : Tx} (hl : M.live? n = some x) (rs : List Rf) (k : Int) : (M.touch n rs).live? k = if k = n then some { x with refs := x.refs ++ rs } else M.live? k := by
  rw [touch_eq hl, live_put hl]
  by_cases e : k = n
  · rw [if_pos e, if_pos e, if_pos (live_iff.1 hl).2.2]
  · rw [if_neg e, if_neg e]

theorem commit_live {M : MV} {n : Int} {x : Tx} (hl : M.live? n = some x) (k : Int) : (M.commit n).live? k = if k = n then none else M.live? k := by
  unfold MV.commit
  split
  · have h1 : (M.win n).live? n = some { x with at_ := M.last + 1 } := by rw [win_live hl, if_pos rfl]
    rw [over_live h1, win_live hl]
    by_cases e : k = n
    · rw [if_pos e, if_pos e]
    · rw [if_neg e, if_neg e, if_neg e]
  · exact over_live hl k

theorem commit_last {M : MV} {n : Int} {x : Tx} (hl : M.live? n = some x) (hst : x.start = M.last) (h0 : M.tryE n = 0) : M.commitT n = (M.commit n).last := by
  unfold MV.commitT MV.commit MV.refsOf MV.startOf
  rw [hl, if_pos h0]
  dsimp only
  by_cases e : x.refs = []
  · rw [if_pos e, if_neg (fun h => h.2 e), over_last, hst]
  · rw [if_neg e, if_pos ⟨h0, e⟩, over_win hl]

theorem common_comm (a b : List Rf) : common a b = common b a := by
  rw [Bool.eq_iff_iff]
  unfold common
  rw [List.any_eq_true, List.any_eq_true]
  constructor
  · rintro ⟨x, h1, h2⟩; exact ⟨x, by simpa using h2, by simpa using h1⟩
  · rintro ⟨x, h1, h2⟩; exact ⟨x, by simpa using h2, by simpa using h1⟩

/-- The one that is under way beside the other's commit. -/
theorem try_beside {M : MV} {a b : Int} {x y : Tx} (hok : M.Ok) (hab : a ≠ b) (hla : M.live? a = some x) (hlb : M.live? b = some y) (hx : x.start = M.last) (hy : y.start = M.last) (hlast : M.last + 1 < 1099511627776) : (M.commit b).tryE a = if common x.refs y.refs = true then 140 else 0 := by
  have h0 := try_zero hok hlb hy (by omega)
  have hl : (M.commit b).live? a = some x := by rw [commit_live hlb, if_neg hab, hla]
  have hr : M.refsOf b = y.refs := by unfold MV.refsOf; rw [hlb]
  by_cases e : y.refs = []
  · have hc : M.commit b = M.over b := by unfold MV.commit; rw [hr, if_neg (fun h => h.2 e)]
    have he : common x.refs y.refs = false := by rw [e, common_comm]; rfl
    rw [hc] at hl
    rw [hc, try_zero (over_ok hok b) hl (by rw [over_last]; exact hx) (by rw [over_last]; omega), he]
    rfl
  · have hc : M.commit b = (M.win b).over b := by unfold MV.commit; rw [hr, if_pos ⟨h0, e⟩]
    have hw := over_win hlb
    have hcl : (M.commit b).clash x = common x.refs y.refs := by
      rw [Bool.eq_iff_iff]
      unfold MV.clash
      rw [List.any_eq_true]
      constructor
      · rintro ⟨z, hz, h2⟩
        rw [Bool.and_eq_true, decide_eq_true_eq] at h2
        rw [hc, hw] at hz
        rcases mem_set hz with rfl | hz
        · rw [common_comm]; exact h2.2
        · have := hok.tx z hz; omega
      · intro h
        refine ⟨{ y with at_ := M.last + 1, live := false }, ?_, ?_⟩
        · rw [hc, hw]
          obtain ⟨h1, h2, h3⟩ := live_iff.1 hlb
          have := (List.getElem?_eq_some_iff.1 h2).1
          exact List.mem_iff_getElem.2 ⟨_, by rw [List.length_set]; exact this, by rw [List.getElem_set_self]⟩
        · rw [Bool.and_eq_true, decide_eq_true_eq]
          exact ⟨by dsimp only; omega, by rw [common_comm]; exact h⟩
    unfold MV.tryE
    rw [hl]
    dsimp only
    rw [hcl]
    by_cases h : common x.refs y.refs = true
    · rw [if_pos h, if_pos h]
    · rw [if_neg h, if_neg h, if_neg (fun h5 => by have := h5.2; rw [hc, hw] at this; dsimp only at this; omega)]

set_option maxRecDepth 100000 in
set_option maxHeartbeats 1000000 in
theorem rMeet_any (w : World) (u v : Value) (a b : List Rf) (hu : RR w w.heap.size u a) (hv : RR w w.heap.size v b) (ha : a.length ≤ 4000000000) (hb : b.length ≤ 4000000000) :
    Calls Try.prog 23 #[u, v] w fun e w' => e = .returned (.bool (common a b)) ∧ Below w.heap.size w w' := by
  obtain ⟨A, c, rfl, hc1, hc2, hc3, HC⟩ := hu.open_
  obtain ⟨A2, c2, rfl, hd1, hd2, hd3, HD⟩ := hv.open_
  obtain ⟨N, hN⟩ : ∃ N, N = a.length := ⟨_, rfl⟩
  obtain ⟨K, hK⟩ : ∃ K, K = b.length := ⟨_, rfl⟩
  rw [← hN] at hc1 hc3 ha ⊢
  rw [← hK] at hd1 hd3 hb ⊢
  have HN := Lib.hid hN
  have HK := Lib.hid hK
  clear hN hK hu hv
  go_enter Try.func23, Try.ntmps23
  go_wp2_with fail
  go_loopw [11] (fun i wr => ∃ m : Nat, m ≤ N ∧ i = .int .i64 m ∧ Hid (∀ i (hi : i < a.length), i < m → ∀ j (hj : j < b.length), a[i] ≠ b[j]) ∧ Hid (Below w.heap.size w wr)) (fun i _ => N - (intOf i).toNat)
  case atStart => exact ⟨0, Nat.zero_le _, rfl, Lib.hid (fun i hi h => absurd h (by omega)), Lib.hid (Below.refl _ _)⟩
  case round =>
    obtain ⟨m, hm, rfl, HNO, HB⟩ := hrel
    by_cases hmo : m < N
    · have hmx : m < a.length := by rw [← HN.out]; exact hmo
      obtain ⟨b1, o1, rfl, hb1, hx1⟩ := HC.out m hmx
      obtain ⟨u0, u1⟩ := cellR hx1
      have p0 : wr.cell? ⟨b1, o1 + m * 2, none⟩ = _ := (HB.out.cell (p := ⟨b1, o1 + m * 2, none⟩) hb1).trans u0
      have p1 : wr.cell? ⟨b1, o1 + m * 2 + 1, none⟩ = _ := (HB.out.cell (p := ⟨b1, o1 + m * 2 + 1, none⟩) hb1).trans u1
      obtain ⟨x, hx⟩ : ∃ x, x = a[m] := ⟨_, rfl⟩
      rw [← hx] at p0 p1
      have HX := Lib.hid hx
      obtain ⟨x0, x1⟩ := x
      dsimp only at p0 p1
      have hw1 := HB.out.size
      clear hx u0 u1 hx1
      obtain ⟨bo, hbo⟩ : ∃ bo, bo = wr.heap.size := ⟨_, rfl⟩
      have hk : Blk (wr.alloc (.cells #[.bool x0, .int .i64 x1] 62)) bo 62 #[.bool x0, .int .i64 x1] := by rw [hbo]; exact Blk.new _ _ _
      have HKX := Lib.hid hk
      have HB1 : Hid (Below w.heap.size w (wr.alloc (.cells #[.bool x0, .int .i64 x1] 62))) := Lib.hid (HB.out.alloc hw1 _)
      clear hk
      go_wp2_with fail
      rw [← hbo]
      clear hbo
      go_loopw [17] (fun i wx => ∃ q : Nat, q ≤ K ∧ i = .int .i64 q ∧ Hid (∀ j (hj : j < b.length), j < q → a[m] ≠ b[j]) ∧ Hid (Below w.heap.size w wx) ∧ Hid (Blk wx bo 62 #[.bool x0, .int .i64 x1])) (fun i _ => K - (intOf i).toNat)
      case atStart => exact ⟨0, Nat.zero_le _, rfl, Lib.hid (fun i hi h => absurd h (by omega)), HB1, HKX⟩
      case round =>
        obtain ⟨q, hq, rfl, HNQ, HBQ, HBO⟩ := hrel
        have hbl := HBO.out.lt
        have s0 : wr.cell? ⟨bo, 0, none⟩ = some (.bool x0) := HBO.out.cell 0
        have s1 : wr.cell? ⟨bo, 1, none⟩ = some (.int .i64 x1) := HBO.out.cell 1
        by_cases hqo : q < K
        · have hqx : q < b.length := by rw [← HK.out]; exact hqo
          obtain ⟨b2, o2, rfl, hb2, hx2⟩ := HD.out q hqx
          obtain ⟨v0, v1⟩ := cellR hx2
          have q0 : wr.cell? ⟨b2, o2 + q * 2, none⟩ = _ := (HBQ.out.cell (p := ⟨b2, o2 + q * 2, none⟩) hb2).trans v0
          have q1 : wr.cell? ⟨b2, o2 + q * 2 + 1, none⟩ = _ := (HBQ.out.cell (p := ⟨b2, o2 + q * 2 + 1, none⟩) hb2).trans v1
          obtain ⟨y, hy⟩ : ∃ y, y = b[q] := ⟨_, rfl⟩
          rw [← hy] at q0 q1
          have HY := Lib.hid hy
          obtain ⟨y0, y1⟩ := y
          dsimp only at q0 q1
          have HQ1 : Hid (Below w.heap.size w (wr.alloc (.cells #[.bool y0, .int .i64 y1] 62))) := Lib.hid (HBQ.out.alloc HBQ.out.size _)
          have HQ2 : Hid (Blk (wr.alloc (.cells #[.bool y0, .int .i64 y1] 62)) bo 62 #[.bool x0, .int .i64 x1]) := Lib.hid (HBO.out.alloc _)
          clear hy v0 v1 hx2
          by_cases h0 : x0 = y0
          · subst h0
            by_cases h1 : x1 = y1
            · subst h1
              have HCY : Hid (common a b = true) := Lib.hid (common_yes hmx hqx (by rw [← HX.out, ← HY.out]))
              go_wp2_with fail
              go_ret
              exact ⟨by rw [HCY.out]; rfl, HQ1.out⟩
            · have h1b : (x1 == y1) = false := by simpa using h1
              have HNE : Hid (a[m] ≠ b[q]) := Lib.hid (by rw [← HX.out, ← HY.out]; intro e; injection e with e1 e2; exact h1 e2)
              go_wp2_with fail
              go_roundw
              case rel => exact ⟨q + 1, by omega, by go_num, Lib.hid (fun j hj hlt => by rcases Nat.lt_succ_iff_lt_or_eq.1 hlt with h | h; exact HNQ.out j hj h; (subst h; exact HNE.out)), HQ1, HQ2⟩
              case measure => simp [intOf]; omega
          · have h0b : (x0 == y0) = false := by simpa using h0
            have HNE : Hid (a[m] ≠ b[q]) := Lib.hid (by rw [← HX.out, ← HY.out]; intro e; injection e with e1 e2; exact h0 e1)
            go_wp2_with fail
            go_roundw
            case rel => exact ⟨q + 1, by omega, by go_num, Lib.hid (fun j hj hlt => by rcases Nat.lt_succ_iff_lt_or_eq.1 hlt with h | h; exact HNQ.out j hj h; (subst h; exact HNE.out)), HQ1, HQ2⟩
            case measure => simp [intOf]; omega
        · go_wp2_with fail
          go_roundw
          case rel => exact ⟨m + 1, by omega, by go_num, Lib.hid (fun i hi hlt j hj => by rcases Nat.lt_succ_iff_lt_or_eq.1 hlt with h | h; exact HNO.out i hi h j hj; (subst h; exact HNQ.out j hj (by have := HK.out; omega))), HBQ⟩
          case measure => simp [intOf]; omega
    · have HCN : Hid (common a b = false) := Lib.hid (common_no fun i hi j hj => HNO.out i hi (by have := HN.out; omega) j hj)
      go_wp2_with fail
      go_ret
      exact ⟨by rw [HCN.out]; rfl, HB.out⟩

end Go.Proofs.Ytgahkloldpjnkaa
