/-
  One contract for each call on a table, whatever it is asked; what a call leaves as it was.
-/
import Derived.Test.YtgahkloldpjnkaaMV12
import Derived.Test.YtgahkloldpjnkaaMV7
import Derived.Test.YtgahkloldpjnkaaMV6
namespace Go.Proofs.Ytgahkloldpjnkaa
open Go.RowKit Go.Maps
set_option linter.unusedVariables false

/-- Between calls: who is under way is not committed. -/
def MV.Calm (M : MV) : Prop := ∀ x ∈ M.txns, x.live = true → x.at_ < 0

/-- How many elements were touched in all. -/
def MV.bulk (M : MV) : Nat := (M.txns.map fun x => x.refs.length).sum

def MV.touchE (M : MV) (n : Int) : Int := if (M.live? n).isSome = true then 0 else 141

def MV.begin (M : MV) : MV := if M.nums.length < 8 then M.add else M

def MV.beginN (M : MV) : Int := if M.nums.length < 8 then (M.txns.length : Int) + 1 else 0

def MV.beginE (M : MV) : Int := if M.nums.length < 8 then 0 else 142

theorem calm_live {M : MV} (h : M.Calm) {n : Int} {x : Tx} (hl : M.live? n = some x) : x.at_ < 0 := h x (live_mem hl) (live_iff.1 hl).2.2

theorem calm_new (last : Int) : (MV.new last).Calm := fun x hx => by cases hx

theorem calm_begin {M : MV} (h : M.Calm) : M.begin.Calm := by
  unfold MV.begin
  split
  · intro x hx hl
    rcases List.mem_append.1 hx with hx | hx
    · exact h x hx hl
    · rw [List.mem_singleton.1 hx]; show (-1 : Int) < 0; omega
  · exact h

theorem calm_put {M : MV} (h : M.Calm) {n : Int} {y : Tx} (hy : y.live = true → y.at_ < 0) : (M.put n y).Calm := by
  intro x hx hl
  rcases mem_set hx with rfl | hx
  · exact hy hl
  · exact h x hx hl

theorem calm_touch {M : MV} (h : M.Calm) (n : Int) (rs : List Rf) : (M.touch n rs).Calm := by
  unfold MV.touch
  split
  · exact h
  · rename_i x hx
    have h1 := calm_live h hx
    exact calm_put h fun _ => h1

theorem calm_over {M : MV} (h : M.Calm) (n : Int) : (M.over n).Calm := by
  unfold MV.over
  split
  · exact h
  · exact calm_put h fun hl => by cases hl

theorem over_win {M : MV} {n : Int} {x : Tx} (hl : M.live? n = some x) : (M.win n).over n = ⟨M.txns.set (n - 1).toNat { x with at_ := M.last + 1, live := false }, M.last + 1⟩ := by
  have h1 : (M.win n).live? n = some { x with at_ := M.last + 1 } := by rw [win_live hl, if_pos rfl]
  rw [over_eq h1, win_eq hl]
  unfold MV.put
  simp

theorem calm_commit {M : MV} (h : M.Calm) (n : Int) : (M.commit n).Calm := by
  unfold MV.commit
  split
  · rename_i hc
    cases hl : M.live? n with
    | none => unfold MV.refsOf at hc; rw [hl] at hc; exact absurd rfl hc.2
    | some x =>
      rw [over_win hl]
      intro y hy hy2
      rcases mem_set hy with rfl | hy
      · cases hy2
      · exact h y hy hy2
  · exact calm_over h n

/-! ### How much there is -/

theorem bulk_set (l : List Tx) (i : Nat) (x y : Tx) (h : l[i]? = some x) : ((l.set i y).map fun x => x.refs.length).sum + x.refs.length = (l.map fun x => x.refs.length).sum + y.refs.length := sum_set (fun x => x.refs.length) l i x y h

theorem spent_bulk {M : MV} {n : Int} {x : Tx} (hl : M.live? n = some x) (hat : x.at_ < 0) : M.spent + x.refs.length ≤ M.bulk := by
  have h1 : ∀ l : List Tx, (l.map fun x => if x.at_ < 0 then 0 else x.refs.length).sum ≤ (l.map fun x => x.refs.length).sum := by
    intro l
    induction l with
    | nil => simp
    | cons a r ih =>
      simp only [List.map_cons, List.sum_cons]
      split <;> omega
  have l2 := (live_iff.1 hl).2.1
  have a := sum_set (fun x => if x.at_ < 0 then 0 else x.refs.length) M.txns (n - 1).toNat x ⟨0, [], false, -1⟩ l2
  have b := bulk_set M.txns (n - 1).toNat x ⟨0, [], false, -1⟩ l2
  have c := h1 (M.txns.set (n - 1).toNat ⟨0, [], false, -1⟩)
  unfold MV.spent MV.bulk
  dsimp only at a
  simp only [List.length_nil] at b
  rw [if_pos hat, if_pos (show (-1 : Int) < 0 by omega)] at a
  omega

theorem refs_bulk {M : MV} {n : Int} {x : Tx} (hl : M.live? n = some x) : x.refs.length ≤ M.bulk := by
  have b := bulk_set M.txns (n - 1).toNat x ⟨0, [], false, -1⟩ (live_iff.1 hl).2.1
  unfold MV.bulk
  simp only [List.length_nil] at b
  omega

theorem bulk_begin (M : MV) : M.begin.bulk = M.bulk := by
  unfold MV.begin
  split
  · simp [MV.bulk, MV.add]
  · rfl

theorem bulk_touch (M : MV) (n : Int) (rs : List Rf) : (M.touch n rs).bulk ≤ M.bulk + rs.length := by
  unfold MV.touch
  split
  · omega
  · rename_i x hx
    have b := bulk_set M.txns (n - 1).toNat x { x with refs := x.refs ++ rs } (live_iff.1 hx).2.1
    unfold MV.bulk MV.put
    simp only [List.length_append] at b
    dsimp only
    omega

theorem bulk_over (M : MV) (n : Int) : (M.over n).bulk = M.bulk := by
  unfold MV.over
  split
  · rfl
  · rename_i x hx
    have b := bulk_set M.txns (n - 1).toNat x { x with live := false } (live_iff.1 hx).2.1
    unfold MV.bulk MV.put
    dsimp only at b ⊢
    omega

theorem bulk_commit (M : MV) (n : Int) : (M.commit n).bulk = M.bulk := by
  unfold MV.commit
  split
  · rename_i hc
    cases hl : M.live? n with
    | none => unfold MV.refsOf at hc; rw [hl] at hc; exact absurd rfl hc.2
    | some x =>
      have b := bulk_set M.txns (n - 1).toNat x { x with at_ := M.last + 1, live := false } (live_iff.1 hl).2.1
      rw [over_win hl]
      unfold MV.bulk
      dsimp only at b ⊢
      omega
  · exact bulk_over M n

theorem len_begin (M : MV) : M.begin.txns.length ≤ M.txns.length + 1 := by
  unfold MV.begin
  split
  · simp [MV.add]
  · omega

theorem len_touch (M : MV) (n : Int) (rs : List Rf) : (M.touch n rs).txns.length = M.txns.length := by
  unfold MV.touch
  split
  · rfl
  · simp [MV.put]

theorem len_over (M : MV) (n : Int) : (M.over n).txns.length = M.txns.length := by
  unfold MV.over
  split
  · rfl
  · simp [MV.put]

theorem len_commit (M : MV) (n : Int) : (M.commit n).txns.length = M.txns.length := by
  unfold MV.commit
  split
  · rename_i hc
    cases hl : M.live? n with
    | none => unfold MV.refsOf at hc; rw [hl] at hc; exact absurd rfl hc.2
    | some x => rw [over_win hl]; simp
  · exact len_over M n

/-! ### A table by its own blocks -/

/-- In w the table in block g stands for M; its own blocks are those of which S holds. -/
def Tb (w : World) (g : Nat) (S : Nat → Prop) (M : MV) : Prop := ∃ lb cb bl, MvAt w g lb cb bl M ∧ M.Calm ∧ ∀ k, OwnM g lb cb bl M k ↔ S k

/-- What becomes of it. -/
def Turn (w : World) (g : Nat) (S : Nat → Prop) (M' : MV) (w' : World) : Prop := ∃ S', Tb w' g S' M' ∧ Mod S w w' ∧ ∀ k, S' k → S k ∨ w.heap.size ≤ k

section

variable {w w' : World} {g : Nat} {S : Nat → Prop} {M : MV}

theorem Tb.lt (h : Tb w g S M) {k : Nat} (hk : S k) : k < w.heap.size := by
  obtain ⟨lb, cb, bl, h1, _, h2⟩ := h
  exact h1.own_lt ((h2 k).2 hk)

theorem Tb.ok (h : Tb w g S M) : M.Ok := by obtain ⟨lb, cb, bl, h1, _, _⟩ := h; exact h1.ok

theorem Tb.calm (h : Tb w g S M) : M.Calm := by obtain ⟨lb, cb, bl, _, h1, _⟩ := h; exact h1

theorem Tb.mod {S' : Nat → Prop} (h : Tb w g S M) (hm : Mod S' w w') (hn : ∀ k, S k → ¬ S' k) : Tb w' g S M := by
  obtain ⟨lb, cb, bl, h1, h2, h3⟩ := h
  exact ⟨lb, cb, bl, h1.mod hm fun k hk => hn k ((h3 k).1 hk), h2, h3⟩

theorem Tb.below (h : Tb w g S M) (hb : Below w.heap.size w w') : Tb w' g S M := h.mod (Mod.of_below hb fun _ => False) fun _ _ => id

theorem Tb.offR (h : Tb w g S M) {B : Nat} {v : Value} {rs : List Rf} (hv : RR w B v rs) : Off S v rs := by
  obtain ⟨lb, cb, bl, h1, h2, h3⟩ := h
  exact (h1.offR hv).mono fun k hk => (h3 k).2 hk

theorem Tb.not_row (h : Tb w g S M) {b : Nat} {cs : Array Value} {t : TypeId} {fr : Nat × Nat} (hb : w.heap[b]? = some (.cells cs t fr)) (ht : t ≠ 60) : ¬ S b := by
  obtain ⟨lb, cb, bl, h1, h2, h3⟩ := h
  exact fun hk => h1.ne_row hb ht ((h3 b).2 hk)

theorem turn_of {lb cb : Nat} {bl bl' : Int → Nat} {M' : MV} (h1 : MvAt w' g lb cb bl' M') (h2 : M'.Calm) (hm : Mod (OwnM g lb cb bl M) w w') (ho : ∀ k, OwnM g lb cb bl' M' k → OwnM g lb cb bl M k ∨ w.heap.size ≤ k) (hS : ∀ k, OwnM g lb cb bl M k ↔ S k) : Turn w g S M' w' :=
  ⟨OwnM g lb cb bl' M', ⟨lb, cb, bl', h1, h2, fun _ => Iff.rfl⟩, hm.mono fun k _ hk => (hS k).1 hk, fun k hk => (ho k hk).imp (hS k).1 id⟩

theorem turn_same (h : Tb w g S M) (hb : Below w.heap.size w w') : Turn w g S M w' := ⟨S, h.below hb, Mod.of_below hb S, fun k hk => .inl hk⟩

end

theorem tNew (w : World) (last : Int) (hl : I64 last) :
    Calls Try.prog 8 #[.int .i64 last] w fun e w' => e = .returned (.pointer (some ⟨w.heap.size + 2, 0, none⟩)) ∧ (∃ S, Tb w' (w.heap.size + 2) S (MV.new last) ∧ ∀ k, S k → w.heap.size ≤ k) ∧ Below w.heap.size w w' := by
  refine (New_any w last hl).mono ?_
  rintro e w' ⟨rfl, h1, h2, h3⟩
  refine ⟨rfl, ⟨_, ⟨_, _, _, h1, calm_new last, fun _ => Iff.rfl⟩, ?_⟩, h2⟩
  rintro k (rfl | rfl | rfl | ⟨n, x, hx, _⟩)
  · omega
  · omega
  · omega
  · have := live_lt hx
    simp [MV.new] at this
    omega

theorem tBegin (w : World) (g : Nat) (S : Nat → Prop) (M : MV) (h : Tb w g S M) (hc : M.txns.length < 4611686018427387904) :
    Calls Try.prog 18 #[.pointer (some ⟨g, 0, none⟩)] w fun e w' => e = .returned (.tuple #[.int .i64 M.beginN, .int .i64 M.beginE]) ∧ Turn w g S M.begin w' := by
  have h0 := h
  obtain ⟨lb, cb, bl, h1, h2, h3⟩ := h
  by_cases hf : M.nums.length < 8
  · refine (Begin_room w g lb cb bl M h1 _ rfl hf hc).mono ?_
    rintro e w' ⟨rfl, bl', h4, h5, h6⟩
    have e1 : M.begin = M.add := by unfold MV.begin; rw [if_pos hf]
    have e2 : M.beginN = (M.txns.length : Int) + 1 := by unfold MV.beginN; rw [if_pos hf]
    have e3 : M.beginE = 0 := by unfold MV.beginE; rw [if_pos hf]
    rw [e2, e3]
    exact ⟨rfl, turn_of (by rw [e1]; exact h4) (calm_begin h2) h5 (by rw [e1]; exact h6) h3⟩
  · have h8 := h1.ok.few
    refine (Begin_full w g lb cb bl M h1 (by omega)).mono ?_
    rintro e w' ⟨rfl, rfl⟩
    have e1 : M.begin = M := by unfold MV.begin; rw [if_neg hf]
    have e2 : M.beginN = 0 := by unfold MV.beginN; rw [if_neg hf]
    have e3 : M.beginE = 142 := by unfold MV.beginE; rw [if_neg hf]
    rw [e1, e2, e3]
    exact ⟨rfl, turn_same h0 (Below.refl _ _)⟩

theorem tTouch (w : World) (g : Nat) (S : Nat → Prop) (M : MV) (h : Tb w g S M) (n : Int) (hn : I64 n) (v : Value) (rs : List Rf) (hv : RR w w.heap.size v rs) (hr : ∀ r ∈ rs, I64 r.snd) (hb : M.bulk + rs.length ≤ 4611686018427387904) :
    Calls Try.prog 19 #[.pointer (some ⟨g, 0, none⟩), .int .i64 n, v] w fun e w' => e = .returned (.int .i64 (M.touchE n)) ∧ Turn w g S (M.touch n rs) w' := by
  have h0 := h
  obtain ⟨lb, cb, bl, h1, h2, h3⟩ := h
  cases hl : M.live? n with
  | none =>
    refine (Touch_none w g lb cb bl M h1 n hn hl v).mono ?_
    rintro e w' ⟨rfl, h4⟩
    have e1 : M.touch n rs = M := by unfold MV.touch; rw [hl]
    have e2 : M.touchE n = 141 := by unfold MV.touchE; rw [hl]; rfl
    rw [e1, e2]
    exact ⟨rfl, turn_same h0 h4⟩
  | some x =>
    have := refs_bulk hl
    refine (Touch_some w g lb cb bl M h1 n hn x hl (calm_live h2 hl) v rs hv hr (by omega)).mono ?_
    rintro e w' ⟨rfl, h4, h5, h6⟩
    have e2 : M.touchE n = 0 := by unfold MV.touchE; rw [hl]; rfl
    rw [e2]
    exact ⟨rfl, turn_of h4 (calm_touch h2 n rs) h5 (fun k hk => .inl (h6 k hk)) h3⟩

theorem tStart (w : World) (g : Nat) (S : Nat → Prop) (M : MV) (h : Tb w g S M) (n : Int) (hn : I64 n) :
    Calls Try.prog 20 #[.pointer (some ⟨g, 0, none⟩), .int .i64 n] w fun e w' => e = .returned (.tuple #[.int .i64 (M.startOf n), .int .i64 (M.touchE n)]) ∧ Below w.heap.size w w' := by
  obtain ⟨lb, cb, bl, h1, h2, h3⟩ := h
  cases hl : M.live? n with
  | none =>
    have e1 : M.startOf n = 0 := by unfold MV.startOf; rw [hl]
    have e2 : M.touchE n = 141 := by unfold MV.touchE; rw [hl]; rfl
    rw [e1, e2]
    exact Start_none w g lb cb bl M h1 n hn hl
  | some x =>
    have e1 : M.startOf n = x.start := by unfold MV.startOf; rw [hl]
    have e2 : M.touchE n = 0 := by unfold MV.touchE; rw [hl]; rfl
    rw [e1, e2]
    exact Start_some w g lb cb bl M h1 n hn x hl

theorem tTry (w : World) (g : Nat) (S : Nat → Prop) (M : MV) (h : Tb w g S M) (n : Int) (hn : I64 n) :
    Calls Try.prog 24 #[.pointer (some ⟨g, 0, none⟩), .int .i64 n] w fun e w' => e = .returned (.int .i64 (M.tryE n)) ∧ Below w.heap.size w w' := by
  obtain ⟨lb, cb, bl, h1, h2, h3⟩ := h
  cases hl : M.live? n with
  | none => exact Try_none w g lb cb bl M h1 n hn hl
  | some x => exact Try_some w g lb cb bl M h1 n hn x hl

theorem tAbort (w : World) (g : Nat) (S : Nat → Prop) (M : MV) (h : Tb w g S M) (n : Int) (hn : I64 n) :
    Calls Try.prog 22 #[.pointer (some ⟨g, 0, none⟩), .int .i64 n] w fun e w' => e = .returned (.int .i64 (M.touchE n)) ∧ Turn w g S (M.over n) w' := by
  have h0 := h
  obtain ⟨lb, cb, bl, h1, h2, h3⟩ := h
  cases hl : M.live? n with
  | none =>
    refine (Abort_none w g lb cb bl M h1 n hn hl).mono ?_
    rintro e w' ⟨rfl, h4⟩
    have e1 : M.over n = M := by unfold MV.over; rw [hl]
    have e2 : M.touchE n = 141 := by unfold MV.touchE; rw [hl]; rfl
    rw [e1, e2]
    exact ⟨rfl, turn_same h0 h4⟩
  | some x =>
    refine (Abort_some w g lb cb bl M h1 n hn x hl).mono ?_
    rintro e w' ⟨rfl, h4, h5, h6⟩
    have e2 : M.touchE n = 0 := by unfold MV.touchE; rw [hl]; rfl
    rw [e2]
    exact ⟨rfl, turn_of h4 (calm_over h2 n) h5 (fun k hk => .inl (h6 k hk)) h3⟩

theorem tCommit (w : World) (g : Nat) (S : Nat → Prop) (M : MV) (h : Tb w g S M) (n : Int) (hn : I64 n) (hb : M.bulk ≤ 4611686018427387904) :
    Calls Try.prog 21 #[.pointer (some ⟨g, 0, none⟩), .int .i64 n] w fun e w' => e = .returned (.tuple #[.int .i64 (M.commitT n), .int .i64 (M.tryE n)]) ∧ Turn w g S (M.commit n) w' := by
  have h0 := h
  obtain ⟨lb, cb, bl, h1, h2, h3⟩ := h
  cases hl : M.live? n with
  | none =>
    have e3 : M.tryE n = 141 := by unfold MV.tryE; rw [hl]
    have e1 : M.commit n = M := by unfold MV.commit MV.over; rw [e3, if_neg (by intro h; cases h.1), hl]
    have e2 : M.commitT n = 0 := by unfold MV.commitT; rw [e3]; rfl
    refine (Commit_none w g lb cb bl M h1 n hn hl).mono ?_
    rintro e w' ⟨rfl, h4⟩
    rw [e1, e2, e3]
    exact ⟨rfl, turn_same h0 h4⟩
  | some x =>
    have hat := calm_live h2 hl
    have hsp := spent_bulk hl hat
    have er : M.refsOf n = x.refs := by unfold MV.refsOf; rw [hl]
    have es : M.startOf n = x.start := by unfold MV.startOf; rw [hl]
    by_cases h00 : M.tryE n = 0
    · by_cases hr : x.refs = []
      · have e1 : M.commit n = M.over n := by unfold MV.commit; rw [er, if_neg (fun h => h.2 hr)]
        have e2 : M.commitT n = x.start := by unfold MV.commitT; rw [if_pos h00, er, if_pos hr, es]
        refine (Commit_zero w g lb cb bl M h1 n hn x hl h00 hr).mono ?_
        rintro e w' ⟨rfl, h4, h5, h6⟩
        rw [e1, e2, h00]
        exact ⟨rfl, turn_of h4 (calm_over h2 n) h5 (fun k hk => .inl (h6 k hk)) h3⟩
      · have e1 : M.commit n = (M.win n).over n := by unfold MV.commit; rw [er, if_pos ⟨h00, hr⟩]
        have e2 : M.commitT n = M.last + 1 := by unfold MV.commitT; rw [if_pos h00, er, if_neg hr]
        refine (Commit_win w g lb cb bl M h1 n hn x hl hat h00 hr (by omega)).mono ?_
        rintro e w' ⟨rfl, h4, h5, h6⟩
        rw [e2, h00]
        exact ⟨rfl, turn_of (by rw [e1]; exact h4) (calm_commit h2 n) h5 (fun k hk => .inl (h6 k (by rw [← e1]; exact hk))) h3⟩
    · have e1 : M.commit n = M.over n := by unfold MV.commit; rw [if_neg (fun h => h00 h.1)]
      have e2 : M.commitT n = 0 := by unfold MV.commitT; rw [if_neg h00]
      have hn1 : (M.tryE n == 141) = false := by rcases try_cases hl with e | e | e <;> rw [e] <;> decide
      refine (Commit_fail w g lb cb bl M h1 n hn x hl _ rfl hn1 (by simpa using h00)).mono ?_
      rintro e w' ⟨rfl, h4, h5, h6⟩
      rw [e1, e2]
      exact ⟨rfl, turn_of h4 (calm_over h2 n) h5 (fun k hk => .inl (h6 k hk)) h3⟩

theorem tLast (w : World) (g : Nat) (S : Nat → Prop) (M : MV) (h : Tb w g S M) :
    Calls Try.prog 13 #[.pointer (some ⟨g, 0, none⟩)] w fun e w' => e = .returned (.int .i64 M.last) ∧ w' = w := by
  obtain ⟨lb, cb, bl, h1, _⟩ := h
  exact Last_any w g lb cb bl M h1

theorem tHorizon (w : World) (g : Nat) (S : Nat → Prop) (M : MV) (h : Tb w g S M) :
    Calls Try.prog 14 #[.pointer (some ⟨g, 0, none⟩)] w fun e w' => e = .returned (.int .i64 M.hor) ∧ Below w.heap.size w w' := by
  obtain ⟨lb, cb, bl, h1, _⟩ := h
  exact Horizon_any w g lb cb bl M h1

theorem tLive (w : World) (g : Nat) (S : Nat → Prop) (M : MV) (h : Tb w g S M) :
    Calls Try.prog 12 #[.pointer (some ⟨g, 0, none⟩)] w fun e w' => ∃ v, e = .returned v ∧ OK encI 1 3 w' w.heap.size v M.nums ∧ Below w.heap.size w w' := by
  obtain ⟨lb, cb, bl, h1, _⟩ := h
  exact Live_any w g lb cb bl M h1

end Go.Proofs.Ytgahkloldpjnkaa
