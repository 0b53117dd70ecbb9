/-
  The walk of skeinref07's Later; rows that lie apart from a log.
-/
import Derived.Test.YtplkdcegfpiofaaZV31
namespace Go.Proofs.Ytplkdcegfpiofaa
open Go.RowKit Go.Maps
set_option linter.unusedVariables false

theorem encF_one (x : Int × Int) : ∀ u ∈ encF x, u.oneCell' = true := by
  intro u hu
  simp only [encF, List.mem_cons, List.not_mem_nil, or_false] at hu
  rcases hu with rfl | rfl <;> rfl
theorem etF : ElemT 31 110 2 16 := elemT_of (z := .agg #[.int .i64 0, .int .i64 0]) Try.underlying31 (by kernel_rfl) (by kernel_rfl) (by decide) (by decide) (by decide)
theorem RK.one_ {α : Type} {enc : α → List Value} {k : Nat} (hk : ∀ x, (enc x).length = k) (W : World) (t : TypeId) (cs : Array Value) (y : α) (h : cs.toList = enc y) (hsmall : k ≤ 1000) : RK enc k (W.alloc (.cells cs t)) (W.heap.size + 1) (.slice (some ⟨W.heap.size, 0, none⟩) 1 1) [y] := by
  refine ⟨by simp; omega, some ⟨W.heap.size, 0, none⟩, 1, rfl, by simp, by omega, .inr ⟨W.heap.size, 0, rfl, by omega, fun i x hx j u hu => ?_⟩⟩
  match i, hx with
  | 0, hx =>
    simp at hx
    subst hx
    rw [Nat.zero_mul, Nat.zero_add, (Blk.new W t cs).cell j, ← Array.getElem?_toList, h]
    exact hu
  | i + 1, hx => simp at hx

/-- Rows of structs lie apart from a log and its disk. -/
theorem row_apart {α : Type} {enc : α → List Value} {k E : Nat} {w : World} {p sb mb g B base : Nat} {pl : Option Nat} {s : DS} {sv bv v : Value} {m : LG} {xs : List α} (h : WalAt w p sb mb pl s g B sv bv m) (hv : OK enc k E w base v xs)
    (h1 : E ≠ 130) (h2 : E ≠ 95) (h3 : E ≠ 97) (h4 : E ≠ 5) (h5 : E ≠ 3) : ∀ b, v.ownBlock = some b → ¬ OwnW p sb mb g b ∧ ¬ OwnL g sv bv b ∧ pl ≠ some b := by
  intro b hb
  rcases hv.2.2 with ⟨e, _⟩ | ⟨g', cap, cur, e, _, hg', _⟩
  · rw [e] at hb; cases hb
  · rw [e] at hb
    simp only [Value.ownBlock] at hb
    injection hb with hb
    subst hb
    have hblk : Blk w g' E cur := hg'
    have hmap : ∀ {q : Value → Prop} {b n : Nat} {f : Int → Option Value}, MapI q w b n f → g' ≠ b := fun hm e => hm.cells_ne hblk e.symm
    have hrow : ∀ {u : Value} {E' k' n' : Nat} {l : List Value} {B' : Nat}, w.ownsRow B' E' k' u n' l → E ≠ E' → u.ownBlock ≠ some g' := by
      intro u E' k' n' l B' ho hne hu
      rcases ho.2 with ⟨e, _⟩ | ⟨g2, cap2, cur2, e, _, hg2, _⟩
      · rw [e] at hu; cases hu
      · rw [e] at hu
        simp only [Value.ownBlock] at hu
        injection hu with hu
        subst hu
        exact hblk.ne_ (t' := E') (cs' := cur2) hg2 hne rfl
    obtain ⟨nm, hmb⟩ := h.dk.pend
    refine ⟨fun ho => ?_, fun ho => ?_, fun hp => ?_⟩
    · rcases ho with (ho | ho | ho) | ho
      · exact hblk.ne_ h.dk.blk h2 ho
      · exact hblk.ne_ h.dk.rows.blk h3 ho
      · exact hmap hmb ho
      · exact hblk.ne_ h.lg.blk h1 ho
    · rcases ho with ho | ho | ho
      · exact hblk.ne_ h.lg.blk h1 ho
      · exact hrow h.lg.st.2.2 h4 ho
      · exact hrow h.lg.begs.2 h5 ho
    · rcases h.dk.plan with ⟨h6, _⟩ | ⟨b', n', f', h6, _, h7, _⟩
      · rw [h6] at hp; cases hp
      · rw [h6] at hp; injection hp with hp
        exact hmap h7 hp.symm
/-- A log and its disk, when a row that lies apart grows. -/
theorem WalAt.row_grown {w w' : World} {p sb mb g B : Nat} {pl : Option Nat} {s : DS} {sv bv v : Value} {m : LG} (h : WalAt w p sb mb pl s g B sv bv m) (ha : ∀ b, v.ownBlock = some b → ¬ OwnW p sb mb g b ∧ ¬ OwnL g sv bv b ∧ pl ≠ some b) (hg : w.grownBy w' v.ownBlock) : WalAt w' p sb mb pl s g B sv bv m := by
  have hm := Mod.of_grown hg
  refine ⟨h.dk.mod hm ?_ ?_ ?_ ?_, h.lg.mod hm ?_, h.sep, h.pl⟩
  · intro e; exact (ha p e.symm).1 (.inl (.inl rfl))
  · intro e; exact (ha sb e.symm).1 (.inl (.inr (.inl rfl)))
  · intro e; exact (ha mb e.symm).1 (.inl (.inr (.inr rfl)))
  · intro b hb e; exact (ha b e.symm).2.2 hb
  · intro k hk e; exact (ha k e.symm).2.1 hk
end Go.Proofs.Ytplkdcegfpiofaa

/-
  WalCrash between two rounds: what is known, and how each call keeps it. No walk.
-/
namespace Go.Proofs.Ytplkdcegfpiofaa
open Go.RowKit Go.Maps
set_option linter.unusedVariables false

theorem WalAt.planned2 {w w' : World} {p sb mb plb g B : Nat} {pl : Option Nat} {s s' : DS} {sv bv : Value} {m : LG} (h : WalAt w p sb mb pl s g B sv bv m) (hd : DiskAt w' p sb mb (some plb) s') (hm : Mod (fun k => k = p) w w') (hp : w.heap.size ≤ plb) : WalAt w' p sb mb (some plb) s' g B sv bv m := by
  refine ⟨hd, h.lg.mod hm (fun k hk e => ?_), h.sep, fun b hb hk => ?_⟩
  · have := (h.lg.own k hk).1; have := h.sep; omega
  · injection hb with hb
    have := (h.lg.own b hk).2
    omega
theorem lsn_cast (m : LG) (a : Nat) : (m.lsn a : Int) = (m.run : Int) * 16777216 + (a : Int) := by unfold LG.lsn; omega
set_option maxRecDepth 100000 in
theorem flush_steps {m : LG} {c : Nat} (hc : m.st.length ≤ c * 498) (h1 : 1 ≤ c) (s : DS) : (m.flush s).1.steps ≤ s.steps + c + 1 := by
  unfold LG.flush
  obtain ⟨q, hq⟩ : ∃ q, q = m.safe / 498 := ⟨_, rfl⟩
  have hb : m.st.length ≤ (q + c) * 498 := by have := Nat.add_mul q c 498; omega
  have h2 := steps_save (run := m.run) (st := m.st) (m.first : Int) c m.st.length q s hb h1
  rw [hq] at h2
  split
  · dsimp only; omega
  · split
    · dsimp only; omega
    · split
      · exact h2
      · exact h2
theorem reset_steps (m : LG) (s : DS) : (m.reset s).1.steps ≤ s.steps + 2 := by
  unfold LG.reset
  have h2 := steps_save (run := m.most + 1) (st := []) (m.first : Int) 1 1 0 s (by simp) (by omega)
  split
  · dsimp only; omega
  · split
    · dsimp only; omega
    · split
      · exact h2
      · exact h2
/-- What is known of the log, of its disk and of the law's rows behind k calls. -/
structure CrashAt (w wr : World) (p sb mb g B : Nat) (pl : Option Nat) (s : DS) (m : LG) (sv bv kv tv : Value) (ks ts : List RecV) (rs : List RecT) (maybe : Bool) (last : Int) (k count : Nat) : Prop where
  wal : WalAt wr p sb mb pl s g B sv bv m
  hz : w.heap.size ≤ p ∧ w.heap.size ≤ sb ∧ w.heap.size ≤ mb ∧ w.heap.size ≤ B
  below : Below w.heap.size w wr
  kr : OK encRec 3 64 wr w.heap.size kv ks
  tr : OK encRec 3 64 wr w.heap.size tv ts
  far : kv.ownBlock = none ∨ kv.ownBlock ≠ tv.ownBlock
  bodies : ∀ x ∈ ks ++ ts, RB w w.heap.size x.v x.body
  told : (ks ++ ts).map RecV.told = toldOf m rs
  last : last < (m.lsn m.st.length : Int)
  steps : s.steps ≤ 4 + 20 * k
  first : m.first = 1
  cnt : m.count = count
  cnt9 : count ≤ 9
  most : m.most ≤ 2 + 2 * k
  recs : Recs m rs
  safe : (strm (rs.take ks.length)).length ≤ m.safe
  st : (m.dead = false ∧ Good s m rs ∧ m.fresh = true) ∨ (m.dead = true ∧ Crash s m rs ks.length maybe)
section
variable {w wr w' : World} {p sb mb g B : Nat} {pl : Option Nat} {s : DS} {m : LG} {sv bv kv tv : Value} {ks ts : List RecV} {rs : List RecT} {maybe : Bool} {last : Int} {k count : Nat}
theorem CrashAt.below_ (h : CrashAt w wr p sb mb g B pl s m sv bv kv tv ks ts rs maybe last k count) (hb : Below wr.heap.size wr w') : CrashAt w w' p sb mb g B pl s m sv bv kv tv ks ts rs maybe last k count :=
  ⟨h.wal.below hb, h.hz, h.below.trans (hb.mono h.below.size), h.kr.below hb, h.tr.below hb, h.far, h.bodies, h.told, h.last, h.steps, h.first, h.cnt, h.cnt9, h.most, h.recs, h.safe, h.st⟩
theorem CrashAt.next (h : CrashAt w wr p sb mb g B pl s m sv bv kv tv ks ts rs maybe last k count) : CrashAt w wr p sb mb g B pl s m sv bv kv tv ks ts rs maybe last (k + 1) count :=
  ⟨h.wal, h.hz, h.below, h.kr, h.tr, h.far, h.bodies, h.told, h.last, by have := h.steps; omega, h.first, h.cnt, h.cnt9, by have := h.most; omega, h.recs, h.safe, h.st⟩
theorem CrashAt.apartK (h : CrashAt w wr p sb mb g B pl s m sv bv kv tv ks ts rs maybe last k count) : ∀ b, kv.ownBlock = some b → ¬ OwnW p sb mb g b ∧ ¬ OwnL g sv bv b ∧ pl ≠ some b := row_apart h.wal h.kr (by decide) (by decide) (by decide) (by decide) (by decide)
theorem CrashAt.apartT (h : CrashAt w wr p sb mb g B pl s m sv bv kv tv ks ts rs maybe last k count) : ∀ b, tv.ownBlock = some b → ¬ OwnW p sb mb g b ∧ ¬ OwnL g sv bv b ∧ pl ≠ some b := row_apart h.wal h.tr (by decide) (by decide) (by decide) (by decide) (by decide)
theorem CrashAt.lens (h : CrashAt w wr p sb mb g B pl s m sv bv kv tv ks ts rs maybe last k count) : ks.length + ts.length = rs.length ∧ rs.length ≤ 2241 := by
  have h1 := congrArg List.length h.told
  rw [List.length_map, List.length_append, toldOf_len] at h1
  have h2 := strm_ge rs
  have h3 := h.wal.lg.ok.st
  have h4 := h.recs.st
  have h5 := h.cnt
  have h6 := h.cnt9
  rw [← h4] at h2
  rw [h5] at h3
  have : count * 498 ≤ 9 * 498 := Nat.mul_le_mul_right _ h6
  omega
theorem CrashAt.rowK (h : CrashAt w wr p sb mb g B pl s m sv bv kv tv ks ts rs maybe last k count) : RecRow wr kv ks := ⟨h.kr.rk encRec_len (Nat.le_refl _), fun x hx => ((h.bodies x (List.mem_append_left _ hx)).below h.below).more h.below.size⟩
theorem CrashAt.rowT (h : CrashAt w wr p sb mb g B pl s m sv bv kv tv ks ts rs maybe last k count) : RecRow wr tv ts := ⟨h.tr.rk encRec_len (Nat.le_refl _), fun x hx => ((h.bodies x (List.mem_append_right _ hx)).below h.below).more h.below.size⟩
theorem CrashAt.fsteps (h : CrashAt w wr p sb mb g B pl s m sv bv kv tv ks ts rs maybe last k count) : (m.flush s).1.steps ≤ s.steps + 10 := by
  have h1 := h.wal.lg.ok.st
  rw [h.cnt] at h1
  have h2 := Nat.mul_le_mul_right 498 h.cnt9
  exact flush_steps (c := 9) (Nat.le_trans h1 h2) (by omega) s
/-- Append that refuses. -/
theorem CrashAt.appendNo (h : CrashAt w wr p sb mb g B pl s m sv bv kv tv ks ts rs maybe last k count) {sv' bv' : Value} (hw : WalAt w' p sb mb pl s g B sv' bv' m) (hm : Mod (OwnL g sv bv) wr w') : CrashAt w w' p sb mb g B pl s m sv' bv' kv tv ks ts rs maybe last k count :=
  ⟨hw, h.hz, below_by h.below hm (h.wal.ownL h.hz.2.2.2), h.kr.mod hm (fun b hb => (h.apartK b hb).2.1), h.tr.mod hm (fun b hb => (h.apartT b hb).2.1), h.far, h.bodies, h.told, h.last, h.steps, h.first, h.cnt, h.cnt9, h.most, h.recs, h.safe, h.st⟩
/-- Append that takes the record, and the law's append. -/
theorem CrashAt.appendYes (h : CrashAt w wr p sb mb g B pl s m sv bv kv tv ks ts rs maybe last k count) {sv' bv' tv' : Value} {m' : LG} {w2 w3 : World} {o : Obj} {x : RecV} {r : RecT}
    (hw : WalAt w2 p sb mb pl s g B sv' bv' m') (hm : Mod (OwnL g sv bv) wr w2) (hg : Good s m' (rs ++ [r])) (hm' : m' = { m with st := m.st ++ recL r.1 r.2, begs := m.begs ++ [m.st.length] }) (hfr : m.fresh = true)
    (hx : x.told = (m.lsn m.st.length, r.1, r.2)) (hb : RB w w.heap.size x.v x.body) (k1 : OK encRec 3 64 w3 w.heap.size tv' (ts ++ [x])) (k2 : (w2.alloc o).grownBy w3 tv.ownBlock) (k3 : tv'.ownBlock = tv.ownBlock ∨ tv'.ownBlock = some (w2.alloc o).heap.size) :
    CrashAt w w3 p sb mb g B pl s m' sv' bv' kv tv' ks (ts ++ [x]) (rs ++ [r]) maybe (m.lsn m.st.length : Int) k count := by
  have hB2 : Below w.heap.size w w2 := below_by h.below hm (h.wal.ownL h.hz.2.2.2)
  have hk2 := h.kr.mod hm (fun b hb => (h.apartK b hb).2.1)
  have ht2 := h.tr.mod hm (fun b hb => (h.apartT b hb).2.1)
  have hwa : WalAt (w2.alloc o) p sb mb pl s g B sv' bv' m' := hw.below ((Below.refl _ _).alloc (Nat.le_refl _) o)
  have hta := ht2.alloc o
  have hap := row_apart hwa hta (by decide) (by decide) (by decide) (by decide) (by decide)
  have hlen := h.lens
  have hrun : m'.run = m.run := by rw [hm']
  have hst : m'.st = m.st ++ recL r.1 r.2 := by rw [hm']
  refine ⟨hwa.row_grown hap k2, h.hz, (hB2.alloc hB2.size o).grown k2 (by have := hB2.size; simp; omega) (fun b hb => (hta.lt b hb).1), (hk2.alloc o).kept k2 h.far, k1, ?_, ?_, ?_, ?_, h.steps, by rw [hm']; exact h.first, by rw [hm']; exact h.cnt, h.cnt9, by rw [hm']; exact h.most, hg.recs, ?_, .inl ⟨hg.dead, hg, by rw [hm']; exact hfr⟩⟩
  · rcases k3 with e | e
    · rw [e]; exact h.far
    · cases hkv : kv.ownBlock with
      | none => exact .inl rfl
      | some b =>
        refine .inr fun e2 => ?_
        rw [e] at e2
        injection e2 with e2
        have := (hk2.lt b hkv).2
        simp at e2
        omega
  · intro y hy
    rw [← List.append_assoc] at hy
    rcases List.mem_append.1 hy with hy | hy
    · exact h.bodies y hy
    · rw [List.mem_singleton.1 hy]; exact hb
  · rw [← List.append_assoc, List.map_append, h.told, toldOf_snoc, toldOf_run hrun, List.map_singleton, hx]
    have e : m'.lsn (strm rs).length = m.lsn m.st.length := by unfold LG.lsn; rw [hrun, h.recs.st]
    rw [e]
  · have h2 := recL_two r
    rw [lsn_cast, lsn_cast, hrun, hst, List.length_append]
    omega
  · rw [List.take_append_of_le_length (by omega), hm']
    exact h.safe
/-- Flush. -/
theorem CrashAt.flushNo (h : CrashAt w wr p sb mb g B pl s m sv bv kv tv ks ts rs maybe last k count) (hw : WalAt w' p sb mb pl (m.flush s).1 g B sv bv (m.flush s).2.1) (hm : Mod (OwnW p sb mb g) wr w') (he : (m.flush s).2.2 ≠ 0) (hk : k ≤ 2000000) :
    ∃ s' m', CrashAt w w' p sb mb g B pl s' m' sv bv kv tv ks ts rs maybe last (k + 1) count := by
  have hB : Below w.heap.size w w' := below_by h.below hm (h.wal.ownW h.hz)
  have hK := h.kr.mod hm (fun b hb => (h.apartK b hb).1)
  have hT := h.tr.mod hm (fun b hb => (h.apartT b hb).1)
  have hmo := h.most
  have hsteps := h.steps
  have hlen := h.lens
  rcases h.st with ⟨h1, h2, h3⟩ | ⟨h1, h2⟩
  · rcases h2.flush_cases (K := ks.length) (by omega) (by omega) h.safe maybe with ⟨e1, _⟩ | ⟨e1, e2, e3⟩
    · exact absurd e1 he
    · have hst := h.fsteps
      rw [e2] at hw
      exact ⟨_, _, hw, h.hz, hB, hK, hT, h.far, h.bodies, h.told, h.last, by omega, h.first, h.cnt, h.cnt9, by show m.most ≤ _; omega, ⟨h.recs.st, h.recs.begs, h.recs.ok⟩, h.safe, .inr ⟨rfl, e3⟩⟩
  · rw [dead_flush s h1] at hw
    exact ⟨_, _, hw, h.hz, hB, hK, hT, h.far, h.bodies, h.told, h.last, by dsimp only; omega, h.first, h.cnt, h.cnt9, by show m.most ≤ _; omega, h.recs, h.safe, .inr ⟨h1, h2⟩⟩
theorem CrashAt.flushYes (h : CrashAt w wr p sb mb g B pl s m sv bv kv tv ks ts rs maybe last k count) {w2 w3 : World} {kv' : Value} (hw : WalAt w2 p sb mb pl (m.flush s).1 g B sv bv (m.flush s).2.1) (hm : Mod (OwnW p sb mb g) wr w2) (he : (m.flush s).2.2 = 0) (hk : k ≤ 2000000)
    (k1 : OK encRec 3 64 w3 w.heap.size kv' (ks ++ ts)) (k2 : w2.grownBy w3 kv.ownBlock) : ∃ s' m', CrashAt w w3 p sb mb g B pl s' m' sv bv kv' (.slice none 0 0) (ks ++ ts) [] rs maybe last (k + 1) count := by
  have hB : Below w.heap.size w w2 := below_by h.below hm (h.wal.ownW h.hz)
  have hK := h.kr.mod hm (fun b hb => (h.apartK b hb).1)
  have hap := row_apart hw hK (by decide) (by decide) (by decide) (by decide) (by decide)
  have hmo := h.most
  have hsteps := h.steps
  have hlen := h.lens
  have hst := h.fsteps
  rcases h.st with ⟨h1, h2, h3⟩ | ⟨h1, h2⟩
  · rcases h2.flush_cases (K := ks.length) (by omega) (by omega) h.safe maybe with ⟨e1, e2, e3⟩ | ⟨e1, _⟩
    · refine ⟨(m.flush s).1, (m.flush s).2.1, hw.row_grown hap k2, h.hz, hB.grown k2 hB.size (fun b hb => (hK.lt b hb).1), k1, OK.nil _ _, ?_, by rw [List.append_nil]; exact h.bodies, ?_, ?_, by omega, by rw [e3]; exact h.first, by rw [e3]; exact h.cnt, h.cnt9, by rw [e3]; show m.most ≤ _; omega, e2.recs, ?_, .inl ⟨e2.dead, e2, by rw [e3]; exact h3⟩⟩
      · cases hkv : kv'.ownBlock with
        | none => exact .inl rfl
        | some b => exact .inr (by simp [Value.ownBlock])
      · rw [List.append_nil, h.told]
        exact (toldOf_run (by rw [e3])).symm
      · rw [e3]; exact h.last
      · rw [e3]
        show (strm (rs.take (ks ++ ts).length)).length ≤ m.st.length
        rw [h.recs.st]
        exact strm_take_le _ _
    · exact absurd he e1
  · rw [dead_flush s h1] at he
    exact absurd he (by simp)
/-- Reset. -/
theorem lsn_low {m : LG} {last : Int} (h : last < (m.lsn m.st.length : Int)) (hl : m.st.length < 16777216) {R : Nat} (hR : m.run + 1 ≤ R) : last < (R : Int) * 16777216 := by
  rw [lsn_cast] at h
  omega
theorem CrashAt.short (h : CrashAt w wr p sb mb g B pl s m sv bv kv tv ks ts rs maybe last k count) : m.st.length < 16777216 := by
  have h1 := h.wal.lg.ok.st
  rw [h.cnt] at h1
  have h2 := Nat.mul_le_mul_right 498 h.cnt9
  omega
theorem CrashAt.resetYes (h : CrashAt w wr p sb mb g B pl s m sv bv kv tv ks ts rs maybe last k count) {sv' bv' : Value} (hw : WalAt w' p sb mb pl (m.reset s).1 g B sv' bv' (m.reset s).2.1) (hm : Mod (OwnW p sb mb g) wr w') (he : (m.reset s).2.2 = 0) (hk : k ≤ 2000000) :
    ∃ s' m', CrashAt w w' p sb mb g B pl s' m' sv' bv' (.slice none 0 0) (.slice none 0 0) [] [] [] false last (k + 1) count := by
  have hB : Below w.heap.size w w' := below_by h.below hm (h.wal.ownW h.hz)
  have hmo := h.most
  have hsteps := h.steps
  have hst := reset_steps m s
  have hlen := h.lens
  have hrm := h.wal.lg.ok.run.1
  rcases h.st with ⟨h1, h2, h3⟩ | ⟨h1, h2⟩
  · rcases h2.reset_cases (K := ks.length) (by omega) (by omega) h.safe with ⟨e1, e2, e3⟩ | ⟨e1, _⟩
    · rw [e3] at hw
      refine ⟨_, _, hw, h.hz, hB, OK.nil _ _, OK.nil _ _, .inl rfl, by simp, rfl, ?_, by omega, h.first, h.cnt, h.cnt9, by show m.most + 1 ≤ _; omega, e2.recs, Nat.zero_le _, .inl ⟨e2.dead, e2, rfl⟩⟩
      have := lsn_low h.last h.short (R := m.most + 1) (by omega)
      have e : (m.anew.lsn m.anew.st.length : Int) = ((m.most + 1 : Nat) : Int) * 16777216 := by
        rw [lsn_cast]
        show ((m.most + 1 : Nat) : Int) * 16777216 + ((0 : Nat) : Int) = _
        omega
      rw [e]; exact this
    · exact absurd he e1
  · rw [dead_reset s h1] at he
    exact absurd he (by simp)
theorem CrashAt.resetNo (h : CrashAt w wr p sb mb g B pl s m sv bv kv tv ks ts rs maybe last k count) {sv' bv' : Value} (hw : WalAt w' p sb mb pl (m.reset s).1 g B sv' bv' (m.reset s).2.1) (hm : Mod (OwnW p sb mb g) wr w') (he : (m.reset s).2.2 ≠ 0) (hk : k ≤ 2000000) :
    ∃ s' m', ((m.reset s).2.2 ≠ 91 ∧ CrashAt w w' p sb mb g B pl s' m' sv' bv' kv tv ks ts rs true last (k + 1) count) ∨ ((m.reset s).2.2 = 91 ∧ CrashAt w w' p sb mb g B pl s' m' sv' bv' kv tv ks ts rs maybe last (k + 1) count) := by
  have hB : Below w.heap.size w w' := below_by h.below hm (h.wal.ownW h.hz)
  have hK := h.kr.mod hm (fun b hb => (h.apartK b hb).1)
  have hT := h.tr.mod hm (fun b hb => (h.apartT b hb).1)
  have hmo := h.most
  have hsteps := h.steps
  have hst := reset_steps m s
  have hlen := h.lens
  rcases h.st with ⟨h1, h2, h3⟩ | ⟨h1, h2⟩
  · rcases h2.reset_cases (K := ks.length) (by omega) (by omega) h.safe with ⟨e1, _⟩ | ⟨e1, e2, e3, e4⟩
    · exact absurd e1 he
    · rw [e3] at hw
      exact ⟨_, _, .inl ⟨e2, hw, h.hz, hB, hK, hT, h.far, h.bodies, h.told, h.last, by omega, h.first, h.cnt, h.cnt9, by show m.most ≤ _; omega, ⟨h.recs.st, h.recs.begs, h.recs.ok⟩, h.safe, .inr ⟨rfl, e4⟩⟩⟩
  · rw [dead_reset s h1] at hw ⊢
    exact ⟨_, _, .inr ⟨rfl, hw, h.hz, hB, hK, hT, h.far, h.bodies, h.told, h.last, by dsimp only; omega, h.first, h.cnt, h.cnt9, by show m.most ≤ _; omega, h.recs, h.safe, .inr ⟨h1, h2⟩⟩⟩
/-- Plan. -/
theorem CrashAt.plan (h : CrashAt w wr p sb mb g B pl s m sv bv kv tv ks ts rs maybe last k count) {plb : Nat} {fs : List (Int × Int)} (hd : DiskAt w' p sb mb (some plb) (s.planned fs)) (hm : Mod (fun j => j = p) wr w') (hp : wr.heap.size ≤ plb) :
    CrashAt w w' p sb mb g B (some plb) (s.planned fs) m sv bv kv tv ks ts rs maybe last k count := by
  have hK := h.kr.mod hm (fun b hb e => (h.apartK b hb).1 (.inl (.inl e)))
  have hT := h.tr.mod hm (fun b hb e => (h.apartT b hb).1 (.inl (.inl e)))
  exact ⟨h.wal.planned2 hd hm hp, h.hz, below_by h.below hm (fun j hj => by have := h.hz; omega), hK, hT, h.far, h.bodies, h.told, h.last, h.steps, h.first, h.cnt, h.cnt9, h.most, h.recs, h.safe, h.st.imp (fun ⟨a, b, c⟩ => ⟨a, b.planned fs, c⟩) (fun ⟨a, b⟩ => ⟨a, b.planned fs⟩)⟩
/-- What a crash leaves. -/
structure After (s s' : DS) (m : LG) (ks ts : List RecV) (maybe : Bool) (last : Int) (k count : Nat) : Prop where
  off : s'.off = false
  len : 1 + count ≤ s'.safe.length
  log : isLog (s'.has 1)
  got : ∀ xs : List RecV, xs.map RecV.told = (LG.opened s' 1 count).tells → (ks.length ≤ xs.length ∧ xs.length ≤ ks.length + ts.length ∧ xs.map RecV.told = ((ks ++ ts).map RecV.told).take xs.length) ∨ (xs.length < ks.length ∧ maybe = true ∧ xs.length = 0)
  res : ((LG.opened s' 1 count).reset s').2.2 = 0
  good : Good ((LG.opened s' 1 count).reset s').1 (LG.opened s' 1 count).anew []
  anew : ((LG.opened s' 1 count).reset s').2.1 = (LG.opened s' 1 count).anew
  steps : ((LG.opened s' 1 count).reset s').1.steps ≤ 4 + 20 * (k + 1)
  most : (LG.opened s' 1 count).most + 1 ≤ 2 + 2 * (k + 1)
  last : last < (((LG.opened s' 1 count).most + 1 : Nat) : Int) * 16777216
  st0 : s'.steps ≤ 4 + 20 * k
theorem CrashAt.crash (h : CrashAt w wr p sb mb g B pl s m sv bv kv tv ks ts rs maybe last k count) (hk : k ≤ 2000000) (K : List Int) : After s ((s.planned []).on K) m ks ts maybe last k count := by
  have hlen := h.lens
  have hmo := h.most
  have hc : Crash s m rs ks.length maybe := by
    rcases h.st with ⟨h1, h2, h3⟩ | ⟨h1, h2⟩
    · exact h2.crash (by omega) (by omega) h.safe maybe
    · exact h2
  obtain ⟨o1, o2, o3, o4, o5⟩ := hc.open_ K
  have hcl := planned_nil_clean s K
  rw [h.first] at o1
  rw [h.first, h.cnt] at o2 o3 o4 o5
  obtain ⟨s', hs'⟩ : ∃ s', s' = (s.planned []).on K := ⟨_, rfl⟩
  have hst' : s'.steps = s.steps := by rw [hs']; rfl
  have hln : s'.safe.length = s.safe.length := by rw [hs', len_on]; rfl
  rw [← hs'] at o1 o2 o3 o4 o5 hcl ⊢
  clear hs'
  have hre := Clean.reset o2 hcl (by omega)
  obtain ⟨r1, r2, r3, r4, r5, r6⟩ := o2.reset_ok hre
  have hrs := reset_steps (LG.opened s' 1 count) s'
  have hs := h.steps
  have hfit : 1 + count ≤ s.safe.length := by have := hc.fit; rw [h.first, h.cnt] at this; exact this
  refine ⟨hcl.off, by rw [hln]; exact hfit, o1, fun xs hxs => ?_, hre, r1, r2, by omega, by omega, lsn_low h.last h.short (by omega), by omega⟩
  rcases o5 with ⟨i, i1, i2, i3, i4⟩ | ⟨i1, i2⟩
  · rw [i3.tells, toldOf_take i4 i2] at hxs
    have hl : xs.length = i := by
      have := congrArg List.length hxs
      rw [List.length_map, List.length_take, toldOf_len] at this
      omega
    refine .inl ⟨by omega, by omega, ?_⟩
    rw [hxs, h.told, hl]
  · rw [i2.tells] at hxs
    have hl : xs.length = 0 := by
      have := congrArg List.length hxs
      rw [List.length_map, toldOf_len] at this
      exact this
    by_cases h0 : ks.length = 0
    · refine .inl ⟨by omega, by omega, ?_⟩
      have : xs = [] := List.eq_nil_of_length_eq_zero hl
      rw [this]; rfl
    · exact .inr ⟨by omega, i1, hl⟩
end
end Go.Proofs.Ytplkdcegfpiofaa

/-
  WalCrash's calls, as they come in and as the law lays them. No walk.
-/
namespace Go.Proofs.Ytplkdcegfpiofaa
open Go.RowKit Go.Maps
set_option linter.unusedVariables false

/-- A call of skeinlaw09's. -/
structure OpC where
  kind : Int
  n : Int
  t : Int
  dA : Option Addr
  dn : Nat
  dc : Nat
  kA : Option Addr
  kn : Nat
  kc : Nat
  fA : Option Addr
  fn : Nat
  fc : Nat
  data : List Nat
  keeps : List Int
  fates : List (Int × Int)
instance : Inhabited OpC := ⟨⟨0, 0, 0, none, 0, 0, none, 0, 0, none, 0, 0, [], [], []⟩⟩
def encO (x : OpC) : List Value := [.int .i64 x.kind, .int .i64 x.n, .int .i64 x.t, .slice x.dA x.dn x.dc, .slice x.kA x.kn x.kc, .slice x.fA x.fn x.fc]
theorem encO_len (x : OpC) : (encO x).length = 6 := rfl
theorem encO_one (x : OpC) : ∀ u ∈ encO x, u.oneCell' = true := by
  intro u hu
  simp only [encO, List.mem_cons, List.not_mem_nil, or_false] at hu
  rcases hu with rfl | rfl | rfl | rfl | rfl | rfl <;> rfl
theorem etO : ElemT 75 77 6 96 := elemT_of (z := .agg #[.int .i64 0, .int .i64 0, .int .i64 0, .slice none 0 0, .slice none 0 0, .slice none 0 0]) Try.underlying75 (by kernel_rfl) (by kernel_rfl) (by decide) (by decide) (by decide)
/-- What is known of a call that came in. -/
structure OpCAt (W : World) (x : OpC) : Prop where
  data : RB W W.heap.size (.slice x.dA x.dn x.dc) x.data
  keeps : RI W W.heap.size (.slice x.kA x.kn x.kc) x.keeps
  fates : RF W W.heap.size (.slice x.fA x.fn x.fc) x.fates
  n64 : I64 x.n
  k64 : ∀ y ∈ x.keeps, I64 y
  flen : x.fates.length ≤ 2000000
  dlen : x.data.length ≤ 140737488351232
theorem OpCAt.below {W W' : World} {x : OpC} (h : OpCAt W x) (hb : Below W.heap.size W W') : OpCAt W' x :=
  ⟨(h.data.below hb).more hb.size, (h.keeps.below hb).more hb.size, (h.fates.below hb).more hb.size, h.n64, h.k64, h.flen, h.dlen⟩
/-- The call that ends each script. -/
def opEnd : OpC := ⟨6, 0, 0, none, 0, 0, none, 0, 0, none, 0, 0, [], [], []⟩
theorem opEnd_at (W : World) : OpCAt W opEnd := ⟨RB.nil _ _, RK.nil _ _, RK.nil _ _, ⟨by decide, by decide⟩, by simp [opEnd], by simp [opEnd], by simp [opEnd]⟩
/-- What is known of a script that came in. -/
structure OpsAt (W : World) (v : Value) (os : List OpC) : Prop where
  rk : RK encO 6 W W.heap.size v os
  len : os.length ≤ 1900000
  at_ : ∀ x ∈ os, OpCAt W x
theorem cellO {w : World} {b off i : Nat} {x : OpC} (h : ∀ (j : Nat) u, (encO x)[j]? = some u → w.cell? ⟨b, off + i * 6 + j, none⟩ = some u) :
    w.cell? ⟨b, off + i * 6, none⟩ = some (.int .i64 x.kind) ∧ w.cell? ⟨b, off + i * 6 + 1, none⟩ = some (.int .i64 x.n) ∧ w.cell? ⟨b, off + i * 6 + 2, none⟩ = some (.int .i64 x.t) ∧
      w.cell? ⟨b, off + i * 6 + 3, none⟩ = some (.slice x.dA x.dn x.dc) ∧ w.cell? ⟨b, off + i * 6 + 4, none⟩ = some (.slice x.kA x.kn x.kc) ∧ w.cell? ⟨b, off + i * 6 + 5, none⟩ = some (.slice x.fA x.fn x.fc) :=
  ⟨h 0 _ rfl, h 1 _ rfl, h 2 _ rfl, h 3 _ rfl, h 4 _ rfl, h 5 _ rfl⟩
/-- Rows of unlike types lie in unlike blocks. -/
theorem rows_ne {α β : Type} {enc : α → List Value} {enc' : β → List Value} {k k' E E' : Nat} {w : World} {B B' : Nat} {v v' : Value} {xs : List α} {ys : List β} (h : OK enc k E w B v xs) (h' : OK enc' k' E' w B' v' ys) (hne : E ≠ E') : v.ownBlock = none ∨ v.ownBlock ≠ v'.ownBlock := by
  rcases h.2.2 with ⟨e, _⟩ | ⟨g, cap, cur, e, _, hg, _⟩
  · rw [e]; exact .inl rfl
  · right
    intro h2
    rw [e] at h2
    rcases h'.2.2 with ⟨e', _⟩ | ⟨g', cap', cur', e', _, hg', _⟩
    · rw [e'] at h2; cases h2
    · rw [e'] at h2
      simp only [Value.ownBlock] at h2
      injection h2 with h2
      subst h2
      have hb : Blk w g E cur := hg
      exact hb.ne_ (t' := E') (cs' := cur') hg' hne rfl
/-- The row of the calls over which the law goes. -/
abbrev OpRow (w wr : World) (v : Value) (os : List OpC) : Prop := OK encO 6 77 wr w.heap.size v os
section
variable {w wr w' : World} {p sb mb g B : Nat} {pl : Option Nat} {s : DS} {m : LG} {sv bv v : Value} {os : List OpC}
theorem OpRow.apart (hr : OpRow w wr v os) (h : WalAt wr p sb mb pl s g B sv bv m) : ∀ b, v.ownBlock = some b → ¬ OwnW p sb mb g b ∧ ¬ OwnL g sv bv b ∧ pl ≠ some b := row_apart h hr (by decide) (by decide) (by decide) (by decide) (by decide)
theorem OpRow.ownW (hr : OpRow w wr v os) (h : WalAt wr p sb mb pl s g B sv bv m) (hm : Mod (OwnW p sb mb g) wr w') : OpRow w w' v os := OK.mod hr hm (fun b hb => (hr.apart h b hb).1)
theorem OpRow.ownD (hr : OpRow w wr v os) (h : WalAt wr p sb mb pl s g B sv bv m) (hm : Mod (Own p sb mb) wr w') : OpRow w w' v os := OK.mod hr hm (fun b hb e => (hr.apart h b hb).1 (.inl e))
theorem OpRow.ownL (hr : OpRow w wr v os) (h : WalAt wr p sb mb pl s g B sv bv m) (hm : Mod (OwnL g sv bv) wr w') : OpRow w w' v os := OK.mod hr hm (fun b hb => (hr.apart h b hb).2.1)
theorem OpRow.ownP (hr : OpRow w wr v os) (h : WalAt wr p sb mb pl s g B sv bv m) (hm : Mod (fun j => j = p) wr w') : OpRow w w' v os := OK.mod hr hm (fun b hb e => (hr.apart h b hb).1 (.inl (.inl e)))
theorem OpRow.grown {u : Value} {xs : List RecV} {B' : Nat} (hr : OpRow w wr v os) (hu : OK encRec 3 64 wr B' u xs) (hg : wr.grownBy w' u.ownBlock) : OpRow w w' v os := OK.kept hr hg (rows_ne hr hu (by decide))
end
end Go.Proofs.Ytplkdcegfpiofaa
