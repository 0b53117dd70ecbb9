/-
  A log that lies on its disk, in plain words: what Format, Open, Reset, Append and Flush make of it. No walk.
-/
import Derived.Test.YtbagmmncjmbboaaGreatZV15
namespace Go.Proofs.YtbagmmncjmbboaaGreat
open Go.RowKit Go.Maps
set_option linter.unusedVariables false

/-- The log's stream is these records. -/
structure Recs (m : LG) (rs : List RecT) : Prop where
  st : m.st = strm rs
  begs : m.begs = begsAt 0 rs
  ok : ∀ r ∈ rs, RecOk r

theorem Recs.lt {m : LG} {rs : List RecT} (h : Recs m rs) : ∀ x ∈ m.st, x < 256 := by rw [h.st]; exact strm_lt h.ok

theorem Recs.room {m : LG} {rs : List RecT} (h : Recs m rs) (hc : m.count ≤ 1000) (hst : m.st.length ≤ m.count * 498) : rs.length ≤ 249000 := by
  have := strm_ge rs
  rw [← h.st] at this
  omega

/-- The sectors of a log: what each is. -/
def SecAt (m : LG) (st : List Nat) (f : Nat) (i : Nat) (b : List Nat) : Prop := m.first ≤ i → i < m.first + m.count → Sec3 st f m.run b (i - m.first) ∧ secRun b ≤ m.most

/-- A log that goes on, and its disk: nothing is pending, the sectors bear what is safe. -/
structure Good (s : DS) (m : LG) (rs : List RecT) : Prop where
  ok : m.Ok
  off : s.off = false
  pend : s.pend = fun _ => none
  fit : m.first + m.count ≤ s.safe.length
  run : 1 ≤ m.run
  recs : Recs m rs
  dead : m.dead = false
  sec : EachSec (SecAt m (m.st.take m.safe) m.safe) s

section

variable {s : DS} {m : LG} {rs : List RecT}

set_option maxRecDepth 100000 in
theorem sec3_later {st : List Nat} {f R : Nat} {b : List Nat} {k : Nat} (hf : f ≤ st.length) (h : Sec3 (st.take f) f R b k) : Sec3 st f R b k := by
  have hl : (st.take f).length = f := by rw [List.length_take]; omega
  rcases h with ⟨h1, h2, h3⟩ | ⟨h1, h2, h3, h4, h5⟩ | h
  · rw [hl] at h3
    by_cases h4 : (k + 1) * 498 ≤ f
    · refine .inl ⟨h1, ?_, ?_⟩
      · rw [h2]
        unfold pieceOf
        rw [List.drop_take, List.take_take]
        congr 1
        omega
      · rcases h3 with h3 | h3
        · exact .inl h3
        · exact .inr (by omega)
    · refine .inr (.inl ⟨h1, h2, ?_, by omega, h3⟩)
      rcases h3 with h3 | h3
      · subst h3; omega
      · omega
  · refine .inr (.inl ⟨h1, ?_, h3, h4, h5⟩)
    rw [h2, List.take_take, Nat.min_self]
  · exact .inr (.inr h)

set_option maxRecDepth 100000 in
theorem Good.later (h : Good s m rs) : EachSec (SecAt m m.st m.safe) s := h.sec.mono fun i b _ hb h1 h2 => ⟨sec3_later h.ok.safe (hb h1 h2).1, (hb h1 h2).2⟩

theorem room_le {n q : Nat} (h : ¬ m.room < 1 + n) (ho : m.Ok) : m.st.length + (1 + n) ≤ m.count * 498 := by have := ho.st; unfold LG.room at h; omega

set_option maxRecDepth 100000 in
/-- Append keeps a log. -/
theorem Good.append (h : Good s m rs) (kind : Int) (body : List Nat) (hb : ∀ x ∈ body, x < 256) :
    ((m.append kind body).2.2 = 0 ∧ 1 ≤ kind ∧ kind ≤ 255 ∧ m.fresh = true ∧ body.length ≤ 1200 ∧ (m.append kind body).2.1 = m.lsn m.st.length ∧ (m.append kind body).1 = { m with st := m.st ++ recL kind.toNat body, begs := m.begs ++ [m.st.length] } ∧ Good s (m.append kind body).1 (rs ++ [(kind.toNat, body)])) ∨
    ((m.append kind body).2.2 ≠ 0 ∧ (m.append kind body).2.1 = 0 ∧ (m.append kind body).1 = m) := by
  have hd : ¬ m.dead = true := by rw [h.dead]; simp
  unfold LG.append
  rw [if_neg hd]
  by_cases hf : m.fresh = false
  · rw [if_pos hf]
    exact .inr ⟨by simp, by simp, by simp⟩
  · rw [if_neg hf]
    split
    · exact .inr ⟨by simp, by simp, by simp⟩
    · split
      · exact .inr ⟨by simp, by simp, by simp⟩
      · split
        · exact .inr ⟨by simp, by simp, by simp⟩
        · rename_i h1 h2 h3
          have hroom := room_le (q := 0) h3 h.ok
          have hl : (recL kind.toNat body).length = 1 + (putL body.length ++ body).length := by unfold recL; rw [List.length_cons]; omega
          refine .inl ⟨rfl, by omega, by omega, by simpa using hf, by omega, rfl, rfl, ?_⟩
          have e : (m.st ++ recL kind.toNat body).take m.safe = m.st.take m.safe := List.take_append_of_le_length h.ok.safe
          refine ⟨⟨h.ok.first, h.ok.count, h.ok.run, ?_, ?_, ?_⟩, h.off, h.pend, h.fit, h.run, ⟨?_, ?_, ?_⟩, h.dead, ?_⟩
          · dsimp only; rw [List.length_append, hl]; omega
          · dsimp only; rw [List.length_append]; have := h.ok.safe; omega
          · dsimp only
            rw [List.length_append, List.length_append, List.length_singleton, hl]
            refine ⟨by have := h.ok.begs.1; omega, fun b hb => ?_⟩
            rcases List.mem_append.1 hb with hb | hb
            · have := h.ok.begs.2 b hb; omega
            · rw [List.mem_singleton.1 hb]; omega
          · dsimp only; rw [strm_snoc, h.recs.st]
          · dsimp only; rw [begsAt_snoc, h.recs.begs, h.recs.st, Nat.zero_add]
          · intro r hr
            rcases List.mem_append.1 hr with hr | hr
            · exact h.recs.ok r hr
            · rw [List.mem_singleton.1 hr]; exact ⟨by dsimp only; omega, by dsimp only; omega, by dsimp only; omega, hb⟩
          · have := h.sec
            unfold SecAt at this ⊢
            dsimp only
            rw [e]
            exact this

set_option maxRecDepth 100000 in
theorem sect_a {run : Nat} {st : List Nat} (h1 : 1 ≤ run) (h2 : run ≤ 274877906944) (k : Nat) : secRun (sect run st k) = run ∧ secPart (sect run st k) = pieceOf st k := ⟨sec_run (sect_len run st k) h1 h2, sec_part (sect_len run st k) h1 h2⟩

set_option maxRecDepth 100000 in
theorem Good.fits (h : Good s m rs) : ∀ i, (i = m.safe / 498 ∨ i * 498 < m.st.length) → m.safe ≠ m.st.length → m.first + i < s.safe.length := by
  intro i hi hne
  have h1 := h.ok.safe
  have h2 := h.ok.st
  have h3 := h.fit
  have : i * 498 < m.count * 498 := by
    rcases hi with hi | hi
    · subst hi; omega
    · omega
  have := Nat.lt_of_mul_lt_mul_right this
  omega

set_option maxRecDepth 100000 in
/-- A Flush that went well. -/
theorem Good.flush_ok (h : Good s m rs) (he : (m.flush s).2.2 = 0) : Good (m.flush s).1 (m.flush s).2.1 rs ∧ (m.flush s).2.1 = { m with safe := m.st.length } ∧ (m.flush s).1.plan = s.plan ∧ (m.flush s).1.safe.length = s.safe.length ∧ (m.safe = m.st.length → (m.flush s).1 = s) := by
  have hd : ¬ m.dead = true := by rw [h.dead]; simp
  unfold LG.flush at he ⊢
  rw [if_neg hd] at he ⊢
  by_cases hs : m.safe = m.st.length
  · rw [if_pos hs] at he ⊢
    have e : ({ m with safe := m.st.length } : LG) = m := by rw [← hs]
    exact ⟨h, e.symm, rfl, rfl, fun _ => rfl⟩
  · rw [if_neg hs] at he ⊢
    by_cases hv : (DS.save m.run m.first m.st m.st.length (m.safe / 498) s).2 = 0
    · rw [if_pos hv]
      have h1 := h.ok.safe
      have h2 := h.ok.st
      have hw := save_well (run := m.run) (first := m.first) h.recs.lt m.st.length (m.safe / 498) s h.off (by omega) (by omega) (.inr (by omega)) (fun i hi => h.fits i hi hs) hv
      have hl := len_save (run := m.run) (st := m.st) m.first m.st.length (m.safe / 498) s
      refine ⟨⟨⟨h.ok.first, h.ok.count, h.ok.run, h.ok.st, Nat.le_refl _, h.ok.begs⟩, hw.off, hw.pend, by rw [hl]; exact h.fit, h.run, ⟨h.recs.st, h.recs.begs, h.recs.ok⟩, h.dead, ?_⟩, rfl, plan_save _ _ _ _, hl, fun e => absurd e hs⟩
      have key : ∀ i : Nat, i < s.safe.length → m.first ≤ i → i < m.first + m.count → Sec3 m.st m.st.length m.run ((DS.save m.run m.first m.st m.st.length (m.safe / 498) s).1.safe.getD i []) (i - m.first) ∧ secRun ((DS.save m.run m.first m.st m.st.length (m.safe / 498) s).1.safe.getD i []) ≤ m.most := by
        intro i hi hi1 hi2
        obtain ⟨k, hk⟩ : ∃ k, i = m.first + k := ⟨i - m.first, by omega⟩
        by_cases hc : i = m.first + m.safe / 498 ∨ (m.first + m.safe / 498 < i ∧ (i - m.first) * 498 < m.st.length)
        · rw [hw.new i hi hc]
          have ha := sect_a (st := m.st) h.run (by have := h.ok.run; omega) (i - m.first)
          refine ⟨.inl ⟨ha.1, ha.2, .inr ?_⟩, by rw [ha.1]; exact h.ok.run.1⟩
          rcases hc with hc | hc
          · rw [hc, Nat.add_sub_cancel_left]; omega
          · exact hc.2
        · rw [hw.old i hi hc]
          obtain ⟨o1, o2⟩ := (h.sec i hi).2 hi1 hi2
          refine ⟨?_, o2⟩
          subst hk
          rw [Nat.add_sub_cancel_left] at o1 hc ⊢
          have hlt : (m.st.take m.safe).length = m.safe := by rw [List.length_take]; omega
          rcases o1 with ⟨a1, a2, a3⟩ | ⟨a1, a2, a3, a4, a5⟩ | ⟨a1, a2, a3⟩
          · rw [hlt] at a3
            have hk2 : k < m.safe / 498 := by omega
            refine .inl ⟨a1, ?_, .inr (by omega)⟩
            rw [a2]
            unfold pieceOf
            rw [List.drop_take, List.take_take]
            congr 1
            omega
          · omega
          · exact .inr (.inr ⟨a1, a2, by omega⟩)
      intro i hi
      rw [hl] at hi
      have e : (DS.save m.run m.first m.st m.st.length (m.safe / 498) s).1.has i = (DS.save m.run m.first m.st m.st.length (m.safe / 498) s).1.safe.getD i [] := by
        unfold DS.has
        rw [hw.pend]; rfl
      rw [e]
      unfold SecAt
      dsimp only
      rw [List.take_length]
      exact ⟨key i hi, key i hi⟩
    · rw [if_neg hv] at he
      exact absurd he hv

set_option maxRecDepth 100000 in
/-- What is on the disk behind a Flush, whatever befell it. -/
theorem Good.flush_any (h : Good s m rs) : EachSec (SecAt m m.st m.safe) (m.flush s).1 ∧ (m.flush s).1.safe.length = s.safe.length ∧ (m.flush s).1.plan = s.plan := by
  have hd : ¬ m.dead = true := by rw [h.dead]; simp
  unfold LG.flush
  rw [if_neg hd]
  by_cases hs : m.safe = m.st.length
  · rw [if_pos hs]; exact ⟨h.later, rfl, rfl⟩
  · rw [if_neg hs]
    have hl := len_save (run := m.run) (st := m.st) m.first m.st.length (m.safe / 498) s
    have hp := plan_save (run := m.run) (st := m.st) m.first m.st.length (m.safe / 498) s
    have hx : EachSec (SecAt m m.st m.safe) (DS.save m.run m.first m.st m.st.length (m.safe / 498) s).1 := by
      have h1 := h.ok.safe
      refine EachSec.save h.recs.lt _ _ s (fun k hk _ _ => ?_) h.later
      rw [Nat.add_sub_cancel_left]
      have ha := sect_a (st := m.st) h.run (by have := h.ok.run; omega) k
      exact ⟨.inl ⟨ha.1, ha.2, .inr (by omega)⟩, by rw [ha.1]; exact h.ok.run.1⟩
    split
    · exact ⟨hx, hl, hp⟩
    · exact ⟨hx, hl, hp⟩

end

end Go.Proofs.YtbagmmncjmbboaaGreat

/-
  A log that is formatted, opened, reset, in plain words. No walk.
-/
namespace Go.Proofs.YtbagmmncjmbboaaGreat
open Go.RowKit Go.Maps
set_option linter.unusedVariables false

/-- The log that Open finds. -/
noncomputable def LG.opened (s : DS) (first count : Nat) : LG :=
  ⟨first, count, (RS.upto s first count).run, (RS.upto s first count).most, (RS.upto s first count).st.take (scan (RS.upto s first count).st ((RS.upto s first count).st.length + 1) 0).2,
    (scan (RS.upto s first count).st ((RS.upto s first count).st.length + 1) 0).1, ((RS.upto s first count).st.take (scan (RS.upto s first count).st ((RS.upto s first count).st.length + 1) 0).2).length, false, false⟩
set_option maxRecDepth 100000 in
theorem opened_ok (s : DS) {first count : Nat} (hf : first ≤ 4096) (hc : 1 ≤ count ∧ count ≤ 4096) : (LG.opened s first count).Ok := by
  have h := RS.log_ok s hf hc (Nat.le_refl count)
  have h2 := scan_ok (RS.upto s first count).st ((RS.upto s first count).st.length + 1) 0 (Nat.zero_le _)
  have h3 := h.st
  have e : ((RS.upto s first count).log first count).st = (RS.upto s first count).st := rfl
  rw [e] at h3
  have e2 : ((RS.upto s first count).log first count).count = count := rfl
  rw [e2] at h3
  have hl : (LG.opened s first count).st.length = (scan (RS.upto s first count).st ((RS.upto s first count).st.length + 1) 0).2 := by
    unfold LG.opened
    dsimp only
    rw [List.length_take]
    omega
  refine ⟨hf, hc, h.run, by rw [hl]; exact Nat.le_trans h2.2.1 h3, Nat.le_refl _, ?_⟩
  rw [hl]
  exact ⟨by have := h2.2.2.1; unfold LG.opened; dsimp only; omega, fun b hb => (h2.2.2.2 b hb).2⟩

set_option maxRecDepth 100000 in
theorem whole_half (rs : List RecT) (j : Nat) : 2 * whole rs j ≤ j := by
  have h1 := whole_fit rs j
  have h2 := strm_ge (rs.take (whole rs j))
  rw [List.length_take, Nat.min_eq_left (whole_le rs j)] at h2
  omega

set_option maxRecDepth 100000 in
/-- Open finds a beginning of the records, with all that was safe. -/
theorem opened_recs {s : DS} {first count f R : Nat} {rs : List RecT} (hok : ∀ r ∈ rs, RecOk r) (hf : f ≤ (strm rs).length) (hst : (strm rs).length ≤ count * 498) (hc : 1 ≤ count) (hsec : ∀ k, k < count → Sec3 (strm rs) f R (s.has (first + k)) k) :
    ∃ i, i ≤ rs.length ∧ (∀ a, a ≤ rs.length → (strm (rs.take a)).length ≤ f → a ≤ i) ∧ Recs (LG.opened s first count) (rs.take i) ∧ (LG.opened s first count).run = R := by
  obtain ⟨j, h1, h2, h3, h4⟩ := read_all hf hst hc s first hsec
  have hw := whole_half rs j
  have hlen : (RS.upto s first count).st.length = j := by rw [h1, List.length_take]; omega
  have hsc := scan_strm rs [] j (j + 1) hok (by omega) h3
  simp only [List.nil_append, List.length_nil, Nat.zero_add] at hsc
  have hfit := whole_fit rs j
  refine ⟨whole rs j, whole_le rs j, fun a ha hl => whole_ge rs j a ha (by omega), ⟨?_, ?_, fun r hr => hok r (List.mem_of_mem_take hr)⟩, h4⟩
  · unfold LG.opened
    dsimp only
    rw [hlen, h1, hsc]
    dsimp only
    rw [List.take_take, Nat.min_eq_left hfit, strm_take]
  · unfold LG.opened
    dsimp only
    rw [hlen, h1, hsc]

/-- A log whose runs are known, on its disk. -/
structure Fits (s : DS) (m : LG) : Prop where
  ok : m.Ok
  off : s.off = false
  fit : m.first + m.count ≤ s.safe.length
  run : 1 ≤ m.run
  dead : m.dead = false
  sec : EachSec (fun i b => m.first ≤ i → i < m.first + m.count → secRun b ≤ m.most) s

theorem Good.fits_ {s : DS} {m : LG} {rs : List RecT} (h : Good s m rs) : Fits s m := ⟨h.ok, h.off, h.fit, h.run, h.dead, h.sec.mono fun i b _ hb h1 h2 => (hb h1 h2).2⟩

set_option maxRecDepth 100000 in
theorem opened_fits {s : DS} {first count : Nat} (hoff : s.off = false) (hpend : s.pend = fun _ => none) (hfit : first + count ≤ s.safe.length) (hf : first ≤ 4096) (hc : 1 ≤ count ∧ count ≤ 4096) (hrun : 1 ≤ (LG.opened s first count).run) : Fits s (LG.opened s first count) := by
  refine ⟨opened_ok s hf hc, hoff, hfit, hrun, rfl, fun i hi => ?_⟩
  have e : s.has i = s.safe.getD i [] := by unfold DS.has; rw [hpend]; rfl
  have h2 : first ≤ i → i < first + count → secRun (s.has i) ≤ (RS.upto s first count).most := by
    intro h3 h4
    have := (upto_most s first count).1 (i - first) (by omega)
    rw [show first + (i - first) = i by omega] at this
    exact this
  rw [← e]
  exact ⟨h2, h2⟩

theorem strm_empty : strm [] = [] := rfl

theorem piece_empty (k : Nat) : pieceOf [] k = [] := by unfold pieceOf; simp

/-- A new run. -/
theorem Sec3.first {R : Nat} {b : List Nat} (h1 : secRun b = R) (h2 : secPart b = []) : Sec3 [] 0 R b 0 := .inl ⟨h1, by rw [h2, piece_empty], .inl rfl⟩

theorem Sec3.other {R : Nat} {b : List Nat} {k : Nat} (h1 : secRun b ≠ R) (hk : 1 ≤ k) : Sec3 [] 0 R b k := .inr (.inr ⟨h1, hk, Nat.zero_le _⟩)

set_option maxRecDepth 100000 in
theorem anew_ok {m : LG} (h : m.Ok) (hm : m.most < 274877906944) : m.anew.Ok := by
  refine ⟨h.first, h.count, ?_, ?_, ?_, ?_⟩
  · show m.most + 1 ≤ m.most + 1 ∧ m.most + 1 ≤ 274877906944; omega
  · show 0 ≤ _; omega
  · show 0 ≤ _; omega
  · show 0 ≤ 0 ∧ ∀ b ∈ ([] : List Nat), b < 0; simp

theorem nil_lt : ∀ x ∈ ([] : List Nat), x < 256 := by simp

set_option maxRecDepth 100000 in
theorem Fits.reset_ok {s : DS} {m : LG} (h : Fits s m) (he : (m.reset s).2.2 = 0) : Good (m.reset s).1 m.anew [] ∧ (m.reset s).2.1 = m.anew ∧ (m.reset s).1.plan = s.plan ∧ (m.reset s).1.safe.length = s.safe.length ∧ m.most < 274877906944 ∧ s.steps + 2 ≤ (m.reset s).1.steps := by
  have hd : ¬ m.dead = true := by rw [h.dead]; simp
  unfold LG.reset at he ⊢
  rw [if_neg hd] at he ⊢
  by_cases hm : 274877906944 ≤ m.most
  · rw [if_pos hm] at he; simp at he
  · rw [if_neg hm] at he ⊢
    by_cases hv : (DS.save (m.most + 1) m.first [] 1 0 s).2 = 0
    · rw [if_pos hv]
      have hc := h.ok.count
      have hw := save_well (run := m.most + 1) (first := m.first) nil_lt 1 0 s h.off (by omega) (by simp) (.inl (by simp)) (fun i hi => by have := h.fit; simp at hi; omega) hv
      have hl := len_save (run := m.most + 1) (st := []) m.first 1 0 s
      refine ⟨⟨anew_ok h.ok (by omega), hw.off, hw.pend, by rw [hl]; exact h.fit, by show 1 ≤ m.most + 1; omega, ⟨rfl, rfl, by simp⟩, h.dead, ?_⟩, rfl, plan_save _ _ _ _, hl, by omega, hw.steps⟩
      intro i hi
      rw [hl] at hi
      have e : (DS.save (m.most + 1) m.first [] 1 0 s).1.has i = (DS.save (m.most + 1) m.first [] 1 0 s).1.safe.getD i [] := by
        unfold DS.has
        rw [hw.pend]; rfl
      rw [e]
      have key : m.first ≤ i → i < m.first + m.count → Sec3 [] 0 (m.most + 1) ((DS.save (m.most + 1) m.first [] 1 0 s).1.safe.getD i []) (i - m.first) ∧ secRun ((DS.save (m.most + 1) m.first [] 1 0 s).1.safe.getD i []) ≤ m.most + 1 := by
        intro h1 h2
        by_cases hi2 : i = m.first
        · rw [hw.new i hi (.inl (by omega)), hi2, Nat.sub_self]
          have ha := sect_a (st := []) (run := m.most + 1) (by omega) (by omega) 0
          exact ⟨Sec3.first ha.1 (by rw [ha.2, piece_empty]), by rw [ha.1]; omega⟩
        · rw [hw.old i hi (by simp; omega)]
          have := (h.sec i hi).2 h1 h2
          exact ⟨Sec3.other (by omega) (by omega), by omega⟩
      exact ⟨key, key⟩
    · rw [if_neg hv] at he
      exact absurd he hv

set_option maxRecDepth 100000 in
/-- What is on the disk behind a Reset, whatever befell it. -/
theorem Fits.reset_any {s : DS} {m : LG} {P : Nat → List Nat → Prop} (h : Fits s m) (hP : EachSec P s) : EachSec (fun i b => P i b ∨ (i = m.first ∧ b = sect (m.most + 1) [] 0 ∧ m.most < 274877906944)) (m.reset s).1 ∧ (m.reset s).1.safe.length = s.safe.length ∧ (m.reset s).1.plan = s.plan := by
  have hd : ¬ m.dead = true := by rw [h.dead]; simp
  unfold LG.reset
  rw [if_neg hd]
  split
  · exact ⟨hP.mono fun i b _ hb => .inl hb, rfl, rfl⟩
  · rename_i hm
    have hx : EachSec (fun i b => P i b ∨ (i = m.first ∧ b = sect (m.most + 1) [] 0 ∧ m.most < 274877906944)) (DS.save (m.most + 1) m.first [] 1 0 s).1 := by
      refine EachSec.save nil_lt 1 0 s (fun k hk => ?_) (hP.mono fun i b _ hb => .inl hb)
      have : k = 0 := by simpa using hk
      subst this
      exact .inr ⟨rfl, rfl, by omega⟩
    split
    · exact ⟨hx, len_save _ _ _ _, plan_save _ _ _ _⟩
    · exact ⟨hx, len_save _ _ _ _, plan_save _ _ _ _⟩

set_option maxRecDepth 100000 in
theorem Clean.reset {s : DS} {m : LG} (h : Fits s m) (hc : Clean s) (hm : m.most < 274877906944) : (m.reset s).2.2 = 0 := by
  have hd : ¬ m.dead = true := by rw [h.dead]; simp
  unfold LG.reset
  rw [if_neg hd, if_neg (by omega)]
  have := save_clean (run := m.most + 1) (first := m.first) nil_lt 1 0 s hc (fun i hi => by have := h.fit; have := h.ok.count; simp at hi; omega)
  rw [if_pos this]

set_option maxRecDepth 100000 in
theorem Clean.flush {s : DS} {m : LG} {rs : List RecT} (h : Good s m rs) (hc : Clean s) : (m.flush s).2.2 = 0 := by
  have hd : ¬ m.dead = true := by rw [h.dead]; simp
  unfold LG.flush
  rw [if_neg hd]
  by_cases hs : m.safe = m.st.length
  · rw [if_pos hs]
  · rw [if_neg hs]
    have := save_clean (run := m.run) (first := m.first) h.recs.lt m.st.length (m.safe / 498) s hc (fun i hi => h.fits i hi hs)
    rw [if_pos this]

set_option maxRecDepth 100000 in
/-- Format on a disk that has no run in the log's sectors. -/
theorem format_ok {s : DS} {first count : Nat} (hc : Clean s) (hfit : first + count ≤ s.safe.length) (h1 : 1 ≤ count) (hz : ∀ k, k < count → secRun (s.has (first + k)) = 0) :
    (DS.format first count s).2 = 0 ∧ (DS.format first count s).1.off = false ∧ (DS.format first count s).1.plan = s.plan ∧ (DS.format first count s).1.pend = (fun _ => none) ∧ (DS.format first count s).1.safe.length = s.safe.length ∧
      (∀ k, k < count → Sec3 [] 0 1 ((DS.format first count s).1.has (first + k)) k ∧ secRun ((DS.format first count s).1.has (first + k)) ≤ 1) ∧ (DS.format first count s).1.steps ≤ s.steps + 2 ∧
      (∀ i, i < s.safe.length → i < first ∨ first + count ≤ i → (DS.format first count s).1.has i = s.has i) := by
  have hth : thereB s.safe.length (first : Int) (count : Int) = true := by unfold thereB; simp; omega
  have e : DS.format first count s = DS.save 1 first [] 1 0 s := by unfold DS.format; rw [hth]; rfl
  rw [e]
  have hv := save_clean (run := 1) (first := first) nil_lt 1 0 s hc (fun i hi => by simp at hi; omega)
  have hw := save_well (run := 1) (first := first) nil_lt 1 0 s hc.off (by omega) (by simp) (.inl (by simp)) (fun i hi => by simp at hi; omega) hv
  have hl := len_save (run := 1) (st := []) first 1 0 s
  have hst := steps_save (run := 1) (st := []) first 1 1 0 s (by simp) (by omega)
  have hh : ∀ i, (DS.save 1 first [] 1 0 s).1.has i = (DS.save 1 first [] 1 0 s).1.safe.getD i [] := fun i => by
    unfold DS.has
    rw [hw.pend]; rfl
  refine ⟨hv, hw.off, plan_save _ _ _ _, hw.pend, hl, fun k hk => ?_, hst, fun i hi ho => ?_⟩
  · rw [hh]
    by_cases hk0 : k = 0
    · subst hk0
      rw [hw.new (first + 0) (by omega) (.inl rfl), Nat.add_zero, Nat.sub_self]
      have ha := sect_a (st := []) (run := 1) (by omega) (by omega) 0
      exact ⟨Sec3.first ha.1 (by rw [ha.2, piece_empty]), by rw [ha.1]; omega⟩
    · rw [hw.old (first + k) (by omega) (by simp; omega), hz k hk]
      exact ⟨Sec3.other (by rw [hz k hk]; omega) (by omega), by omega⟩
  · rw [hh, hw.old i hi (by simp; omega)]

theorem secRun_zero : secRun sec0 = 0 := secRun_no (fun h => by have := h.1; revert this; decide)

end Go.Proofs.YtbagmmncjmbboaaGreat

/-
  A log that begins: Format, Open and Reset on a disk without runs, in plain words. No walk.
-/
namespace Go.Proofs.YtbagmmncjmbboaaGreat
open Go.RowKit Go.Maps
set_option linter.unusedVariables false

theorem secRun_sec0 : secRun sec0 = 0 := secRun_zero

/-- The disk behind Format, and the log that Open finds then. -/
def fmtS (s : DS) (first count : Nat) : DS := (DS.format first count s).1
noncomputable def fmtL (s : DS) (first count : Nat) : LG := LG.opened (fmtS s first count) first count

/-- The disk behind the Reset. -/
noncomputable def begS (s : DS) (first count : Nat) : DS := ((fmtL s first count).reset (fmtS s first count)).1
noncomputable def begL (s : DS) (first count : Nat) : LG := (fmtL s first count).anew
structure Begun (s : DS) (first count : Nat) : Prop where
  fmt : (DS.format first count s).2 = 0
  clean1 : Clean (fmtS s first count)
  len1 : (fmtS s first count).safe.length = s.safe.length
  steps1 : (fmtS s first count).steps ≤ s.steps + 2
  log : isLog ((fmtS s first count).has first)
  recs : Recs (fmtL s first count) []
  run : (fmtL s first count).run = 1
  most : (fmtL s first count).most = 1
  fits : Fits (fmtS s first count) (fmtL s first count)
  res : (fmtL s first count).reset (fmtS s first count) = (begS s first count, begL s first count, 0)
  good : Good (begS s first count) (begL s first count) []
  clean2 : Clean (begS s first count)
  len2 : (begS s first count).safe.length = s.safe.length
  steps2 : (begS s first count).steps ≤ s.steps + 4

set_option maxRecDepth 100000 in
theorem begun {s : DS} {first count : Nat} (hc : Clean s) (hfit : first + count ≤ s.safe.length) (hf : first ≤ 4096) (h1 : 1 ≤ count ∧ count ≤ 4096) (hz : ∀ k, k < count → secRun (s.has (first + k)) = 0) : Begun s first count := by
  obtain ⟨f1, f2, f3, f4, f5, f6, f7, f8⟩ := format_ok hc hfit h1.1 hz
  have e1 : (DS.format first count s).1 = fmtS s first count := rfl
  rw [e1] at f2 f3 f4 f5 f6 f7
  have c1 : Clean (fmtS s first count) := ⟨fun k => by rw [f3]; exact hc.plan k, f2⟩
  obtain ⟨i, hi1, hi2, hi3, hi4⟩ := opened_recs (s := fmtS s first count) (first := first) (count := count) (f := 0) (R := 1) (rs := []) (by simp) (Nat.zero_le _) (by simp [strm]) h1.1 (fun k hk => (f6 k hk).1)
  have i0 : i = 0 := by simpa using hi1
  subst i0
  have hm1 : (fmtL s first count).most ≤ 1 := (upto_most (fmtS s first count) first count).2 1 (fun k hk => (f6 k hk).2)
  have hok := opened_ok (fmtS s first count) hf h1
  have hr1 : (fmtL s first count).run = 1 := hi4
  have hm2 : (fmtL s first count).most = 1 := by
    have := hok.run.1
    have e : (LG.opened (fmtS s first count) first count).run = 1 := hi4
    have e2 : (LG.opened (fmtS s first count) first count).most = (fmtL s first count).most := rfl
    omega
  have hft : Fits (fmtS s first count) (fmtL s first count) := opened_fits f2 f4 (by rw [f5]; exact hfit) hf h1 (by rw [hi4]; omega)
  have hre := Clean.reset hft c1 (by rw [hm2]; omega)
  obtain ⟨g1, g2, g3, g4, g5, g6⟩ := hft.reset_ok hre
  have hlog : isLog ((fmtS s first count).has first) := by
    have := (f6 0 (by omega)).1
    rw [Nat.add_zero] at this
    refine isLog_of_run ?_
    rcases this with h | h | h
    · rw [h.1]; omega
    · rw [h.1]; omega
    · omega
  have hst : (begS s first count).steps ≤ s.steps + 4 := by
    have hd : ¬ (fmtL s first count).dead = true := by rw [hft.dead]; simp
    have e : begS s first count = (DS.save ((fmtL s first count).most + 1) (fmtL s first count).first [] 1 0 (fmtS s first count)).1 := by
      unfold begS LG.reset
      rw [if_neg hd, if_neg (by rw [hm2]; omega)]
      split <;> rfl
    rw [e]
    have := steps_save (run := (fmtL s first count).most + 1) (st := []) (fmtL s first count).first 1 1 0 (fmtS s first count) (by simp) (by omega)
    omega
  refine ⟨f1, c1, f5, f7, hlog, hi3, hr1, hm2, hft, ?_, g1, ⟨fun k => ?_, g1.off⟩, g4.trans f5, hst⟩
  · exact Prod.ext rfl (Prod.ext g2 hre)
  · have : (begS s first count).plan = (fmtS s first count).plan := g3
    rw [this]; exact c1.plan k

theorem new_clean (n : Int) : Clean (DS.new n) := ⟨fun _ => rfl, rfl⟩

theorem new_len (n : Nat) (h : n ≤ 4096) : (DS.new (n : Int)).safe.length = n := by
  unfold DS.new
  rw [List.length_replicate]
  omega

theorem new_has (n : Nat) (h : n ≤ 4096) (i : Nat) (hi : i < n) : (DS.new (n : Int)).has i = sec0 := by
  show (none : Option (List Nat)).getD ((DS.new (n : Int)).safe.getD i []) = sec0
  have e : (DS.new (n : Int)).safe = List.replicate n sec0 := by
    have : (min (max (n : Int) 0) 4096).toNat = n := by omega
    unfold DS.new
    dsimp only
    rw [this]
  rw [e]
  simp [List.getD, hi]

theorem begun_new (n first count : Nat) (hn : n ≤ 4096) (hfit : first + count ≤ n) (h1 : 1 ≤ count) : Begun (DS.new (n : Int)) first count :=
  begun (new_clean _) (by rw [new_len n hn]; exact hfit) (by omega) ⟨h1, by omega⟩ (fun k hk => by rw [new_has n hn _ (by omega)]; exact secRun_sec0)

end Go.Proofs.YtbagmmncjmbboaaGreat

/-
  A log that is opened again, and the document's example, in plain words. No walk.
-/
namespace Go.Proofs.YtbagmmncjmbboaaGreat
open Go.RowKit Go.Maps
set_option linter.unusedVariables false

theorem Sec3.log {st : List Nat} {f R : Nat} {b : List Nat} (h : Sec3 st f R b 0) (hR : 1 ≤ R) : isLog b := by
  refine isLog_of_run ?_
  rcases h with h | h | h
  · rw [h.1]; exact hR
  · rw [h.1]; exact hR
  · omega

theorem len_on (s : DS) (K : List Int) : (s.on K).safe.length = s.safe.length := by unfold DS.on; simp

/-- What a log's sectors say, whichever are kept. -/
theorem secs_on {s : DS} {m : LG} {st : List Nat} {f : Nat} (h : EachSec (SecAt m st f) s) (hfit : m.first + m.count ≤ s.safe.length) (K : List Int) : ∀ k, k < m.count → Sec3 st f m.run ((s.on K).has (m.first + k)) k ∧ secRun ((s.on K).has (m.first + k)) ≤ m.most := by
  intro k hk
  have := ((h.on K) (m.first + k) (by rw [len_on]; omega)).2 (by omega) (by omega)
  rw [Nat.add_sub_cancel_left] at this
  exact this

theorem Good.reopen {s : DS} {m : LG} {rs : List RecT} (h : Good s m rs) (hs : m.safe = m.st.length) (K : List Int) :
    isLog ((s.on K).has m.first) ∧ Recs (LG.opened (s.on K) m.first m.count) rs ∧ (LG.opened (s.on K) m.first m.count).run = m.run ∧ (LG.opened (s.on K) m.first m.count).most ≤ m.most := by
  have hx := secs_on h.later h.fit K
  have hst := h.ok.st
  have hc := h.ok.count
  have h1 := h.recs.st
  obtain ⟨i, i1, i2, i3, i4⟩ := opened_recs (s := s.on K) (first := m.first) (count := m.count) (f := m.safe) (R := m.run) (rs := rs) h.recs.ok (by rw [← h1]; exact h.ok.safe) (by rw [← h1]; exact hst) hc.1 (fun k hk => by rw [← h1]; exact (hx k hk).1)
  have i5 := i2 rs.length (Nat.le_refl _) (by rw [List.take_length, ← h1, hs]; exact Nat.le_refl _)
  have i6 : i = rs.length := by omega
  rw [i6, List.take_length] at i3
  have h0 := (hx 0 (by omega)).1
  rw [Nat.add_zero] at h0
  exact ⟨h0.log h.run, i3, i4, (upto_most (s.on K) m.first m.count).2 m.most (fun k hk => (hx k hk).2)⟩

theorem append_yes {m : LG} {kind : Int} {body : List Nat} (hd : m.dead = false) (hf : m.fresh = true) (hk : 1 ≤ kind ∧ kind ≤ 255) (hl : body.length ≤ 1200) (hr : (recL kind.toNat body).length ≤ m.room) :
    m.append kind body = ({ m with st := m.st ++ recL kind.toNat body, begs := m.begs ++ [m.st.length] }, m.lsn m.st.length, 0) := by
  have h1 : (recL kind.toNat body).length = 1 + (putL body.length ++ body).length := by unfold recL; rw [List.length_cons]; omega
  unfold LG.append
  rw [if_neg (by rw [hd]; simp), if_neg (by rw [hf]; simp), if_neg (by omega), if_neg (by omega), if_neg (by omega)]

theorem append_idle {m : LG} (kind : Int) (body : List Nat) (hd : m.dead = false) (hf : m.fresh = false) : m.append kind body = (m, 0, 111) := by
  unfold LG.append
  rw [if_neg (by rw [hd]; simp), if_pos hf]

/-- The example's records. -/
def exRecs : List RecT := [(1, [97, 98]), (2, [])]

/-- What the example's log goes through behind its Reset. -/
structure Example (s2 : DS) (m2 m3 m4 : LG) (s5 : DS) (m5 : LG) : Prop where
  a2 : m2.append 1 [97, 98] = (m3, 33554432, 0)
  a3 : m3.append 2 [] = (m4, 33554436, 0)
  fl : m4.flush s2 = (s5, m5, 0)
  room : m5.room = 1986
  len : s5.safe.length = s2.safe.length
  log : isLog ((s5.on []).has 0)
  recs : Recs (LG.opened (s5.on []) 0 4) exRecs
  cnt : m2.count = 4 ∧ m3.count = 4 ∧ m4.count = 4

theorem r1L : recL 1 [97, 98] = [1, 2, 97, 98] := by unfold recL; rw [putL_last _ (by decide)]; rfl

theorem r2L : recL 2 [] = [2, 0] := by unfold recL; rw [putL_last _ (by decide)]; rfl

set_option maxRecDepth 100000 in
theorem example_go {s2 : DS} {m2 : LG} (g2 : Good s2 m2 []) (hcl : Clean s2) (hc2 : m2.count = 4) (hf2 : m2.first = 0) (hfr2 : m2.fresh = true) (hrun2 : m2.run = 2) (hst2 : m2.st = []) : ∃ m3 m4 s5 m5, Example s2 m2 m3 m4 s5 m5 := by
  have n1 : (1 : Int).toNat = 1 := rfl
  have n2 : (2 : Int).toNat = 2 := rfl
  have a2 := append_yes (m := m2) (kind := 1) (body := [97, 98]) g2.dead hfr2 (by omega) (by simp) (by rw [n1, r1L]; unfold LG.room; rw [hc2, hst2]; simp)
  have q2 := g2.append 1 [97, 98] (by simp)
  obtain ⟨m3, e3⟩ : ∃ m3, m3 = ({ m2 with st := m2.st ++ recL (1 : Int).toNat [97, 98], begs := m2.begs ++ [m2.st.length] } : LG) := ⟨_, rfl⟩
  rw [← e3] at a2
  have g3 : Good s2 m3 [(1, [97, 98])] := by
    rcases q2 with h | h
    · have := h.2.2.2.2.2.2.2
      rw [a2] at this
      exact this
    · rw [a2] at h; exact absurd rfl h.1
  have hst3 : m3.st = [1, 2, 97, 98] := by rw [e3, n1, r1L]; show m2.st ++ _ = _; rw [hst2]; rfl
  have hc3 : m3.count = 4 := by rw [e3]; exact hc2
  have hf3 : m3.first = 0 := by rw [e3]; exact hf2
  have hfr3 : m3.fresh = true := by rw [e3]; exact hfr2
  have hrun3 : m3.run = 2 := by rw [e3]; exact hrun2
  clear e3 q2
  have a3 := append_yes (m := m3) (kind := 2) (body := []) g3.dead hfr3 (by omega) (by simp) (by rw [n2, r2L]; unfold LG.room; rw [hc3, hst3]; simp)
  have q3 := g3.append 2 [] (by simp)
  obtain ⟨m4, e4⟩ : ∃ m4, m4 = ({ m3 with st := m3.st ++ recL (2 : Int).toNat [], begs := m3.begs ++ [m3.st.length] } : LG) := ⟨_, rfl⟩
  rw [← e4] at a3
  have g4 : Good s2 m4 exRecs := by
    rcases q3 with h | h
    · have := h.2.2.2.2.2.2.2
      rw [a3] at this
      exact this
    · rw [a3] at h; exact absurd rfl h.1
  have hst4 : m4.st = [1, 2, 97, 98, 2, 0] := by rw [e4, n2, r2L]; show m3.st ++ _ = _; rw [hst3]; rfl
  have hc4 : m4.count = 4 := by rw [e4]; exact hc3
  have hf4 : m4.first = 0 := by rw [e4]; exact hf3
  clear e4 q3
  have hf5 := Clean.flush g4 hcl
  obtain ⟨g5, e5, p5, l5, _⟩ := g4.flush_ok hf5
  obtain ⟨s5, h5⟩ : ∃ s5, s5 = (m4.flush s2).1 := ⟨_, rfl⟩
  obtain ⟨m5, h6⟩ : ∃ m5, m5 = (m4.flush s2).2.1 := ⟨_, rfl⟩
  have hfl : m4.flush s2 = (s5, m5, 0) := Prod.ext h5.symm (Prod.ext h6.symm hf5)
  rw [← h5, ← h6] at g5
  rw [← h6] at e5
  rw [← h5] at l5
  clear p5 h5 h6 hf5
  have hst5 : m5.st = [1, 2, 97, 98, 2, 0] := by rw [e5]; exact hst4
  have hc5 : m5.count = 4 := by rw [e5]; exact hc4
  have hfi5 : m5.first = 0 := by rw [e5]; exact hf4
  have hsafe : m5.safe = m5.st.length := by rw [e5]
  obtain ⟨o1, o2, o3, o4⟩ := g5.reopen hsafe []
  rw [hfi5] at o1
  rw [hfi5, hc5] at o2
  have l2 : m2.lsn m2.st.length = 33554432 := by
    have : m2.st.length = 0 := by rw [hst2]; rfl
    simp only [LG.lsn, this, hrun2]
  have l3 : m3.lsn m3.st.length = 33554436 := by
    have : m3.st.length = 4 := by rw [hst3]; rfl
    simp only [LG.lsn, this, hrun3]
  rw [l2] at a2
  rw [l3] at a3
  exact ⟨m3, m4, s5, m5, a2, a3, hfl, by unfold LG.room; rw [hc5, hst5]; rfl, l5, o1, o2, hc2, hc3, hc4⟩

end Go.Proofs.YtbagmmncjmbboaaGreat

/-
  The walk of the log's findRecords.
-/
namespace Go.Proofs.YtbagmmncjmbboaaGreat
open Go.RowKit Go.Maps
set_option linter.unusedVariables false

theorem OB.pre {w : World} {B n c : Nat} {A : Option Addr} {l : List Nat} (h : OB w B (.slice A n c) l) (k : Nat) (hk : k ≤ n) : OB w B (.slice A k c) (l.take k) := by
  obtain ⟨h1, h2, h3, h4⟩ := h
  refine ⟨fun x hx => h1 x (List.mem_of_mem_take hx), by rw [List.length_take]; omega, by simp, ?_⟩
  rcases h4 with ⟨e, hn⟩ | ⟨g, cap, cur, e, hb, hg, hn, hc, hs, ht⟩
  · injection e with e1 e2 e3
    subst e1 e2 e3
    obtain rfl : k = 0 := by omega
    exact .inl ⟨rfl, by simp⟩
  · injection e with e1 e2 e3
    subst e1 e2 e3
    refine .inr ⟨g, c, cur, ?_, hb, hg, ?_, hc, hs, ?_⟩
    · rw [List.length_take, Nat.min_eq_left (by omega)]
    · rw [List.length_take]; omega
    · rw [List.map_take, List.length_take, Nat.min_eq_left (by omega), ← ht, List.take_take]
      congr 1
      omega

theorem getText_w (v : Value) (l : List Nat) (at_ : Int) (w : World) (hv : RB w w.heap.size v l) :
    Calls Tryz.prog 105 #[v, .int .i64 at_, .int .i64 1200] w fun e w' => ∃ v', e = .returned (.tuple #[v', .int .i64 ((textA l at_ 1200).2.1 : Nat), .int .i64 ((textA l at_ 1200).2.2 : Nat)]) ∧ OB w' w.heap.size v' (textA l at_ 1200).1 ∧ Below w.heap.size w w' := by
  obtain ⟨ru, rn, re, hr⟩ : ∃ ru rn re, getA l at_ = (ru, rn, re) := ⟨_, _, _, rfl⟩
  by_cases h0 : re = 0
  · subst h0
    exact getText_ok v l at_ 1200 w hv ru rn hr (by omega) (by omega)
  · refine (getText_err v l at_ 1200 w w.heap.size hv ru rn re hr h0).mono ?_
    rintro e w' ⟨rfl, rfl⟩
    have e : textA l at_ 1200 = ([], 0, re) := by unfold textA; rw [hr, if_pos h0]
    rw [e]
    exact ⟨_, rfl, OB.nil _ _, Below.refl _ _⟩

/-- The log whose stream is cut. -/
def LG.cutTo (m : LG) (acc : List Nat) (k : Nat) : LG := { m with st := m.st.take k, begs := acc }

theorem cut_fin {wr : World} {p sb mb g B g1 L cap k : Nat} {pl : Option Nat} {s : DS} {bv : Value} {m : LG} {acc : List Nat} (h : WalAt wr p sb mb pl s g B (.slice (some ⟨g1, 0, none⟩) L cap) bv { m with begs := acc }) (hs : m.safe = 0) (hk : k ≤ L) (hL : L = m.st.length) (ha : acc.length ≤ k ∧ ∀ b ∈ acc, b < k) :
    WalAt (wr.setCell ⟨g, 5, none⟩ (.slice (some ⟨g1, 0, none⟩) k cap)) p sb mb pl s g B (.slice (some ⟨g1, 0, none⟩) k cap) bv (m.cutTo acc k) := by
  have hl : (m.st.take k).length = k := by rw [List.length_take]; omega
  have hok := h.lg.ok
  have hst : (m.cutTo acc k).st.length ≤ m.count * 498 := by have := hok.st; show (m.st.take k).length ≤ _; rw [hl]; dsimp only at this; omega
  refine ⟨h.dk.setLog h 5 _, ⟨⟨hok.first, hok.count, hok.run, hst, ?_, ?_⟩, ?_, ?_, ?_, ?_, ?_, ?_, h.lg.base⟩, h.sep, ?_⟩
  · show m.safe ≤ (m.st.take k).length; omega
  · show acc.length ≤ (m.st.take k).length ∧ ∀ b ∈ acc, b < (m.st.take k).length; rw [hl]; exact ha
  · exact h.lg.blk.set_ 5 _
  · have h1 := (h.lg.st.pre k hk).mod ((Mod.refl (fun k => k = g) wr).setCell (p := ⟨g, 5, none⟩) (fun _ => rfl) (.slice (some ⟨g1, 0, none⟩) k cap)) (fun b hb e => h.lg.far1 (by
      simp only [Value.ownBlock] at hb ⊢
      rw [hb, e]))
    exact h1
  · exact h.lg.begs.mod ((Mod.refl (fun k => k = g) wr).setCell (p := ⟨g, 5, none⟩) (fun _ => rfl) (.slice (some ⟨g1, 0, none⟩) k cap)) (fun b hb e => h.lg.far2 (by rw [hb, e]))
  · exact h.lg.far1
  · exact h.lg.far2
  · exact h.lg.far3
  · exact h.pl

theorem begs_fin {w1 w4 : World} {p sb mb g B k : Nat} {pl : Option Nat} {s : DS} {sv bv v3 : Value} {m : LG} {acc : List Nat} {o : Obj} (hA : WalAt w1 p sb mb pl s g B sv bv { m with begs := acc }) (k1 : OK encN 1 3 w4 B v3 (acc ++ [k])) (k2 : (w1.alloc o).grownBy w4 bv.ownBlock) (k3 : v3.ownBlock = bv.ownBlock ∨ v3.ownBlock = some (w1.alloc o).heap.size)
    (hb : (acc ++ [k]).length ≤ m.st.length ∧ ∀ b ∈ acc ++ [k], b < m.st.length) : WalAt (w4.setCell ⟨g, 6, none⟩ v3) p sb mb pl s g B sv v3 { m with begs := acc ++ [k] } ∧ Mod (fun j => j = g ∨ bv.ownBlock = some j) w1 (w4.setCell ⟨g, 6, none⟩ v3) := by
  have hlt := hA.lg.lt
  have hf2 : v3.ownBlock ≠ some g := fun e => by
    rcases k3 with h | h
    · exact hA.lg.far2 (by rw [← h, e])
    · rw [h] at e; injection e with e; simp at e; omega
  have hm0 : Mod (fun j => j = g ∨ bv.ownBlock = some j) w1 w4 := ((Mod.refl (fun j => j = g ∨ bv.ownBlock = some j) w1).alloc o).trans (Mod.of_grown k2) (fun j _ e => .inr e.symm)
  have hm1 : Mod (fun j => j = g) w4 (w4.setCell ⟨g, 6, none⟩ v3) := (Mod.refl (fun j => j = g) w4).setCell (p := ⟨g, 6, none⟩) (fun _ => rfl) _
  have hmm := hm0.trans hm1 (fun j _ e => .inl e)
  have hB : ∀ j, j < B → ¬ (j = g ∨ bv.ownBlock = some j) := fun j hj e => by
    rcases e with e | e
    · have := hA.lg.base; omega
    · have := (hA.lg.own j (.inr (.inr e))).1; omega
  refine ⟨⟨hA.dk.mod hmm (hB _ hA.sep.1) (hB _ hA.sep.2.1) (hB _ hA.sep.2.2) (fun b hb e => hA.pl b hb ?_), ⟨⟨hA.lg.ok.first, hA.lg.ok.count, hA.lg.ok.run, hA.lg.ok.st, hA.lg.ok.safe, hb⟩, ?_, ?_, ?_, hA.lg.far1, hf2, ?_, hA.lg.base⟩, hA.sep, fun b hb hk => ?_⟩, hmm⟩
  · rcases e with e | e
    · exact .inl e
    · exact .inr (.inr e)
  · exact ((hA.lg.blk.alloc o).grown k2 (fun e => hA.lg.far2 e.symm)).set_ 6 v3
  · exact ((hA.lg.st.alloc o).kept k2 hA.lg.far3).mod hm1 (fun b hb e => hA.lg.far1 (by rw [hb, e]))
  · exact k1.mod hm1 (fun b hb e => hf2 (by rw [hb, e]))
  · rcases k3 with h | h
    · rw [h]; exact hA.lg.far3
    · cases hs : sv.ownBlock with
      | none => exact .inl rfl
      | some j =>
        refine .inr fun e => ?_
        rw [h] at e
        injection e with e
        have := (hA.lg.own j (.inr (.inl hs))).2
        simp at e
        omega
  · have hbl := hA.dk.lt.2.2.2 b hb
    refine hA.pl b hb ?_
    rcases hk with hk | hk | hk
    · exact .inl hk
    · exact .inr (.inl hk)
    · rcases k3 with h | h
      · exact .inr (.inr (by rw [← h]; exact hk))
      · rw [h] at hk; injection hk with hk; simp at hk; omega

theorem scan_go {st : List Nat} {n a : Nat} (h1 : a < st.length) (h2 : 1 ≤ st[a]) (h3 : (textA st ((a : Int) + 1) 1200).2.2 = 0) : scan st (n + 1) a = (a :: (scan st n (textA st ((a : Int) + 1) 1200).2.1).1, (scan st n (textA st ((a : Int) + 1) 1200).2.1).2) := by
  have h4 : st.getD a 0 = st[a] := by simp [List.getD, h1]
  rw [scan, if_pos ⟨h1, by rw [h4]; exact h2, h3⟩]

theorem scan_end {st : List Nat} (n : Nat) {a : Nat} (h : st.length ≤ a) : scan st n a = ([], a) := by
  cases n with
  | zero => rfl
  | succ n => rw [scan, if_neg (fun e => by omega)]

theorem scan_zero {st : List Nat} (n : Nat) {a : Nat} (h1 : a < st.length) (h : ¬ 1 ≤ st[a]) : scan st n a = ([], a) := by
  have h4 : st.getD a 0 = st[a] := by simp [List.getD, h1]
  cases n with
  | zero => rfl
  | succ n => rw [scan, if_neg (fun e => h (by rw [← h4]; exact e.2.1))]

theorem scan_err {st : List Nat} (n : Nat) {a : Nat} (h : (textA st ((a : Int) + 1) 1200).2.2 ≠ 0) : scan st n a = ([], a) := by
  cases n with
  | zero => rfl
  | succ n => rw [scan, if_neg (fun e => h e.2.2)]

set_option maxRecDepth 100000 in
set_option maxHeartbeats 1000000 in
theorem findRecords_some (w : World) (p sb mb g B g1 L cap : Nat) (pl : Option Nat) (s : DS) (m : LG) (h : WalAt w p sb mb pl s g B (.slice (some ⟨g1, 0, none⟩) L cap) (.slice none 0 0) m) (hL : L = m.st.length) (hb : m.begs = []) (hs : m.safe = 0) (hc : m.count ≤ 1000) :
    Calls Tryz.prog 78 #[.pointer (some ⟨g, 0, none⟩)] w fun e w' => e = .returned (.tuple #[]) ∧ (∃ sv' bv', WalAt w' p sb mb pl s g B sv' bv' (m.cutTo (scan m.st (m.st.length + 1) 0).1 (scan m.st (m.st.length + 1) 0).2)) ∧ Mod (fun k => k = g) w w' := by
  have hm0 : m = { m with begs := [] } := by rw [← hb]
  have h0 : WalAt w p sb mb pl s g B (.slice (some ⟨g1, 0, none⟩) L cap) (.slice none 0 0) { m with begs := [] } := by rw [← hm0]; exact h
  have H := Lib.hid h0
  have HL := Lib.hid hL
  have HS := Lib.hid hs
  have hL1 : L ≤ 498000 := by have := h.lg.ok.st; omega
  have hcap : L ≤ cap ∧ cap ≤ 9223372036854775807 := by
    obtain ⟨A, c, e, h3, h4, _⟩ := h.lg.st.rbn.open_
    injection e with _ e2 e3
    omega
  obtain ⟨hcap1, hcap2⟩ := hcap
  obtain ⟨T, hT⟩ : ∃ T, T = scan m.st (m.st.length + 1) 0 := ⟨_, rfl⟩
  rw [← hT]
  have HT := Lib.hid hT
  have hglt := h.lg.lt
  have hbg := Lib.hid h.lg.base
  clear h h0 hm0 hb hs hT hL hc
  go_enter Tryz.func78, Tryz.ntmps78
  go_wp2_with fail
  go_loopw [2] (fun i wr => ∃ (k n : Nat) (acc : List Nat) (bv : Value), i = .int .i64 k ∧ k ≤ L ∧ Hid (L - k < n) ∧ Hid ((acc ++ (scan m.st n k).1, (scan m.st n k).2) = T) ∧ Hid (acc.length ≤ k ∧ ∀ b ∈ acc, b < k) ∧ Hid (∀ j, bv.ownBlock = some j → w.heap.size ≤ j) ∧ Hid (WalAt wr p sb mb pl s g B (.slice (some ⟨g1, 0, none⟩) L cap) bv { m with begs := acc }) ∧ Hid (Mod (fun k => k = g) w wr)) (fun i wr => L - (intOf i).toNat)
  case atStart => exact ⟨0, L + 1, [], .slice none 0 0, rfl, by omega, Lib.hid (by omega), Lib.hid (by rw [HT.out, HL.out]; rfl), Lib.hid (by simp), Lib.hid (fun j h => by cases h), H, Lib.hid (Mod.refl _ _)⟩
  case round =>
    obtain ⟨k, n, acc, bv, rfl, hk, HN, HE, HA, HNEW, HW, HM⟩ := hrel
    have c5 : wr.cell? ⟨g, 5, none⟩ = some (.slice (some ⟨g1, 0, none⟩) L cap) := HW.out.lg.blk.cell 5
    have f5 := HW.out.lg.blk.frozen 5
    have hRB : Hid (RB wr wr.heap.size (.slice (some ⟨g1, 0, none⟩) L cap) m.st) := Lib.hid HW.out.lg.st.rbn
    by_cases hkL : k < L
    · obtain ⟨x, hx⟩ : ∃ x, x = m.st[k]'(by rw [← HL.out]; exact hkL) := ⟨_, rfl⟩
      have hcell : wr.cell? ⟨g1, k, none⟩ = some (.int .u8 (x : Int)) ∧ x < 256 := by
        obtain ⟨A, c, e, h3, h4, h5, h6⟩ := hRB.out.open_
        obtain ⟨b, off, e2, h7, h8, h9⟩ := h6.out k (by rw [← HL.out]; exact hkL)
        injection e with e1 e3 e4
        rw [← e1] at e2
        injection e2 with e2
        injection e2 with e5 e6
        rw [← hx] at h8 h9
        subst e5
        subst e6
        rw [Nat.zero_add] at h8
        exact ⟨h8, h9⟩
      obtain ⟨hcell, hx256⟩ := hcell
      have HX := Lib.hid hx
      clear hx
      by_cases hx1 : 1 ≤ x
      · obtain ⟨t, ht⟩ : ∃ t, t = textA m.st ((k : Int) + 1) 1200 := ⟨_, rfl⟩
        obtain ⟨tb, tn, te⟩ := t
        have HTX := Lib.hid ht
        clear ht
        go_wp2_with fail
        refine (getText_w _ m.st ((k : Int) + 1) wr hRB.out).mono ?_
        rw [← HTX.out]
        rintro e w1 ⟨v1, rfl, ho1, hb1⟩
        have HB1 := Lib.hid hb1
        obtain ⟨A1, c1, rfl, -, -, -, -⟩ := ho1.rbn.open_
        have HW1 : Hid (WalAt w1 p sb mb pl s g B (.slice (some ⟨g1, 0, none⟩) L cap) bv { m with begs := acc }) := Lib.hid (HW.out.below HB1.out)
        have HM1 : Hid (Mod (fun k => k = g) w w1) := Lib.hid (HM.out.trans' (Mod.of_below HB1.out _))
        clear ho1 hb1 c5 f5 hcell
        by_cases hte : te = 0
        · subst hte
          have hnx : Hid (k + 1 < tn ∧ tn ≤ L) := Lib.hid (by
            have h := textA_next m.st ((k : Int) + 1) (by rw [← HTX.out])
            rw [← HTX.out] at h
            dsimp only at h
            rw [HL.out]
            omega)
          obtain ⟨n', rfl⟩ : ∃ n', n = n' + 1 := ⟨n - 1, by have := HN.out; omega⟩
          have hE2 : Hid (((acc ++ [k]) ++ (scan m.st n' tn).1, (scan m.st n' tn).2) = T) := Lib.hid (by
            have h := HE.out
            rw [scan_go (by rw [← HL.out]; exact hkL) (by rw [← HX.out]; exact hx1) (by rw [← HTX.out]), ← HTX.out] at h
            rw [List.append_assoc]
            exact h)
          have hacc : Hid ((acc ++ [k]).length ≤ k + 1 ∧ ∀ b ∈ acc ++ [k], b < k + 1) := Lib.hid (by
            have h := HA.out
            rw [List.length_append, List.length_singleton]
            refine ⟨by omega, fun b hb => ?_⟩
            rcases List.mem_append.1 hb with hb | hb
            · have := h.2 b hb; omega
            · rw [List.mem_singleton.1 hb]; omega)
          obtain ⟨Ab, cb, hbv⟩ := HW1.out.lg.begins
          obtain ⟨nb, hnb⟩ : ∃ nb, nb = acc.length := ⟨_, rfl⟩
          have hbv2 : bv = .slice Ab nb cb := by rw [hbv, hnb]
          subst hbv2
          have HNB := Lib.hid hnb
          clear hbv hnb
          have hbg1 : Hid (OK encN 1 3 w1 B (.slice Ab nb cb) acc) := Lib.hid HW1.out.lg.begs
          have c6 : w1.cell? ⟨g, 6, none⟩ = some (.slice Ab nb cb) := HW1.out.lg.blk.cell 6
          have hnb1 : nb + 1 ≤ 1000000 := by have := HA.out.1; have := HNB.out; omega
          have hB1 : Hid (B ≤ w1.heap.size) := Lib.hid (by have := hbg.out; have := HW1.out.lg.lt; omega)
          go_wp2_with (first
            | (at_builtin; refine wpList_appE etN encN_len encN_one (y := k) rfl (.tmp 40) (.tmp 42) rfl rfl (hbg1.out.alloc _) w1.heap.size rfl (by intro j u hu; rw [(Blk.new w1 _ _).cell j]; simpa [encN] using hu) (by rw [← HNB.out]; omega) (by have := hB1.out; simp; omega) ?_; intro v3 w4 k1 k2 k3; obtain ⟨A3, c3, hv3, -, -, -, -⟩ := (k1.rk encN_len (Nat.le_refl _)).open_; subst hv3; obtain ⟨nb3, hnb3⟩ : ∃ x, x = (acc ++ [k]).length := ⟨_, rfl⟩; rw [← hnb3] at k1 k3 ⊢; have HFIN := Lib.hid (begs_fin (m := m) HW1.out k1 k2 k3 (by have h := hacc.out; have h2 := HL.out; refine ⟨by omega, fun b hb => ?_⟩; have := h.2 b hb; omega)); have HX4 : Hid (Blk w4 g _ _) := Lib.hid ((HW1.out.lg.blk.alloc _).grown k2 (fun e => HW1.out.lg.far2 e.symm)); have hnew3 : Hid (∀ j, (Value.slice A3 nb3 c3).ownBlock = some j → w.heap.size ≤ j) := Lib.hid (fun j hj => by have hz := HM1.out.size; rcases k3 with h | h; (exact HNEW.out j (h.symm.trans hj)); (rw [h] at hj; injection hj with hj; simp at hj; omega)); have d6 : w4.cell? ⟨g, 6, none⟩ = some (.slice Ab nb cb) := HX4.out.cell 6; have f6 := HX4.out.frozen 6; clear k1 k2 k3 hnb3))
          go_roundw
          case rel => exact ⟨tn, n', acc ++ [k], _, rfl, by have := hnx.out; omega, Lib.hid (by have := hnx.out; have := HN.out; omega), hE2, Lib.hid (by have h := hacc.out; have := hnx.out; refine ⟨by omega, fun b hb => ?_⟩; have := h.2 b hb; omega), hnew3, Lib.hid HFIN.out.1, Lib.hid (HM1.out.trans HFIN.out.2 (fun j hj e => by rcases e with e | e; exact e; (have := HNEW.out j e; omega)))⟩
          case measure => have := hnx.out; simp [intOf]; omega
        · have hte2 : ¬ (te : Int) = 0 := by omega
          have c5 : w1.cell? ⟨g, 5, none⟩ = some (.slice (some ⟨g1, 0, none⟩) L cap) := HW1.out.lg.blk.cell 5
          have f5 := HW1.out.lg.blk.frozen 5
          have hfin : Hid (T = (acc, k)) := Lib.hid (by rw [← HE.out, scan_err n (by rw [← HTX.out]; exact hte), List.append_nil])
          go_wp2_with fail
          go_end0
          rw [hfin.out]
          exact ⟨rfl, ⟨_, _, cut_fin HW1.out HS.out hk HL.out HA.out⟩, HM1.out.setCell (p := ⟨g, 5, none⟩) (fun _ => rfl) _⟩
      · have hfin : Hid (T = (acc, k)) := Lib.hid (by rw [← HE.out, scan_zero n (by rw [← HL.out]; exact hkL) (by rw [← HX.out]; exact hx1), List.append_nil])
        obtain rfl : x = 0 := by omega
        go_wp2_with fail
        go_end0
        rw [hfin.out]
        exact ⟨rfl, ⟨_, _, cut_fin HW.out HS.out hk HL.out HA.out⟩, HM.out.setCell (p := ⟨g, 5, none⟩) (fun _ => rfl) _⟩
    · have hfin : Hid (T = (acc, k)) := Lib.hid (by rw [← HE.out, scan_end n (by rw [← HL.out]; omega), List.append_nil])
      go_wp2_with fail
      go_end0
      rw [hfin.out]
      exact ⟨rfl, ⟨_, _, cut_fin HW.out HS.out hk HL.out HA.out⟩, HM.out.setCell (p := ⟨g, 5, none⟩) (fun _ => rfl) _⟩

end Go.Proofs.YtbagmmncjmbboaaGreat

/-
  The walks of the log's record and recordsOf.
-/
namespace Go.Proofs.YtbagmmncjmbboaaGreat
open Go.RowKit Go.Maps
set_option linter.unusedVariables false

theorem ret_rec {fn : Func} {q : Tmp} {a : Act} {w : World} {post : Ending → World → Prop} {b : Nat} {v0 v1 v2 : Value} (hr : fn.results = #[.cell q 166]) (hp : a.tmps.getD q undef = .pointer (some ⟨b, 0, none⟩))
    (hB : Blk w b 166 #[v0, v1, v2]) (hd : a.defers = []) (h : post (.returned (.agg #[v0, v1, v2])) w) : bodyPost Tryz.prog fn post .ret a w := by
  refine bodyPost_ret (v := .agg #[v0, v1, v2]) ?_ hd h
  have hp' : a.tmps[q]?.getD undef = .pointer (some ⟨b, 0, none⟩) := by simpa using hp
  have e0 : w.cell? ⟨b, 0, none⟩ = some v0 := hB.cell 0
  have e1 : w.cell? ⟨b, 1, none⟩ = some v1 := hB.cell 1
  have e2 : w.cell? ⟨b, 2, none⟩ = some v2 := hB.cell 2
  simp only [results, hr]
  go_simp

theorem stream_cell {w : World} {p g B L k : Nat} {A : Option Addr} {cap : Nat} {bv : Value} {m : LG} (h : LogAt w p g B (.slice A L cap) bv m) (hk : k < m.st.length) :
    ∃ g1, A = some ⟨g1, 0, none⟩ ∧ w.cell? ⟨g1, k, none⟩ = some (.int .u8 ((m.st.getD k 0 : Nat) : Int)) ∧ m.st.getD k 0 < 256 := by
  have hd : m.st.getD k 0 = m.st[k] := by simp [List.getD, hk]
  rcases h.st.2.2.2 with ⟨e, hn⟩ | ⟨g1, cap', cur, e, _⟩
  · rw [hn] at hk; omega
  · injection e with e1 e2 e3
    obtain ⟨A', c, e, h3, h4, h5, h6⟩ := h.st.rbn.open_
    obtain ⟨b, off, e2, h7, h8, h9⟩ := h6.out k hk
    injection e with e5 _ _
    rw [← e5, e1] at e2
    injection e2 with e2
    injection e2 with e6 e7
    subst e6 e7
    rw [Nat.zero_add] at h8
    exact ⟨g1, e1, by rw [hd]; exact h8, by rw [hd]; exact h9⟩

theorem begs_cell {w : World} {p g B i : Nat} {sv bv : Value} {m : LG} (h : LogAt w p g B sv bv m) (hi : i < m.begs.length) :
    ∃ g2 c, bv = .slice (some ⟨g2, 0, none⟩) m.begs.length c ∧ w.cell? ⟨g2, i, none⟩ = some (.int .i64 ((m.begs.getD i 0 : Nat) : Int)) := by
  have hd : m.begs.getD i 0 = m.begs[i] := by simp [List.getD, hi]
  rcases h.begs.2.2 with ⟨e, hn⟩ | ⟨g2, cap', cur, e, _⟩
  · omega
  · obtain ⟨A', c, e', h3, h4, h5, h6⟩ := (h.begs.rk encN_len (Nat.le_refl _)).open_
    obtain ⟨b, off, e2, h7, h8⟩ := h6.out i hi
    rw [e] at e'
    injection e' with e5 _ _
    rw [← e5] at e2
    injection e2 with e2
    injection e2 with e6 e7
    subst e6 e7
    have := h8 0 _ rfl
    rw [Nat.zero_add, Nat.mul_one, Nat.add_zero] at this
    exact ⟨g2, cap', e, by rw [hd]; exact this⟩

set_option maxRecDepth 100000 in
set_option maxHeartbeats 1000000 in
theorem record_any (w : World) (p g B : Nat) (sv bv : Value) (m : LG) (h : LogAt w p g B sv bv m) (i : Nat) (hi : i < m.begs.length) :
    Calls Tryz.prog 106 #[.pointer (some ⟨g, 0, none⟩), .int .i64 (i : Int)] w fun e w' => ∃ v, e = .returned (.agg #[.int .i64 (m.lsn (m.begs.getD i 0) : Int), .int .i64 ((m.st.getD (m.begs.getD i 0) 0 : Nat) : Int), v]) ∧ OB w' w.heap.size v (textA m.st ((m.begs.getD i 0 : Nat) + 1 : Int) 1200).1 ∧ Below w.heap.size w w' := by
  obtain ⟨g2, c2, hbv, hcb⟩ := begs_cell h hi
  obtain ⟨k, hk⟩ : ∃ k, k = m.begs.getD i 0 := ⟨_, rfl⟩
  have hkb : k < m.st.length := by
    have h2 : m.begs.getD i 0 = m.begs[i] := by simp [List.getD, hi]
    rw [hk, h2]
    exact h.ok.begs.2 _ (List.getElem_mem hi)
  rw [← hk] at hcb ⊢
  obtain ⟨A, c, hsv⟩ := h.stream
  obtain ⟨L, hL⟩ : ∃ L, L = m.st.length := ⟨_, rfl⟩
  have hsv2 : sv = .slice A L c := by rw [hsv, hL]
  subst hsv2
  obtain ⟨g1, hA, hcs, hx256⟩ := stream_cell h hkb
  subst hA
  obtain ⟨x, hx⟩ : ∃ x, x = m.st.getD k 0 := ⟨_, rfl⟩
  rw [← hx] at hcs hx256 ⊢
  rw [hbv] at h
  obtain ⟨nb, hnb⟩ : ∃ nb, nb = m.begs.length := ⟨_, rfl⟩
  rw [← hnb] at h hi
  have hLb : L ≤ 2039808 := by rw [hL]; exact h.ok.num
  rw [← hL] at hkb
  have a5 := h.blk.cell 5
  have a6 := h.blk.cell 6
  have hg1 : g1 < w.heap.size := (h.st.lt g1 rfl).2
  have hg2 : g2 < w.heap.size := (h.begs.lt g2 rfl).2
  have hg : g < w.heap.size := h.lt
  have HL := Lib.hid h
  have hw8 : IntKind.i64.wrap (x : Int) = (x : Int) := by rw [IntKind.wrap_i64]; omega
  have HB1 : Hid (Below w.heap.size w (w.alloc (.cells #[.int .i64 0, .int .i64 0, .slice none 0 0] 166))) := Lib.hid ((Below.refl _ _).alloc (Nat.le_refl _) _)
  have HK1 : Hid (Blk (w.alloc (.cells #[.int .i64 0, .int .i64 0, .slice none 0 0] 166)) w.heap.size 166 #[.int .i64 0, .int .i64 0, .slice none 0 0]) := Lib.hid (Blk.new _ _ _)
  have HR1 : Hid (RB (w.alloc (.cells #[.int .i64 0, .int .i64 0, .slice none 0 0] 166)) (w.alloc (.cells #[.int .i64 0, .int .i64 0, .slice none 0 0] 166)).heap.size (.slice (some ⟨g1, 0, none⟩) L c) m.st) := Lib.hid (HL.out.below HB1.out).st.rbn
  clear h hbv hk hL hsv hx hnb
  go_enter Tryz.func106, Tryz.ntmps106
  go_wp2_with fail
  refine (getText_w _ m.st ((k : Int) + 1) _ HR1.out).mono ?_
  rintro e w2 ⟨v2, rfl, ho2, hb2⟩
  have HO2 : Hid (OB w2 w.heap.size v2 (textA m.st ((k : Int) + 1) 1200).1) := Lib.hid (ho2.base (by simp))
  have HB2 : Hid (Below w.heap.size w w2) := Lib.hid (HB1.out.trans (hb2.mono (by simp)))
  have HK2 : Hid (Blk w2 w.heap.size 166 #[.int .i64 0, .int .i64 0, .slice none 0 0]) := Lib.hid (HK1.out.below hb2 (by simp))
  have HF2 : Hid (∀ j, v2.ownBlock = some j → j ≠ w.heap.size) := Lib.hid (fun j hj e => by have := (ho2.lt j hj).1; simp at this; omega)
  obtain ⟨A2, c2', hv2, -, -, -, -⟩ := ho2.rbn.open_
  obtain ⟨n2, hn2⟩ : ∃ n2, n2 = (textA m.st ((k : Int) + 1) 1200).1.length := ⟨_, rfl⟩
  rw [← hn2] at hv2
  subst hv2
  have HL2 : Hid (LogAt w2 p g B (.slice (some ⟨g1, 0, none⟩) L c) (.slice (some ⟨g2, 0, none⟩) nb c2) m) := Lib.hid (HL.out.below HB2.out)
  have b5 : w2.cell? ⟨g, 5, none⟩ = some (.slice (some ⟨g1, 0, none⟩) L c) := (HB2.out.cell (p := ⟨g, 5, none⟩) hg).trans a5
  have bs : w2.cell? ⟨g1, k, none⟩ = some (.int .u8 (x : Int)) := (HB2.out.cell (p := ⟨g1, k, none⟩) hg1).trans hcs
  have z0 := HK2.out.cell 0
  have z1 := HK2.out.cell 1
  have z2 := HK2.out.cell 2
  have y0 := HK2.out.frozen 0
  have y1 := HK2.out.frozen 1
  have y2 := HK2.out.frozen 2
  clear ho2 hb2 hn2 a5 a6 hcb hcs
  go_wp2_with fail
  go_region_law (first
    | (go_simp; go_at_call 62; refine (lsn_any _ p g B _ _ m (HL2.out.below (below_drewN (Below.refl _ _) 1)) k (by omega)).mono ?_; rintro e w3 ⟨rfl, h3⟩; subst w3))
  all_goals (
    go_wp2_with fail
    refine ret_rec Tryz.results106 rfl (((HK2.out.drewN 1).set_ 0 _).set_ 1 _ |>.set_ 2 _) rfl ?_
    exact ⟨_, rfl, HO2.out.mod (((((Mod.refl (fun j => j = w.heap.size) w2).drewN 1).setCell (p := ⟨w.heap.size, 0, none⟩) (fun _ => rfl) _).setCell (p := ⟨w.heap.size, 1, none⟩) (fun _ => rfl) _).setCell (p := ⟨w.heap.size, 2, none⟩) (fun _ => rfl) _) HF2.out,
      ((((below_drewN HB2.out 1).setCell (p := ⟨w.heap.size, 0, none⟩) (Nat.le_refl _) _).setCell (p := ⟨w.heap.size, 1, none⟩) (Nat.le_refl _) _).setCell (p := ⟨w.heap.size, 2, none⟩) (Nat.le_refl _) _)⟩)

/-- A record as it lies in a row: its LSN, its kind, its body's slice, and the body. -/
structure RecV where
  lsn : Nat
  kind : Nat
  A : Option Addr
  n : Nat
  c : Nat
  body : List Nat

def RecV.v (x : RecV) : Value := .slice x.A x.n x.c

def encRec (x : RecV) : List Value := [.int .i64 (x.lsn : Int), .int .i64 (x.kind : Int), x.v]

theorem encRec_len (x : RecV) : (encRec x).length = 3 := rfl

/-- A told record: LSN, kind, body. -/
abbrev Told := Nat × Nat × List Nat

def RecV.told (x : RecV) : Told := (x.lsn, x.kind, x.body)

/-- The slice v reads as these records. -/
def RecsAt (w : World) (v : Value) (ts : List Told) : Prop := ∃ xs : List RecV, RK encRec 3 w w.heap.size v xs ∧ (∀ x ∈ xs, RB w w.heap.size x.v x.body) ∧ xs.map RecV.told = ts

theorem RecsAt.below {w w' : World} {v : Value} {ts : List Told} (h : RecsAt w v ts) (hb : Below w.heap.size w w') : RecsAt w' v ts := by
  obtain ⟨xs, h1, h2, h3⟩ := h
  exact ⟨xs, (h1.below hb).more hb.size, fun x hx => ((h2 x hx).below hb).more hb.size, h3⟩

/-- The i-th record of a log. -/
def LG.tell (m : LG) (i : Nat) : Told := (m.lsn (m.begs.getD i 0), m.st.getD (m.begs.getD i 0) 0, (textA m.st ((m.begs.getD i 0 : Nat) + 1 : Int) 1200).1)

theorem encRec_one (x : RecV) : ∀ u ∈ encRec x, u.oneCell' = true := by
  intro u hu
  simp only [encRec, List.mem_cons, List.not_mem_nil, or_false] at hu
  rcases hu with rfl | rfl | rfl <;> rfl

theorem etR : ElemT 83 166 3 40 := elemT_of (z := .agg #[.int .i64 0, .int .i64 0, .slice none 0 0]) Tryz.underlying83 (by kernel_rfl) (by kernel_rfl) (by decide) (by decide) (by decide)

/-- .. and in blocks of their own, from base on. -/
def RecsOwn (w : World) (base : Nat) (v : Value) (ts : List Told) : Prop := ∃ xs : List RecV, OK encRec 3 166 w base v xs ∧ (∀ x ∈ xs, RB w w.heap.size x.v x.body ∧ Off (fun b => b < base) x.v x.body) ∧ xs.map RecV.told = ts

theorem RecsOwn.at_ {w : World} {base : Nat} {v : Value} {ts : List Told} (h : RecsOwn w base v ts) : RecsAt w v ts := by
  obtain ⟨xs, h1, h2, h3⟩ := h
  exact ⟨xs, h1.rk encRec_len (Nat.le_refl _), fun x hx => (h2 x hx).1, h3⟩

theorem RecsOwn.below {w w' : World} {base : Nat} {v : Value} {ts : List Told} (h : RecsOwn w base v ts) (hb : Below w.heap.size w w') : RecsOwn w' base v ts := by
  obtain ⟨xs, h1, h2, h3⟩ := h
  exact ⟨xs, h1.below hb, fun x hx => ⟨((h2 x hx).1.below hb).more hb.size, (h2 x hx).2⟩, h3⟩

theorem RecsOwn.mono_ {w : World} {base base' : Nat} {v : Value} {ts : List Told} (h : RecsOwn w base v ts) (hb : base' ≤ base) : RecsOwn w base' v ts := by
  obtain ⟨xs, h1, h2, h3⟩ := h
  exact ⟨xs, h1.base hb, fun x hx => ⟨(h2 x hx).1, (h2 x hx).2.mono (fun k hk => by omega)⟩, h3⟩

theorem RecsOwn.mod {S : Nat → Prop} {w w' : World} {base : Nat} {v : Value} {ts : List Told} (h : RecsOwn w base v ts) (hm : Mod S w w') (hs : ∀ k, S k → k < base) : RecsOwn w' base v ts := by
  obtain ⟨xs, h1, h2, h3⟩ := h
  exact ⟨xs, h1.mod hm (fun b hb e => by have := (h1.lt b hb).1; have := hs b e; omega), fun x hx => ⟨(h2 x hx).1.mod hm ((h2 x hx).2.mono hs), (h2 x hx).2⟩, h3⟩

end Go.Proofs.YtbagmmncjmbboaaGreat

/-
  The walk of the log's recordsOf.
-/
namespace Go.Proofs.YtbagmmncjmbboaaGreat
open Go.RowKit Go.Maps
set_option linter.unusedVariables false

theorem make_own {t E k bytes : Nat} (et : ElemT t E k bytes) (q : Nat) (hq : q ≤ 1000000) : ∃ o : Obj, (∀ W : World, (Instr.makeSlice t (.int .i64 0) (.int .i64 (q : Int))).run Tryz.prog W = .ok (.slice (some ⟨W.heap.size, 0, none⟩) 0 q) (W.alloc o)) ∧
    ∀ {α : Type} (enc : α → List Value) (W : World) (B : Nat), B ≤ W.heap.size → OK enc k E (W.alloc o) B (.slice (some ⟨W.heap.size, 0, none⟩) 0 q) [] := by
  obtain ⟨i, z, hi, hz0, hz1, hz2, hz3⟩ := et.info
  have hb : bytes * q ≤ 1000 * 1000000 := Nat.mul_le_mul et.small hq
  refine ⟨.cells (madeCells z.cells (q * i.size)) E, fun W => ?_, fun enc W B hB => ⟨by simp, ?_⟩⟩
  · have hbi : (i.bytes : Int) * (q : Int) ≤ 281474976710656 := by
      have h : ((i.bytes * q : Nat) : Int) ≤ 281474976710656 := by rw [hz2]; omega
      rwa [Int.natCast_mul] at h
    have := run_make (P := Tryz.prog) W t E i z et.under hi hz0 .i64 .i64 0 (q : Int) (by omega) (by omega) hbi (by omega)
    simpa using this
  · exact World.ownsRow_made W _ q hB (by simp only [maxLen]; omega) (by rw [size_madeCells, hz1])

/-- What is known of the records laid so far: their bodies lie apart from the row. -/
def BodiesAt (w : World) (z : Nat) (v : Value) (xs : List RecV) : Prop := ∀ x ∈ xs, RB w w.heap.size x.v x.body ∧ Off (fun b => v.ownBlock = some b) x.v x.body ∧ Off (fun b => b < z) x.v x.body

set_option maxRecDepth 100000 in
set_option maxHeartbeats 1000000 in
theorem recordsOf_own (w : World) (p g B : Nat) (sv bv : Value) (m : LG) (h : LogAt w p g B sv bv m) (i0 : Nat) (hi : i0 ≤ m.begs.length) (hc : m.begs.length ≤ 900000) :
    Calls Tryz.prog 79 #[.pointer (some ⟨g, 0, none⟩), .int .i64 (i0 : Int)] w fun e w' => ∃ v, e = .returned v ∧ RecsOwn w' w.heap.size v ((List.range (m.begs.length - i0)).map (fun j => m.tell (i0 + j))) ∧ Below w.heap.size w w' := by
  obtain ⟨Ab, cb, hbv⟩ := h.begins
  obtain ⟨nb, hnb⟩ : ∃ nb, nb = m.begs.length := ⟨_, rfl⟩
  rw [← hnb] at hbv hi hc ⊢
  subst hbv
  obtain ⟨q, hq⟩ : ∃ q, q = nb - i0 := ⟨_, rfl⟩
  have hqi : (nb : Int) - (i0 : Int) = (q : Int) := by omega
  obtain ⟨o, hmk, hown⟩ := make_own etR q (by omega)
  have HOWN := Lib.hid (hown encRec)
  rw [← hq]
  have a6 := h.blk.cell 6
  have hg := h.lt
  have HL := Lib.hid h
  have HNB := Lib.hid hnb
  have hq1 : i0 + q ≤ nb := by omega
  have hq2 : nb ≤ i0 + q := by omega
  clear hown hnb h hq
  go_enter Tryz.func79, Tryz.ntmps79
  go_wp2_with fail
  go_loopw [1, 5] (fun i out wr => ∃ (k : Nat) (xs : List RecV) (A : Option Addr) (n c : Nat), i = .int .i64 (k : Int) ∧ out = .slice A n c ∧ k ≤ nb ∧ n ≤ q ∧ Hid (k = i0 + n) ∧ Hid (OK encRec 3 166 wr w.heap.size (.slice A n c) xs) ∧ Hid (xs.length = n) ∧ Hid (BodiesAt wr w.heap.size (.slice A n c) xs) ∧ Hid (xs.map RecV.told = (List.range n).map (fun j => m.tell (i0 + j))) ∧ Hid (Below w.heap.size w wr)) (fun i out wr => nb - (intOf i).toNat)
  case atStart => exact ⟨i0, [], some ⟨w.heap.size, 0, none⟩, 0, q, rfl, rfl, hi, Nat.zero_le _, Lib.hid rfl, Lib.hid (HOWN.out w w.heap.size (Nat.le_refl _)), Lib.hid rfl, Lib.hid (fun x hx => by cases hx), Lib.hid rfl, Lib.hid ((Below.refl _ _).alloc (Nat.le_refl _) _)⟩
  case round =>
    obtain ⟨k, xs, A, n, c, rfl, rfl, hknb0, hnq0, HK, HO, HLEN, HBD, HT, HB⟩ := hrel
    have hz := HB.out.size
    have b6 : wr.cell? ⟨g, 6, none⟩ = some (.slice Ab nb cb) := (HB.out.cell (p := ⟨g, 6, none⟩) hg).trans a6
    by_cases hknb : k < nb
    · have hlt : n < q := by have := HK.out; omega
      have hk1 : k ≤ 900000 := by omega
      have HLW : Hid (LogAt wr p g B sv (.slice Ab nb cb) m) := Lib.hid (HL.out.below HB.out)
      obtain ⟨t, ht⟩ : ∃ t, t = m.tell k := ⟨_, rfl⟩
      go_wp2_with fail
      refine (record_any wr p g B sv _ m HLW.out k (by rw [← HNB.out]; exact hknb)).mono ?_
      rintro e w1 ⟨v1, rfl, ho1, hb1⟩
      obtain ⟨A1, c1, rfl, -, -, -, -⟩ := ho1.rbn.open_
      obtain ⟨x, hx⟩ : ∃ x : RecV, x = ⟨m.lsn (m.begs.getD k 0), m.st.getD (m.begs.getD k 0) 0, A1, (textA m.st ((m.begs.getD k 0 : Nat) + 1 : Int) 1200).1.length, c1, (textA m.st ((m.begs.getD k 0 : Nat) + 1 : Int) 1200).1⟩ := ⟨_, rfl⟩
      have hxt : Hid (x.told = m.tell k) := Lib.hid (by rw [hx]; rfl)
      have ho1' : OB w1 wr.heap.size x.v x.body := by rw [hx]; exact ho1
      rw [show m.lsn (m.begs.getD k 0) = x.lsn by rw [hx], show m.st.getD (m.begs.getD k 0) 0 = x.kind by rw [hx], show (textA m.st ((m.begs.getD k 0 : Nat) + 1 : Int) 1200).1.length = x.n by rw [hx], show A1 = x.A by rw [hx], show c1 = x.c by rw [hx]]
      have HO1 := Lib.hid ho1'
      have HB1 := Lib.hid hb1
      have HOW : Hid (OK encRec 3 166 w1 w.heap.size (.slice A n c) xs) := Lib.hid (HO.out.below hb1)
      have hz1 := hb1.size
      have HBD1 : Hid (BodiesAt w1 w.heap.size (.slice A n c) xs) := Lib.hid (fun y hy => ⟨((HBD.out y hy).1.below hb1).more hb1.size, (HBD.out y hy).2⟩)
      have HLT : Hid (∀ b, (Value.slice A n c).ownBlock = some b → b < wr.heap.size) := Lib.hid (fun b hb => (HO.out.lt b hb).2)
      have hn1 : n + 1 ≤ 1000000 := by omega
      clear ho1 ho1' hb1 hx ht
      go_wp2_with (first
        | (at_builtin; refine wpList_appE etR encRec_len encRec_one (y := x) rfl (.tmp 23) (.tmp 27) rfl rfl (HOW.out.alloc _) w1.heap.size rfl (by intro j u hu; rw [(Blk.new w1 _ _).cell j]; simpa [encRec, RecV.v] using hu) (by rw [HLEN.out]; omega) (by simp; omega) ?_; intro v3 w4 k1 k2 k3; obtain ⟨A3, c3, hv3, -, -, -, -⟩ := (k1.rk encRec_len (Nat.le_refl _)).open_; have hl3 : (xs ++ [x]).length = n + 1 := (by rw [List.length_append, List.length_singleton, HLEN.out]); rw [hl3] at hv3; subst hv3; have K1 := Lib.hid k1; have K2 := Lib.hid k2; have K3 := Lib.hid k3; have HL3 := Lib.hid hl3; have hz4 := k2.size; clear k1 k2 k3 hl3))
      go_roundw
      case rel =>
        have hz4' : w1.heap.size + 1 ≤ w4.heap.size := by simpa using hz4
        refine ⟨k + 1, xs ++ [x], A3, n + 1, c3, by go_num, rfl, by omega, by omega, Lib.hid (by have := HK.out; omega), K1, HL3, Lib.hid (fun y hy => ?_), Lib.hid ?_, Lib.hid ?_⟩
        · rcases List.mem_append.1 hy with hy | hy
          · obtain ⟨y1, y2, y3⟩ := HBD1.out y hy
            refine ⟨((y1.alloc (Nat.le_refl _) _).more (by simp)).mod (Mod.of_grown K2.out) (y2.mono (fun b e => e.symm)), ?_, y3⟩
            rcases K3.out with e | e
            · rw [e]; exact y2
            · rw [e]; exact y1.off (fun b hb e2 => by simp at e2; omega)
          · rw [List.mem_singleton.1 hy]
            have hoff : Off (fun b => some b = (Value.slice A n c).ownBlock) x.v x.body := .inr (fun b hb e => by have := (HO1.out.lt b hb).1; have := HLT.out b e.symm; omega)
            refine ⟨(((HO1.out.rb (Nat.le_refl _)).alloc (Nat.le_refl _) _).more (by simp)).mod (Mod.of_grown K2.out) hoff, ?_, .inr (fun b hb e => by have := (HO1.out.lt b hb).1; omega)⟩
            rcases K3.out with e | e
            · rw [e]; exact hoff.mono (fun b e => e.symm)
            · rw [e]; exact .inr (fun b hb e2 => by have := (HO1.out.lt b hb).2; simp at e2; omega)
        · rw [List.map_append, HT.out, List.range_succ, List.map_append, List.map_singleton, List.map_singleton, hxt.out, HK.out]
        · exact ((HB.out.trans (HB1.out.mono hz)).alloc (by omega) _).grown K2.out (by simp; omega) (fun b hb => (HO.out.lt b hb).1)
      case measure => simp [intOf]; omega
    · have hqe : Hid (n = q) := Lib.hid (by have := HK.out; omega)
      go_wp2_with fail
      go_ret
      exact ⟨_, rfl, ⟨xs, HO.out, fun x hx => ⟨(HBD.out x hx).1, (HBD.out x hx).2.2⟩, by rw [HT.out, hqe.out]⟩, HB.out⟩

theorem recordsOf_any (w : World) (p g B : Nat) (sv bv : Value) (m : LG) (h : LogAt w p g B sv bv m) (i0 : Nat) (hi : i0 ≤ m.begs.length) (hc : m.begs.length ≤ 900000) :
    Calls Tryz.prog 79 #[.pointer (some ⟨g, 0, none⟩), .int .i64 (i0 : Int)] w fun e w' => ∃ v, e = .returned v ∧ RecsAt w' v ((List.range (m.begs.length - i0)).map (fun j => m.tell (i0 + j))) ∧ Below w.heap.size w w' :=
  (recordsOf_own w p g B sv bv m h i0 hi hc).mono fun e w' ⟨v, h1, h2, h3⟩ => ⟨v, h1, h2.at_, h3⟩

end Go.Proofs.YtbagmmncjmbboaaGreat

/-
  The walk of the log's Open, on a disk that is on and bears a log.
-/
namespace Go.Proofs.YtbagmmncjmbboaaGreat
open Go.RowKit Go.Maps
set_option linter.unusedVariables false

set_option maxRecDepth 100000 in
set_option maxHeartbeats 1000000 in
theorem findRecords_nil (w : World) (p sb mb g B : Nat) (pl : Option Nat) (s : DS) (m : LG) (h : WalAt w p sb mb pl s g B (.slice none 0 0) (.slice none 0 0) m) (hb : m.begs = []) (hst : m.st = []) :
    Calls Tryz.prog 78 #[.pointer (some ⟨g, 0, none⟩)] w fun e w' => e = .returned (.tuple #[]) ∧ (∃ sv' bv', WalAt w' p sb mb pl s g B sv' bv' (m.cutTo (scan m.st (m.st.length + 1) 0).1 (scan m.st (m.st.length + 1) 0).2)) ∧ Mod (fun k => k = g) w w' := by
  have e1 : Hid (m.cutTo (scan m.st (m.st.length + 1) 0).1 (scan m.st (m.st.length + 1) 0).2 = m) := Lib.hid (by
    rw [scan_end _ (by rw [hst]; exact Nat.zero_le _)]
    unfold LG.cutTo
    dsimp only
    rw [List.take_zero]
    cases m
    dsimp only at hb hst
    rw [hb, hst])
  rw [e1.out]
  have H := Lib.hid h
  have a5 := h.lg.blk.cell 5
  have f5 := h.lg.blk.frozen 5
  have hcell : Hid (WalAt (w.setCell ⟨g, 5, none⟩ (.slice none 0 0)) p sb mb pl s g B (.slice none 0 0) (.slice none 0 0) m) := Lib.hid ⟨h.dk.setLog h 5 _, h.lg.put 5 _ m h.lg.ok rfl rfl rfl, h.sep, h.pl⟩
  clear h hb hst e1
  go_enter Tryz.func78, Tryz.ntmps78
  go_wp2_with fail
  go_loopw [2] (fun i wr => i = .int .i64 0 ∧ wr = w) (fun i wr => 0)
  case atStart => exact ⟨rfl, rfl⟩
  case round =>
    obtain ⟨rfl, rfl⟩ := hrel
    go_wp2_with fail
    go_end0
    exact ⟨rfl, ⟨_, _, hcell.out⟩, (Mod.refl (fun k => k = g) wr).setCell (p := ⟨g, 5, none⟩) (fun _ => rfl) _⟩

theorem findRecords_any (w : World) (p sb mb g B : Nat) (sv : Value) (pl : Option Nat) (s : DS) (m : LG) (h : WalAt w p sb mb pl s g B sv (.slice none 0 0) m) (hb : m.begs = []) (hs : m.safe = 0) (hc : m.count ≤ 1000) :
    Calls Tryz.prog 78 #[.pointer (some ⟨g, 0, none⟩)] w fun e w' => e = .returned (.tuple #[]) ∧ (∃ sv' bv', WalAt w' p sb mb pl s g B sv' bv' (m.cutTo (scan m.st (m.st.length + 1) 0).1 (scan m.st (m.st.length + 1) 0).2)) ∧ Mod (fun k => k = g) w w' := by
  rcases h.lg.st.2.2.2 with ⟨e, hn⟩ | ⟨g1, cap, cur, e, _⟩
  · subst e
    exact findRecords_nil w p sb mb g B pl s m h hb (List.eq_nil_of_length_eq_zero hn)
  · subst e
    exact findRecords_some w p sb mb g B g1 _ cap pl s m h rfl hb hs hc

/-- All records of a log. -/
def LG.tells (m : LG) : List Told := (List.range m.begs.length).map m.tell

set_option maxRecDepth 100000 in
set_option maxHeartbeats 1000000 in
theorem Open_any (w : World) (p sb mb : Nat) (pl : Option Nat) (s : DS) (first count : Nat) (h : DiskAt w p sb mb pl s) (hoff : s.off = false) (hfit : first + count ≤ s.safe.length) (hc : 1 ≤ count ∧ count ≤ 1000) (hlog : isLog (s.has first)) :
    Calls Tryz.prog 41 #[.pointer (some ⟨p, 0, none⟩), .int .i64 (first : Int), .int .i64 (count : Int)] w fun e w' => ∃ g sv bv A n c, e = .returned (.tuple #[.pointer (some ⟨g, 0, none⟩), .slice A n c, .int .i64 0]) ∧ n = (LG.opened s first count).begs.length ∧ WalAt w' p sb mb pl s g w.heap.size sv bv (LG.opened s first count) ∧ RecsAt w' (.slice A n c) (LG.opened s first count).tells ∧ Below w.heap.size w w' := by
  have hn := h.ok.num
  have hth : Hid (thereB s.safe.length (first : Int) (count : Int) = true) := Lib.hid (by unfold thereB; simp; omega)
  have hI : I64 (first : Int) := ⟨by omega, by omega⟩
  have hl0 : (RS.upto s first 0).log first count = ⟨first, count, 0, 0, [], [], 0, false, false⟩ := rfl
  have H := Lib.hid h
  have HOFF := Lib.hid hoff
  have HFIT := Lib.hid hfit
  have HLOG := Lib.hid hlog
  have HI := Lib.hid hI
  have hW1 : Hid (WalAt (w.alloc (.cells #[.pointer (some ⟨p, 0, none⟩), .int .i64 (first : Int), .int .i64 (count : Int), .int .i64 0, .int .i64 0, .slice none 0 0, .slice none 0 0, .int .i64 0, .bool false, .bool false] 115)) p sb mb pl s w.heap.size w.heap.size (.slice none 0 0) (.slice none 0 0) ((RS.upto s first 0).log first count)) := Lib.hid (by
    have hlt := h.lt
    refine ⟨h.alloc _, ⟨RS.log_ok s (by omega) (by omega) (Nat.zero_le _), ?_, OB.nil _ _, OK.nil _ _, by simp [Value.ownBlock], by simp [Value.ownBlock], .inl rfl, Nat.le_refl _⟩, ⟨hlt.1, hlt.2.1, hlt.2.2.1⟩, ?_⟩
    · exact Blk.new _ _ _
    · intro b hb hk
      have := hlt.2.2.2 b hb
      rcases hk with hk | hk | hk
      · omega
      · cases hk
      · cases hk)
  clear h hoff hfit hlog hI hl0
  go_enter Tryz.func41, Tryz.ntmps41
  go_wp2_with fail
  refine (areThere_any w p sb mb pl s (first : Int) (count : Int) H.out HI.out).mono ?_
  rw [hth.out]
  rintro e w0 ⟨rfl, rfl⟩
  go_wp2_with fail
  refine (readStream_on _ p sb mb w.heap.size w.heap.size pl s first count hW1.out HOFF.out HFIT.out).mono ?_
  rintro e w2 ⟨hcase, hm2⟩
  have hres : e = .returned (.int .i64 0) ∧ ∃ sv', WalAt w2 p sb mb pl s w.heap.size w.heap.size sv' (.slice none 0 0) ((RS.upto s first count).log first count) := by
    rcases hcase with ⟨h, _⟩ | ⟨_, h1, h2⟩
    · exact absurd HLOG.out h
    · exact ⟨h1, h2⟩
  obtain ⟨rfl, sv2, hW2⟩ := hres
  have HW2 := Lib.hid hW2
  have HM2 := Lib.hid hm2
  clear hcase hm2 hW2
  go_wp2_with fail
  refine (findRecords_any w2 p sb mb w.heap.size w.heap.size sv2 pl s _ HW2.out rfl rfl (by show count ≤ 1000; omega)).mono ?_
  rintro e w3 ⟨rfl, ⟨sv3, bv3, hW3⟩, hm3⟩
  obtain ⟨m3, hm3e⟩ : ∃ m3, m3 = ((RS.upto s first count).log first count).cutTo (scan ((RS.upto s first count).log first count).st (((RS.upto s first count).log first count).st.length + 1) 0).1 (scan ((RS.upto s first count).log first count).st (((RS.upto s first count).log first count).st.length + 1) 0).2 := ⟨_, rfl⟩
  rw [← hm3e] at hW3
  have hme : Hid (({ m3 with safe := m3.st.length } : LG) = LG.opened s first count) := Lib.hid (by rw [hm3e]; rfl)
  obtain ⟨A3, c3, hsv3⟩ := hW3.lg.stream
  obtain ⟨n3, hn3⟩ : ∃ n3, n3 = m3.st.length := ⟨_, rfl⟩
  have hsv3' : sv3 = .slice A3 n3 c3 := by rw [hsv3, hn3]
  subst hsv3'
  have HW3 := Lib.hid hW3
  have HM3 := Lib.hid hm3
  have HN3 := Lib.hid hn3
  have c5 : w3.cell? ⟨w.heap.size, 5, none⟩ = some (.slice A3 n3 c3) := hW3.lg.blk.cell 5
  have c7 := hW3.lg.blk.cell 7
  have f7 := hW3.lg.blk.frozen 7
  have hW4 : Hid (WalAt (w3.setCell ⟨w.heap.size, 7, none⟩ (.int .i64 (n3 : Int))) p sb mb pl s w.heap.size w.heap.size (.slice A3 n3 c3) bv3 (LG.opened s first count)) := Lib.hid (by
    rw [← hme.out]
    refine ⟨hW3.dk.setLog hW3 7 _, hW3.lg.put 7 _ _ ⟨hW3.lg.ok.first, hW3.lg.ok.count, hW3.lg.ok.run, hW3.lg.ok.st, Nat.le_refl _, hW3.lg.ok.begs⟩ rfl rfl ?_, hW3.sep, hW3.pl⟩
    rw [hn3]; rfl)
  have hB4 : Hid (Below w.heap.size w (w3.setCell ⟨w.heap.size, 7, none⟩ (.int .i64 (n3 : Int)))) := Lib.hid (by
    have h1 : Mod (fun k => k = w.heap.size) w w3 := ((Mod.refl (fun k => k = w.heap.size) w).alloc _).trans' (HM2.out.trans' HM3.out)
    exact (h1.setCell (p := ⟨w.heap.size, 7, none⟩) (fun _ => rfl) _).below (Nat.le_refl _) (fun k e => Nat.le_of_eq e.symm))
  clear hW3 hm3 hsv3 hn3 hm3e
  go_wp2_with fail
  have hbl : (LG.opened s first count).begs.length ≤ 900000 := by
    have h1 := hW4.out.lg.ok.begs.1
    have h2 := hW4.out.lg.ok.st
    have h3 : (LG.opened s first count).count = count := rfl
    rw [h3] at h2
    omega
  refine (recordsOf_any _ p w.heap.size w.heap.size _ bv3 (LG.opened s first count) hW4.out.lg 0 (Nat.zero_le _) hbl).mono ?_
  rintro e w5 ⟨v5, rfl, hr5, hb5⟩
  have hts : (List.range ((LG.opened s first count).begs.length - 0)).map (fun j => (LG.opened s first count).tell (0 + j)) = (LG.opened s first count).tells := by
    unfold LG.tells
    rw [Nat.sub_zero]
    congr 1
    funext j
    rw [Nat.zero_add]
  rw [hts] at hr5
  have HW5 : Hid (WalAt w5 p sb mb pl s w.heap.size w.heap.size (.slice A3 n3 c3) bv3 (LG.opened s first count)) := Lib.hid (hW4.out.below hb5)
  have HR5 := Lib.hid hr5
  have HB5 : Hid (Below w.heap.size w w5) := Lib.hid (hB4.out.trans (hb5.mono hB4.out.size))
  have hform : ∃ A n c, v5 = .slice A n c ∧ n = (LG.opened s first count).begs.length := by
    obtain ⟨xs, h1, _, h2⟩ := hr5
    obtain ⟨A, c, rfl, _⟩ := h1.open_
    refine ⟨A, _, c, rfl, ?_⟩
    have := congrArg List.length h2
    unfold LG.tells at this
    simpa using this
  obtain ⟨A5, n5, c5', rfl, hn5⟩ := hform
  have HN5 := Lib.hid hn5
  clear hts hr5 hb5 hn5 hbl
  go_wp2_with fail
  go_ret3
  exact ⟨_, _, _, _, _, _, rfl, HN5.out, HW5.out, HR5.out, HB5.out⟩

end Go.Proofs.YtbagmmncjmbboaaGreat

/-
  The walks of skeinlaw09's alive and made.
-/
namespace Go.Proofs.YtbagmmncjmbboaaGreat
open Go.RowKit Go.Maps
set_option linter.unusedVariables false

set_option maxRecDepth 100000 in
theorem Recs.tell {m : LG} {rs : List RecT} (h : Recs m rs) {i : Nat} (hi : i < rs.length) : m.tell i = (m.lsn (strm (rs.take i)).length, rs[i].1, rs[i].2) := by
  have hb : m.begs.getD i 0 = (strm (rs.take i)).length := by
    have := begsAt_get rs 0 i hi
    rw [Nat.zero_add] at this
    rw [h.begs, List.getD, this]
    rfl
  have e : m.st = strm (rs.take i) ++ recL rs[i].1 rs[i].2 ++ strm (rs.drop (i + 1)) := by
    have h1 : rs = rs.take i ++ (rs[i] :: rs.drop (i + 1)) := by rw [← List.drop_eq_getElem_cons hi, List.take_append_drop]
    have h2 : strm rs = strm (rs.take i ++ (rs[i] :: rs.drop (i + 1))) := by rw [← h1]
    rw [h.st, h2, strm_append, strm_cons, List.append_assoc]
  have hok := h.ok _ (List.getElem_mem hi)
  unfold LG.tell
  rw [hb]
  have ht := textA_rec (strm (rs.take i)) (strm (rs.drop (i + 1))) rs[i].1 rs[i].2 hok.2.2.1
  rw [← e] at ht
  rw [ht]
  have hk : m.st.getD (strm (rs.take i)).length 0 = rs[i].1 := by
    rw [e, List.append_assoc]
    unfold recL
    rw [List.cons_append, getD_mid]
  rw [hk]

theorem Recs.begs_len {m : LG} {rs : List RecT} (h : Recs m rs) : m.begs.length = rs.length := by rw [h.begs, begsAt_len]

/-- The records as they are told. -/
def toldOf (m : LG) (rs : List RecT) : List Told := (List.range rs.length).map fun i => (m.lsn (strm (rs.take i)).length, (rs.getD i (0, [])).1, (rs.getD i (0, [])).2)

theorem Recs.tells {m : LG} {rs : List RecT} (h : Recs m rs) : m.tells = toldOf m rs := by
  unfold LG.tells toldOf
  rw [h.begs_len]
  refine List.map_congr_left fun i hi => ?_
  have hi := List.mem_range.1 hi
  rw [h.tell hi]
  simp [List.getD, hi]

theorem recs_first {w : World} {A : Option Addr} {n c : Nat} {t : Told} {ts : List Told} (h : RecsAt w (.slice A n c) (t :: ts)) : ∃ b off A0 n0 c0, A = some ⟨b, off, none⟩ ∧ w.cell? ⟨b, off + 2, none⟩ = some (.slice A0 n0 c0) ∧ RB w w.heap.size (.slice A0 n0 c0) t.2.2 := by
  obtain ⟨xs, h1, h2, h3⟩ := h
  cases xs with
  | nil => cases h3
  | cons x r =>
    rw [List.map_cons] at h3
    injection h3 with h3 _
    obtain ⟨A', c', e, _, _, _, hc⟩ := h1.open_
    injection e with e _ _
    subst e
    obtain ⟨b, off, hA, _, hcell⟩ := hc.out 0 (by simp)
    refine ⟨b, off, x.A, x.n, x.c, hA, ?_, ?_⟩
    · have := hcell 2 (.slice x.A x.n x.c) rfl
      simpa using this
    · have := h2 x (by simp)
      rw [← h3]; exact this

theorem below_by {S : Nat → Prop} {w W W' : World} (hb : Below w.heap.size w W) (hm : Mod S W W') (hS : ∀ k, S k → w.heap.size ≤ k) : Below w.heap.size w W' := hb.trans (hm.below hb.size hS)

theorem WalAt.ownW {w : World} {p sb mb g B z : Nat} {pl : Option Nat} {s : DS} {sv bv : Value} {m : LG} (h : WalAt w p sb mb pl s g B sv bv m) (hz : z ≤ p ∧ z ≤ sb ∧ z ≤ mb ∧ z ≤ B) : ∀ k, OwnW p sb mb g k → z ≤ k := by
  intro k hk
  rcases hk with hk | hk
  · unfold Own at hk; omega
  · have := h.lg.base; omega

theorem WalAt.ownL {w : World} {p sb mb g B z : Nat} {pl : Option Nat} {s : DS} {sv bv : Value} {m : LG} (h : WalAt w p sb mb pl s g B sv bv m) (hz : z ≤ B) : ∀ k, OwnL g sv bv k → z ≤ k := fun k hk => by have := (h.lg.own k hk).1; omega

/-- What made answers: a disk and a log that begins. -/
def MadeOut (w : World) (s : DS) (m : LG) (e : Ending) (w' : World) : Prop := ∃ p sb mb g B sv bv, e = .returned (.tuple #[.pointer (some ⟨p, 0, none⟩), .pointer (some ⟨g, 0, none⟩)]) ∧ WalAt w' p sb mb none s g B sv bv m ∧ (w.heap.size ≤ p ∧ w.heap.size ≤ sb ∧ w.heap.size ≤ mb ∧ w.heap.size ≤ B) ∧ Below w.heap.size w w'
end Go.Proofs.YtbagmmncjmbboaaGreat
