/-
  The walk of the log's Reset.
-/
import Derived.Test.YtbagmmncjmbboaaGreatZN1
import Derived.Test.YtbagmmncjmbboaaGreatE11
namespace Go.Proofs.YtbagmmncjmbboaaGreat
open Go.RowKit Go.Maps
set_option linter.unusedVariables false

/-- A log that begins a new run. -/
def LG.anew (m : LG) : LG := ⟨m.first, m.count, m.most + 1, m.most + 1, [], [], 0, true, m.dead⟩

/-- Reset: the disk and the log behind it, and what it answers. -/
def LG.reset (m : LG) (s : DS) : DS × LG × Int :=
  if m.dead = true then (s, m, 91) else if 274877906944 ≤ m.most then (s, m, 90)
  else if (DS.save (m.most + 1) m.first [] 1 0 s).2 = 0 then ((DS.save (m.most + 1) m.first [] 1 0 s).1, m.anew, 0)
  else ((DS.save (m.most + 1) m.first [] 1 0 s).1, { m with dead := true }, (DS.save (m.most + 1) m.first [] 1 0 s).2)

set_option maxRecDepth 100000 in
set_option maxHeartbeats 1000000 in
theorem Reset_any (w : World) (p sb mb g B : Nat) (pl : Option Nat) (s : DS) (sv bv : Value) (m : LG) (h : WalAt w p sb mb pl s g B sv bv m) (hst : s.steps < 1000000000000000) :
    Calls Tryz.prog 42 #[.pointer (some ⟨g, 0, none⟩)] w fun e w' => e = .returned (.int .i64 (m.reset s).2.2) ∧ (∃ sv' bv', WalAt w' p sb mb pl (m.reset s).1 g B sv' bv' (m.reset s).2.1) ∧ Mod (OwnW p sb mb g) w w' := by
  have a9 := h.lg.blk.cell 9
  have H := Lib.hid h
  have HST := Lib.hid hst
  clear h hst
  cases hd : m.dead with
  | true =>
    have e1 : Hid (m.reset s = (s, m, 91)) := Lib.hid (by unfold LG.reset; rw [if_pos hd])
    rw [hd] at a9
    clear hd
    go_enter Tryz.func42, Tryz.ntmps42
    go_wp2_with fail
    go_ret
    exact ⟨by rw [e1.out]; rfl, by rw [e1.out]; exact ⟨_, _, H.out⟩, Mod.refl _ _⟩
  | false =>
    rw [hd] at a9
    have HD := Lib.hid hd
    have a4 := H.out.lg.blk.cell 4
    obtain ⟨t, ht⟩ : ∃ t, t = m.most := ⟨_, rfl⟩
    rw [← ht] at a4
    have HT := Lib.hid ht
    by_cases hm : 274877906944 ≤ t
    · have e1 : Hid (m.reset s = (s, m, 90)) := Lib.hid (by unfold LG.reset; rw [if_neg (by rw [hd]; simp), if_pos (by rw [← ht]; exact hm)])
      have hmi : (274877906944 : Int) ≤ (t : Int) := by omega
      clear hd ht
      go_enter Tryz.func42, Tryz.ntmps42
      go_wp2_with fail
      go_ret
      exact ⟨by rw [e1.out]; rfl, by rw [e1.out]; exact ⟨_, _, H.out⟩, Mod.refl _ _⟩
    · have hmi : ¬ (274877906944 : Int) ≤ (t : Int) := by omega
      obtain ⟨u, hu⟩ : ∃ u : Nat, u = t + 1 := ⟨_, rfl⟩
      have hui : (t : Int) + 1 = (u : Int) := by omega
      have hu2 : u < 9223372036854775808 := by omega
      have hu3 : u ≤ 274877906944 := by omega
      obtain ⟨r, hr⟩ : ∃ r, r = DS.save (m.most + 1) m.first [] 1 0 s := ⟨_, rfl⟩
      have a0 := H.out.lg.blk.cell 0
      have a1 := H.out.lg.blk.cell 1
      have hfi := H.out.lg.ok.first
      obtain ⟨f, hf⟩ : ∃ f, f = m.first := ⟨_, rfl⟩
      have hf2 : f ≤ 4096 := by omega
      rw [← hf] at a1
      have HR : Hid (r = DS.save u f [] 1 0 s) := Lib.hid (by rw [hr, hf, hu, ht])
      have HU : Hid (u = m.most + 1) := Lib.hid (by rw [hu, ht])
      have hglt := H.out.lg.lt
      have HM : Hid (m.reset s = if r.2 = 0 then (r.1, m.anew, 0) else (r.1, { m with dead := true }, r.2)) := Lib.hid (by unfold LG.reset; rw [← hr, if_neg (by rw [hd]; simp), if_neg (by rw [← ht]; exact hm)])
      clear hd ht hr hf hfi hu
      go_enter Tryz.func42, Tryz.ntmps42
      go_wp2_with fail
      obtain ⟨W2, hbw, hW⟩ : ∃ W2, Below w.heap.size w W2 ∧ W2 = w.drew := ⟨_, below_drewN (Below.refl _ _) 1, rfl⟩
      have HBW := Lib.hid hbw
      have b0 : W2.cell? ⟨g, 0, none⟩ = some (.pointer (some ⟨p, 0, none⟩)) := (hbw.cell (p := ⟨g, 0, none⟩) hglt).trans a0
      have b1 : W2.cell? ⟨g, 1, none⟩ = some (.int .i64 (f : Int)) := (hbw.cell (p := ⟨g, 1, none⟩) hglt).trans a1
      have HD2 : Hid (WalAt W2 p sb mb pl s g B sv bv m) := Lib.hid (H.out.below hbw)
      clear hbw a0 a1 a4 a9
      refine still_tail_at 9 W2 hW (by kernel_rfl) (by kernel_rfl) ?_
      clear hW
      simp only [List.take_succ_cons, List.take_zero, List.drop_succ_cons, List.drop_zero]
      iterate 9 still_step
      try refine wpStill_nil ?_
      go_wp2_with fail
      refine (save_nil W2 p sb mb pl s f u HD2.out.dk HST.out (by omega) hu2).mono ?_
      rw [← HR.out]
      rintro e w3 ⟨rfl, hd3, hm3⟩
      obtain ⟨rs, re⟩ := r
      have HDS : Hid (DiskAt w3 p sb mb pl rs) := Lib.hid hd3
      have HL3 : Hid (LogAt w3 p g B sv bv m) := Lib.hid (HD2.out.log hm3)
      have HM3 : Hid (Mod (Own p sb mb) w w3) := Lib.hid ((Mod.of_below HBW.out _).trans' hm3)
      have f3 := HL3.out.blk.frozen 3
      have f4 := HL3.out.blk.frozen 4
      have f5 := HL3.out.blk.frozen 5
      have f6 := HL3.out.blk.frozen 6
      have f7 := HL3.out.blk.frozen 7
      have f8 := HL3.out.blk.frozen 8
      have f9 := HL3.out.blk.frozen 9
      have c3 := HL3.out.blk.cell 3
      have c4 := HL3.out.blk.cell 4
      have c5 := HL3.out.blk.cell 5
      have c6 := HL3.out.blk.cell 6
      have c7 := HL3.out.blk.cell 7
      have c8 := HL3.out.blk.cell 8
      have c9 := HL3.out.blk.cell 9
      clear hd3 hm3 b0 b1
      by_cases hre : re = 0
      · have e1 : Hid (m.reset s = (rs, m.anew, 0)) := Lib.hid (by rw [HM.out]; exact if_pos hre)
        subst hre
        clear c9 f9
        go_wp2_with fail
        go_ret
        have hmm := (HM3.out.mono (S' := OwnW p sb mb g) (fun k _ e => .inl e))
        refine ⟨by rw [e1.out]; rfl, ?_, ?_⟩
        · rw [e1.out]
          have hset := ((((((HL3.out.blk.set_ 3 (.int .i64 (u : Int))).set_ 4 (.int .i64 (u : Int))).set_ 8 (.bool true)).set_ 5 (.slice none 0 0)).set_ 6 (.slice none 0 0)).set_ 7 (.int .i64 0))
          refine ⟨.slice none 0 0, .slice none 0 0, (((((HDS.out.setLog HD2.out 3 _).setLog HD2.out 4 _).setLog HD2.out 8 _).setLog HD2.out 5 _).setLog HD2.out 6 _).setLog HD2.out 7 _, ⟨⟨H.out.lg.ok.first, H.out.lg.ok.count, ?_, ?_, ?_, ?_⟩, ?_, OB.nil _ _, OK.nil _ _, by simp [Value.ownBlock], by simp [Value.ownBlock], .inl rfl, H.out.lg.base⟩, H.out.sep, ?_⟩
          · unfold LG.anew; dsimp only; rw [← HU.out]; omega
          · unfold LG.anew; simp
          · unfold LG.anew; simp
          · unfold LG.anew; simp
          · unfold LG.anew
            dsimp only
            rw [← HU.out]
            exact hset
          · intro b hb hk
            refine H.out.pl b hb ?_
            rcases hk with hk | hk | hk
            · exact .inl hk
            · cases hk
            · cases hk
        · exact (((((hmm.setCell (p := ⟨g, 3, none⟩) (fun _ => .inr rfl) _).setCell (p := ⟨g, 4, none⟩) (fun _ => .inr rfl) _).setCell (p := ⟨g, 8, none⟩) (fun _ => .inr rfl) _).setCell (p := ⟨g, 5, none⟩) (fun _ => .inr rfl) _).setCell (p := ⟨g, 6, none⟩) (fun _ => .inr rfl) _).setCell (p := ⟨g, 7, none⟩) (fun _ => .inr rfl) _
      · have e1 : Hid (m.reset s = (rs, { m with dead := true }, re)) := Lib.hid (by rw [HM.out]; exact if_neg hre)
        clear c3 c4 c5 c6 c7 c8 f3 f4 f5 f6 f7 f8 hui hu2 hu3 hmi hm HM
        go_wp2_with fail
        go_ret
        refine ⟨by rw [e1.out]; rfl, ?_, ?_⟩
        · rw [e1.out]
          refine ⟨sv, bv, HDS.out.setLog HD2.out 9 _, ?_, H.out.sep, H.out.pl⟩
          exact HL3.out.put 9 _ _ ⟨H.out.lg.ok.first, H.out.lg.ok.count, H.out.lg.ok.run, H.out.lg.ok.st, H.out.lg.ok.safe, H.out.lg.ok.begs⟩ rfl rfl rfl
        · exact (HM3.out.mono (fun k _ e => .inl e)).setCell (p := ⟨g, 9, none⟩) (fun _ => .inr rfl) _

end Go.Proofs.YtbagmmncjmbboaaGreat

/-
  The walk of the log's Append.
-/
namespace Go.Proofs.YtbagmmncjmbboaaGreat
open Go.RowKit Go.Maps
set_option linter.unusedVariables false

theorem etN : ElemT 33 3 1 8 := elemT_of (z := .int .i64 0) Tryz.underlying33 (by kernel_rfl) (by kernel_rfl) (by decide) (by decide) (by decide)

/-- A record's bytes in the stream. -/
def recL (kind : Nat) (body : List Nat) : List Nat := kind :: (putL body.length ++ body)

/-- Append: the log behind it, the LSN and the error's number. -/
def LG.append (m : LG) (kind : Int) (body : List Nat) : LG × Nat × Int :=
  if m.dead = true then (m, 0, 91) else if m.fresh = false then (m, 0, 111) else if kind < 1 ∨ 255 < kind then (m, 0, 1)
  else if 1200 < body.length then (m, 0, 4) else if m.room < 1 + (putL body.length ++ body).length then (m, 0, 90)
  else ({ m with st := m.st ++ recL kind.toNat body, begs := m.begs ++ [m.st.length] }, m.lsn m.st.length, 0)

/-- What Append gives; what is the log's own behind it was its own, or is new. -/
def AppOwn (w : World) (p sb mb g B : Nat) (pl : Option Nat) (s : DS) (sv bv : Value) (r : LG × Nat × Int) (e : Ending) (w' : World) : Prop :=
  e = .returned (.tuple #[.int .i64 (r.2.1 : Int), .int .i64 r.2.2]) ∧ (∃ sv' bv', WalAt w' p sb mb pl s g B sv' bv' r.1 ∧ ∀ k, OwnL g sv' bv' k → OwnL g sv bv k ∨ w.heap.size ≤ k) ∧ Mod (OwnL g sv bv) w w'

/-- What Append gives. -/
def AppOut (w : World) (p sb mb g B : Nat) (pl : Option Nat) (s : DS) (sv bv : Value) (r : LG × Nat × Int) (e : Ending) (w' : World) : Prop :=
  e = .returned (.tuple #[.int .i64 (r.2.1 : Int), .int .i64 r.2.2]) ∧ (∃ sv' bv', WalAt w' p sb mb pl s g B sv' bv' r.1) ∧ Mod (OwnL g sv bv) w w'

set_option maxRecDepth 100000 in
theorem append_bad (w : World) (p sb mb g B : Nat) (pl : Option Nat) (s : DS) (sv bv : Value) (m : LG) (h : WalAt w p sb mb pl s g B sv bv m) (kind : Int) (v : Value) (l : List Nat) (hv : RB w w.heap.size v l) (hbad : m.dead = true ∨ m.fresh = false ∨ (kind < 1 ∨ 255 < kind) ∨ 1200 < l.length) :
    Calls Tryz.prog 20 #[.pointer (some ⟨g, 0, none⟩), .int .i64 kind, v] w (AppOwn w p sb mb g B pl s sv bv (m.append kind l)) := by
  have a9 := h.lg.blk.cell 9
  have a8 := h.lg.blk.cell 8
  have H := Lib.hid h
  obtain ⟨A, c, rfl, _, _, _, _⟩ := hv.open_
  clear h hv
  cases hd : m.dead with
  | true =>
    have e1 : Hid (m.append kind l = (m, 0, 91)) := Lib.hid (by unfold LG.append; rw [if_pos hd])
    rw [hd] at a9
    clear hd hbad
    go_enter Tryz.func20, Tryz.ntmps20
    go_wp2_with fail
    go_ret2
    rw [e1.out]
    exact ⟨rfl, ⟨_, _, H.out, fun k hk => .inl hk⟩, Mod.refl _ _⟩
  | false =>
    rw [hd] at a9
    cases hf : m.fresh with
    | false =>
      have e1 : Hid (m.append kind l = (m, 0, 111)) := Lib.hid (by unfold LG.append; rw [if_neg (by rw [hd]; simp), if_pos hf])
      rw [hf] at a8
      clear hd hf hbad
      go_enter Tryz.func20, Tryz.ntmps20
      go_wp2_with fail
      go_ret2
      rw [e1.out]
      exact ⟨rfl, ⟨_, _, H.out, fun k hk => .inl hk⟩, Mod.refl _ _⟩
    | true =>
      rw [hf] at a8
      by_cases hk : kind < 1
      · have e1 : Hid (m.append kind l = (m, 0, 1)) := Lib.hid (by unfold LG.append; rw [if_neg (by rw [hd]; simp), if_neg (by rw [hf]; simp), if_pos (.inl hk)])
        clear hd hf hbad
        go_enter Tryz.func20, Tryz.ntmps20
        go_wp2_with fail
        go_ret2
        rw [e1.out]
        exact ⟨rfl, ⟨_, _, H.out, fun k hk => .inl hk⟩, Mod.refl _ _⟩
      · by_cases hk2 : 255 < kind
        · have e1 : Hid (m.append kind l = (m, 0, 1)) := Lib.hid (by unfold LG.append; rw [if_neg (by rw [hd]; simp), if_neg (by rw [hf]; simp), if_pos (.inr hk2)])
          clear hd hf hbad
          go_enter Tryz.func20, Tryz.ntmps20
          go_wp2_with fail
          go_ret2
          rw [e1.out]
          exact ⟨rfl, ⟨_, _, H.out, fun k hk => .inl hk⟩, Mod.refl _ _⟩
        · have hl : 1200 < l.length := by
            rcases hbad with h | h | h | h
            · rw [hd] at h; cases h
            · rw [hf] at h; cases h
            · omega
            · exact h
          have e1 : Hid (m.append kind l = (m, 0, 4)) := Lib.hid (by unfold LG.append; rw [if_neg (by rw [hd]; simp), if_neg (by rw [hf]; simp), if_neg (by omega), if_pos hl])
          clear hd hf hbad
          go_enter Tryz.func20, Tryz.ntmps20
          go_wp2_with fail
          go_ret2
          rw [e1.out]
          exact ⟨rfl, ⟨_, _, H.out, fun k hk => .inl hk⟩, Mod.refl _ _⟩

theorem putL_1200 {n : Nat} (h : n ≤ 1200) : (putL n).length ≤ 10 := putL_ten _ (by omega)

set_option maxRecDepth 100000 in
theorem append_full (w : World) (p sb mb g B : Nat) (pl : Option Nat) (s : DS) (sv bv : Value) (m : LG) (h : WalAt w p sb mb pl s g B sv bv m) (kind : Int) (v : Value) (l : List Nat) (hv : RB w w.heap.size v l) (hd : m.dead = false) (hf : m.fresh = true) (hk : 1 ≤ kind ∧ kind ≤ 255) (hl : l.length ≤ 1200) (hroom : m.room < 1 + (putL l.length ++ l).length) :
    Calls Tryz.prog 20 #[.pointer (some ⟨g, 0, none⟩), .int .i64 kind, v] w (AppOwn w p sb mb g B pl s sv bv (m.append kind l)) := by
  have a9 := h.lg.blk.cell 9
  have a8 := h.lg.blk.cell 8
  have H := Lib.hid h
  have HV := Lib.hid hv
  obtain ⟨A, c, rfl, _, _, _, _⟩ := hv.open_
  have e1 : Hid (m.append kind l = (m, 0, 90)) := Lib.hid (by unfold LG.append; rw [if_neg (by rw [hd]; simp), if_neg (by rw [hf]; simp), if_neg (by omega), if_neg (by omega), if_pos hroom])
  rw [hd] at a9
  rw [hf] at a8
  obtain ⟨q, hq⟩ : ∃ q, q = (putL l.length ++ l).length := ⟨_, rfl⟩
  have hq2 : q ≤ 1210 := by rw [hq, List.length_append]; have := putL_1200 hl; omega
  obtain ⟨r, hr⟩ : ∃ r, r = m.room := ⟨_, rfl⟩
  have hri : (r : Int) < 1 + (q : Int) := by omega
  have HQ := Lib.hid hq
  have HR := Lib.hid hr
  clear h hv hd hf hq hr hroom
  go_enter Tryz.func20, Tryz.ntmps20
  go_wp2_with fail
  refine (putText_any _ l w HV.out (by omega)).mono ?_
  rintro e w1 ⟨v1, rfl, ho1, hb1⟩
  have HB1 := Lib.hid hb1
  obtain ⟨A1, c1, rfl, -, -, -, -⟩ := ho1.rbn.open_
  rw [← HQ.out]
  clear ho1 hb1
  go_wp2_with fail
  refine (logRoom_any w1 p g B sv bv m (H.out.lg.below HB1.out)).mono ?_
  rw [← HR.out]
  rintro e w2 ⟨rfl, n2, hw2⟩
  have HB2 : Hid (Below w.heap.size w w2) := Lib.hid (by rw [hw2]; exact below_drewN HB1.out n2)
  clear hw2
  go_wp2_with fail
  go_ret2
  rw [e1.out]
  exact ⟨rfl, ⟨_, _, H.out.below HB2.out, fun k hk => .inl hk⟩, Mod.of_below HB2.out _⟩

end Go.Proofs.YtbagmmncjmbboaaGreat

/-
  The log's Append, where it takes the record.
-/
namespace Go.Proofs.YtbagmmncjmbboaaGreat
open Go.RowKit Go.Maps
set_option linter.unusedVariables false

/-- The text lies in new memory. -/
theorem text_far {w w2 : World} {g : Nat} {sv bv u t : Value} {B : Nat} {l : List Nat} (h : OB w2 w.heap.size t l) (hown : ∀ k, OwnL g sv bv k → B ≤ k ∧ k < w.heap.size) (hu : ∀ k, u.ownBlock = some k → OwnL g sv bv k) : t.ownBlock = none ∨ t.ownBlock ≠ u.ownBlock := by
  cases ht : t.ownBlock with
  | none => exact .inl rfl
  | some k =>
    refine .inr fun e => ?_
    have h1 := (h.lt k ht).1
    have h2 := (hown k (hu k e.symm)).2
    omega

theorem begs_far {sv bv v3 : Value} {z : Nat} (h1 : sv.ownBlock = none ∨ sv.ownBlock ≠ bv.ownBlock) (h3 : ∀ k, v3.ownBlock = some k → bv.ownBlock = some k ∨ z ≤ k) (h : ∀ k, sv.ownBlock = some k → k < z) : v3.ownBlock = none ∨ v3.ownBlock ≠ sv.ownBlock := by
  cases hv : v3.ownBlock with
  | none => exact .inl rfl
  | some k =>
    refine .inr fun e => ?_
    rcases h3 k hv with h4 | h4
    · rcases h1 with h1 | h1
      · rw [h1] at e; cases e
      · exact h1 (e.symm.trans h4.symm)
    · have := h k e.symm; omega

theorem begs7 {sv v3 v7 : Value} {z : Nat} (h1 : v3.ownBlock = none ∨ v3.ownBlock ≠ sv.ownBlock) (h7 : ∀ k, v7.ownBlock = some k → sv.ownBlock = some k ∨ z ≤ k) (h : ∀ k, v3.ownBlock = some k → k < z) : v3.ownBlock = none ∨ v3.ownBlock ≠ v7.ownBlock := by
  cases hv : v3.ownBlock with
  | none => exact .inl rfl
  | some k =>
    refine .inr fun e => ?_
    rcases h7 k e.symm with h4 | h4
    · rcases h1 with h1 | h1
      · rw [hv] at h1; cases h1
      · exact h1 (hv.trans h4.symm)
    · have := h k hv; omega

set_option maxRecDepth 100000 in
set_option maxHeartbeats 1000000 in
theorem append_ok (w : World) (p sb mb g B : Nat) (pl : Option Nat) (s : DS) (sv bv : Value) (m : LG) (h : WalAt w p sb mb pl s g B sv bv m) (hcnt : m.count ≤ 1000) (kn : Nat) (v : Value) (l : List Nat) (hv : RB w w.heap.size v l) (hd : m.dead = false) (hf : m.fresh = true) (hk : 1 ≤ kn ∧ kn ≤ 255) (hl : l.length ≤ 1200) (hroom : ¬ m.room < 1 + (putL l.length ++ l).length) :
    Calls Tryz.prog 20 #[.pointer (some ⟨g, 0, none⟩),   .int .i64 (kn : Int), v] w (AppOwn w p sb mb g B pl s sv bv (m.append (kn : Int) l)) := by
  have a9 := h.lg.blk.cell 9
  have a8 := h.lg.blk.cell 8
  have H := Lib.hid h
  have HV := Lib.hid hv
  obtain ⟨A, c, rfl, _, _, _, _⟩ := hv.open_
  have e1 : Hid (m.append (kn : Int) l = ({ m with st := m.st ++ recL kn l, begs := m.begs ++ [m.st.length] }, m.lsn m.st.length, 0)) := Lib.hid (by unfold LG.append; rw [if_neg (by rw [hd]; simp), if_neg (by rw [hf]; simp), if_neg (by omega), if_neg (by omega), if_neg hroom]; rfl)
  have HD := Lib.hid hd
  have HF := Lib.hid hf
  rw [hd] at a9
  rw [hf] at a8
  obtain ⟨q, hq⟩ : ∃ q, q = (putL l.length ++ l).length := ⟨_, rfl⟩
  have hq2 : q ≤ 1210 := by rw [hq, List.length_append]; have := putL_1200 hl; omega
  obtain ⟨r, hr⟩ : ∃ r, r = m.room := ⟨_, rfl⟩
  have hri : ¬ (r : Int) < 1 + (q : Int) := by omega
  have hgb : Hid (g < w.heap.size) := Lib.hid h.lg.lt
  obtain ⟨As, cs, hsv⟩ := h.lg.stream
  obtain ⟨Ab, cb, hbv⟩ := h.lg.begins
  obtain ⟨n, hn⟩ : ∃ n, n = m.st.length := ⟨_, rfl⟩
  obtain ⟨nb, hnb⟩ : ∃ nb, nb = m.begs.length := ⟨_, rfl⟩
  have hn1 : n ≤ 498000 := by have := h.lg.ok.st; omega
  have hnb1 : nb ≤ 498000 := by have := h.lg.ok.begs.1; omega
  have a5 := h.lg.blk.cell 5
  have a6 := h.lg.blk.cell 6
  rw [hsv, ← hn] at a5
  rw [hbv, ← hnb] at a6
  have hroom2 : Hid (n + (1 + q) ≤ m.count * 498) := Lib.hid (by have := h.lg.ok.st; unfold LG.room at hr; omega)
  have hkc : IntKind.u8.wrap (kn : Int) = (kn : Int) := by rw [IntKind.wrap_u8]; omega
  have HQ := Lib.hid hq
  have HR := Lib.hid hr
  have HN := Lib.hid hn
  have HNB := Lib.hid hnb
  have HSV : Hid (sv = .slice As n cs) := Lib.hid (by rw [hsv, hn])
  have HBV : Hid (bv = .slice Ab nb cb) := Lib.hid (by rw [hbv, hnb])
  clear h hv hd hf hq hr hroom hn hnb hsv hbv
  go_enter Tryz.func20, Tryz.ntmps20
  go_wp2_with fail
  refine (putText_any _ l w HV.out (by omega)).mono ?_
  rintro e w1 ⟨v1, rfl, ho1, hb1⟩
  have HB1 := Lib.hid hb1
  have HO1 := Lib.hid ho1
  obtain ⟨A1, c1, hv1, -, -, -, -⟩ := ho1.rbn.open_
  subst hv1
  have HO1 : Hid (OB w1 w.heap.size (.slice A1 q c1) (putL l.length ++ l)) := Lib.hid (by have := ho1; rw [← HQ.out] at this; exact this)
  rw [← HQ.out]
  clear ho1 hb1
  go_wp2_with fail
  refine (logRoom_any w1 p g B sv bv m (H.out.lg.below HB1.out)).mono ?_
  rw [← HR.out]
  rintro e w2 ⟨rfl, n2, hw2⟩
  have HB2 : Hid (Below w.heap.size w w2) := Lib.hid (by rw [hw2]; exact below_drewN HB1.out n2)
  have HO2 : Hid (OB w2 w.heap.size (.slice A1 q c1) (putL l.length ++ l)) := Lib.hid (by rw [hw2]; exact HO1.out.below (below_drewN (Below.refl _ _) n2))
  have HL2 : Hid (LogAt w2 p g B sv bv m) := Lib.hid (H.out.lg.below HB2.out)
  have c5 : w2.cell? ⟨g, 5, none⟩ = some (.slice As n cs) := (HB2.out.cell (p := ⟨g, 5, none⟩) hgb.out).trans a5
  have c6 : w2.cell? ⟨g, 6, none⟩ = some (.slice Ab nb cb) := (HB2.out.cell (p := ⟨g, 6, none⟩) hgb.out).trans a6
  have hbg : Hid (OK encN 1 3 w2 B (.slice Ab nb cb) m.begs) := Lib.hid (by rw [← HBV.out]; exact HL2.out.begs)
  have hs2 : Hid (OB w2 B (.slice As n cs) m.st) := Lib.hid (by rw [← HSV.out]; exact HL2.out.st)
  have hB2 : B + 1 ≤ w2.heap.size := by have := HL2.out.lt; have := HL2.out.base; omega
  have hown : Hid (∀ k, OwnL g sv bv k → B ≤ k ∧ k < w.heap.size) := Lib.hid H.out.lg.own
  have hz2 : w.heap.size ≤ w2.heap.size := HB2.out.size
  clear hw2 a5 a6 a8 a9
  go_wp2_with (first
    | (at_builtin; refine wpList_appE etN encN_len encN_one (y := n) rfl (.tmp 45) (.tmp 47) rfl rfl (hbg.out.alloc _) w2.heap.size rfl (by intro j u hu; rw [(Blk.new w2 _ _).cell j]; simpa [encN] using hu) (by rw [← HNB.out]; omega) (by simp; omega) ?_; intro v3 w4 k1 k2 k3; obtain ⟨A3, c3, hv3, -, -, -, -⟩ := (k1.rk encN_len (Nat.le_refl _)).open_; subst hv3; obtain ⟨nb3, hnb3⟩ : ∃ x, x = (m.begs ++ [n]).length := ⟨_, rfl⟩; rw [← hnb3] at k1 k3 ⊢; have K1 := Lib.hid k1; have K2 := Lib.hid k2; have K3 := Lib.hid k3; have HX4 : Hid (Blk w4 g _ _) := Lib.hid ((HL2.out.blk.alloc _).grown k2 (by rw [← HBV.out]; exact fun e => HL2.out.far2 e.symm)); have hs4 : Hid (OB w4 B (.slice As n cs) m.st) := Lib.hid ((hs2.out.alloc _).kept k2 (by rw [← HSV.out, ← HBV.out]; exact HL2.out.far3)); have ht4 : Hid (OB w4 w.heap.size (.slice A1 q c1) (putL l.length ++ l)) := Lib.hid ((HO2.out.alloc _).kept k2 (by rw [← HBV.out]; exact text_far HO2.out hown.out (fun k hk => .inr (.inr hk)))); have d5 : w4.cell? ⟨g, 5, none⟩ = some (.slice As n cs) := (HX4.out.cell 5).trans (by rw [HSV.out]; rfl); have d6 : w4.cell? ⟨g, 6, none⟩ = some bv := HX4.out.cell 6; have f5 := HX4.out.frozen 5; have f6 := HX4.out.frozen 6; have k3z : Hid (∀ k, (Value.slice A3 nb3 c3).ownBlock = some k → bv.ownBlock = some k ∨ w.heap.size ≤ k) := Lib.hid (fun k hk => by rcases k3 with e | e; (rw [e, ← HBV.out] at hk; exact .inl hk); (rw [e] at hk; injection hk with hk; right; rw [← hk]; simp; omega)); have bfar : Hid ((Value.slice A3 nb3 c3).ownBlock = none ∨ (Value.slice A3 nb3 c3).ownBlock ≠ sv.ownBlock) := Lib.hid (begs_far HL2.out.far3 k3z.out (fun k hk => (hown.out k (.inr (.inl hk))).2)); have g3f : Hid ((Value.slice A3 nb3 c3).ownBlock ≠ some g) := Lib.hid (fun e => by rcases k3z.out g e with e | e; (exact HL2.out.far2 e); (have := hgb.out; omega)); have hm5 : Hid (Mod (fun k => k = g) w4 (w4.setCell ⟨g, 6, none⟩ (.slice A3 nb3 c3))) := Lib.hid ((Mod.refl (fun k => k = g) w4).setCell (p := ⟨g, 6, none⟩) (fun _ => rfl) _); have hs5 : Hid (OB (w4.setCell ⟨g, 6, none⟩ (.slice A3 nb3 c3)) B (.slice As n cs) m.st) := Lib.hid (hs4.out.mod hm5.out (fun b hb e => HL2.out.far1 (by rw [HSV.out, hb, e]))); have ht5 : Hid (OB (w4.setCell ⟨g, 6, none⟩ (.slice A3 nb3 c3)) w.heap.size (.slice A1 q c1) (putL l.length ++ l)) := Lib.hid (ht4.out.mod hm5.out (fun b hb e => by have := (HO2.out.lt b hb).1; have := hgb.out; omega)); have K5 : Hid (OK encN 1 3 (w4.setCell ⟨g, 6, none⟩ (.slice A3 nb3 c3)) B (.slice A3 nb3 c3) (m.begs ++ [n])) := Lib.hid (K1.out.mod hm5.out (fun b hb e => g3f.out (by rw [hb, e]))); have HX5 := Lib.hid (HX4.out.set_ 6 (.slice A3 nb3 c3)); have hz4 : w2.heap.size + 1 ≤ w4.heap.size := by { have := k2.size; simp at this; omega }; have hz5 : (w4.setCell ⟨g, 6, none⟩ (.slice A3 nb3 c3)).heap.size = w4.heap.size := (by simp); clear k1 k2 k3 hnb3)
    | (at_builtin; refine wpList_app rfl (.tmp 55) (.tmp 58) rfl B _ m.st rfl (hs5.out.alloc _) (w4.heap.size + 1) _ [kn] rfl (RB.newRow (w4.setCell ⟨g, 6, none⟩ (.slice A3 nb3 c3)) (w4.heap.size + 1) w4.heap.size #[.int .u8 (kn : Int)] 5 [kn] 1 hz5.symm rfl (fun x hx => by simp at hx; omega) (by rw [List.length_singleton]; omega) (by rw [List.length_singleton]; omega) (by omega) (Nat.lt_succ_self _) (0, 0)) (by rw [size_alloc_, hz5]; omega) (by rw [← HN.out, List.length_singleton]; omega) ?_; intro v7 w7 o7 g7 m7; obtain ⟨A7, c7, hv7, -, -, -, -⟩ := o7.rbn.open_; subst hv7; obtain ⟨n7, hn7⟩ : ∃ x, x = (m.st ++ [kn]).length := ⟨_, rfl⟩; rw [← hn7] at o7 m7 ⊢; have O7 := Lib.hid o7; have HN7 := Lib.hid hn7; have HX7 := Lib.hid ((HX5.out.alloc _).grown g7 (by rw [← HSV.out]; exact fun e => HL2.out.far1 e.symm)); have ht7 : Hid (OB w7 w.heap.size (.slice A1 q c1) (putL l.length ++ l)) := Lib.hid ((ht5.out.alloc _).kept g7 (by rw [← HSV.out]; exact text_far HO2.out hown.out (fun k hk => .inr (.inl hk)))); have K7 : Hid (OK encN 1 3 w7 B (.slice A3 nb3 c3) (m.begs ++ [n])) := Lib.hid ((K5.out.alloc _).kept g7 (by rw [← HSV.out]; exact bfar.out)); have G7 := Lib.hid g7; have M7 := Lib.hid m7; have hz7 : w4.heap.size + 1 ≤ w7.heap.size := (by have := g7.size; simp at this; omega); clear o7 g7 m7 hn7)
    | (at_builtin; go_must (refine wpList_app rfl (.tmp 59) (.tmp 60) rfl B _ _ rfl O7.out _ _ (putL l.length ++ l) rfl ht7.out.rbn (by omega) (by rw [← HN7.out, ← HQ.out]; have h7 := HN7.out; rw [List.length_append, List.length_singleton, ← HN.out] at h7; omega) ?_); intro v8 w8 o8 g8 m8; obtain ⟨A8, c8, hv8, -, -, -, -⟩ := o8.rbn.open_; subst hv8; obtain ⟨n8, hn8⟩ : ∃ x, x = (m.st ++ [kn] ++ (putL l.length ++ l)).length := ⟨_, rfl⟩; rw [← hn8] at o8 m8 ⊢; have O8 := Lib.hid o8; have HN8 := Lib.hid hn8; have M8 := Lib.hid m8; have G8 := Lib.hid g8; have v7o : Hid (∀ k, (Value.slice A7 n7 c7).ownBlock = some k → sv.ownBlock = some k ∨ w4.heap.size ≤ k) := Lib.hid (fun k hk => by rcases M7.out with e | ⟨e, _⟩; (rw [e, ← HSV.out] at hk; exact .inl hk); (rw [e] at hk; injection hk with hk; right; rw [← hk, size_alloc_, hz5]; omega)); have HX8 := Lib.hid (HX7.out.grown g8 (fun e => by have := hgb.out; rcases v7o.out g e.symm with e | e; (exact HL2.out.far1 e); omega)); have K8 : Hid (OK encN 1 3 w8 B (.slice A3 nb3 c3) (m.begs ++ [n])) := Lib.hid (K7.out.kept g8 (begs7 bfar.out v7o.out (fun k hk => (K1.out.lt k hk).2))); have e5 : w8.cell? ⟨g, 5, none⟩ = some (.slice As n cs) := (HX8.out.cell 5).trans (by rw [HSV.out]; rfl); have f5' := HX8.out.frozen 5; clear o8 g8 m8 hn8 d5 d6 f5 f6))
  have hm9 : Hid (Mod (fun k => k = g) w8 (w8.setCell ⟨g, 5, none⟩ (.slice A8 n8 c8))) := Lib.hid ((Mod.refl (fun k => k = g) w8).setCell (p := ⟨g, 5, none⟩) (fun _ => rfl) _)
  have hz8 : w7.heap.size ≤ w8.heap.size := G8.out.size
  have v8o : Hid (∀ k, (Value.slice A8 n8 c8).ownBlock = some k → sv.ownBlock = some k ∨ w4.heap.size ≤ k) := Lib.hid (fun k hk => by
    rcases M8.out with e | ⟨e, _⟩
    · exact v7o.out k (e.symm.trans hk)
    · rw [e] at hk; injection hk with hk; right; omega)
  have g8f : Hid ((Value.slice A8 n8 c8).ownBlock ≠ some g) := Lib.hid (fun e => by
    have := hgb.out
    rcases v8o.out g e with e | e
    · exact HL2.out.far1 e
    · omega)
  have e88 : Hid (m.st ++ [kn] ++ (putL l.length ++ l) = m.st ++ recL kn l) := Lib.hid (by unfold recL; rw [List.append_assoc]; rfl)
  have hlen8 : Hid ((m.st ++ recL kn l).length = n + (1 + q)) := Lib.hid (by unfold recL; rw [List.length_append, List.length_cons, ← HN.out, ← HQ.out]; omega)
  have HL9 : Hid (LogAt (w8.setCell ⟨g, 5, none⟩ (.slice A8 n8 c8)) p g B (.slice A8 n8 c8) (.slice A3 nb3 c3) { m with st := m.st ++ recL kn l, begs := m.begs ++ [m.st.length] }) := Lib.hid (by
    refine ⟨⟨H.out.lg.ok.first, H.out.lg.ok.count, H.out.lg.ok.run, ?_, ?_, ?_, ?_⟩, HX8.out.set_ 5 _, ?_, ?_, g8f.out, g3f.out, ?_, H.out.lg.base⟩
    · dsimp only; rw [hlen8.out]; exact hroom2.out
    · dsimp only; rw [hlen8.out]; have := H.out.lg.ok.safe; have := HN.out; omega
    · dsimp only; rw [hlen8.out, List.length_append, List.length_singleton]; have := H.out.lg.ok.begs.1; have := HN.out; omega
    · intro b hb
      dsimp only at hb ⊢
      rw [hlen8.out]
      rcases List.mem_append.1 hb with hb | hb
      · have := H.out.lg.ok.begs.2 b hb; have := HN.out; omega
      · simp at hb; have := HN.out; omega
    · dsimp only
      rw [← e88.out]
      exact O8.out.mod hm9.out (fun b hb e => g8f.out (by rw [hb, e]))
    · dsimp only
      rw [← HN.out]
      exact K8.out.mod hm9.out (fun b hb e => g3f.out (by rw [hb, e]))
    · have := begs7 bfar.out v8o.out (fun k hk => (K1.out.lt k hk).2)
      rcases this with e | e
      · cases h8 : (Value.slice A8 n8 c8).ownBlock with
        | none => exact .inl rfl
        | some k => rw [e]; exact .inr (by simp)
      · exact .inr (fun e2 => e e2.symm))
  have HMM : Hid (Mod (OwnL g sv bv) w (w8.setCell ⟨g, 5, none⟩ (.slice A8 n8 c8))) := Lib.hid (by
    have s1 : Mod (OwnL g sv bv) w (w2.alloc (.cells #[.int .i64 (n : Int)] 3)) := (Mod.of_below HB2.out _).alloc _
    have s2 : Mod (OwnL g sv bv) w w4 := s1.trans (Mod.of_grown K2.out) (fun k hk e => .inr (.inr (by rw [HBV.out]; exact e.symm)))
    have s3 := (s2.trans hm5.out (fun k hk e => .inl e)).alloc (.cells #[.int .u8 (kn : Int)] 5)
    have s4 : Mod (OwnL g sv bv) w w7 := s3.trans (Mod.of_grown G7.out) (fun k hk e => .inr (.inl (by rw [HSV.out]; exact e.symm)))
    have s5 : Mod (OwnL g sv bv) w w8 := s4.trans (Mod.of_grown G8.out) (fun k hk e => by
      rcases v7o.out k e.symm with e2 | e2
      · exact .inr (.inl e2)
      · omega)
    exact s5.trans hm9.out (fun k hk e => .inl e))
  have HW9 : Hid (WalAt (w8.setCell ⟨g, 5, none⟩ (.slice A8 n8 c8)) p sb mb pl s g B (.slice A8 n8 c8) (.slice A3 nb3 c3) { m with st := m.st ++ recL kn l, begs := m.begs ++ [m.st.length] }) := Lib.hid (by
    have hB : ∀ k, k < B → ¬ OwnL g sv bv k := fun k hk e => by have := (hown.out k e).1; omega
    refine ⟨H.out.dk.mod HMM.out (hB _ H.out.sep.1) (hB _ H.out.sep.2.1) (hB _ H.out.sep.2.2) H.out.pl, HL9.out, H.out.sep, fun b hb hk => ?_⟩
    have hlt := H.out.dk.lt.2.2.2 b hb
    refine H.out.pl b hb ?_
    rcases hk with hk | hk | hk
    · exact .inl hk
    · rcases v8o.out b hk with e | e
      · exact .inr (.inl e)
      · omega
    · rcases k3z.out b hk with e | e
      · exact .inr (.inr e)
      · omega)
  have HOWN : Hid (∀ k, OwnL g (.slice A8 n8 c8) (.slice A3 nb3 c3) k → OwnL g sv bv k ∨ w.heap.size ≤ k) := Lib.hid (fun k hk => by
    rcases hk with hk | hk | hk
    · exact .inl (.inl hk)
    · rcases v8o.out k hk with e | e
      · exact .inl (.inr (.inl e))
      · right; omega
    · rcases k3z.out k hk with e | e
      · exact .inl (.inr (.inr e))
      · exact .inr e)
  refine (lsn_any _ p g B _ _ _ HL9.out n (by omega)).mono ?_
  rintro e w9 ⟨rfl, h9⟩
  subst w9
  go_wp2_with fail
  go_ret2
  rw [e1.out]
  exact ⟨by rw [← HN.out]; rfl, ⟨_, _, HW9.out, HOWN.out⟩, HMM.out⟩

theorem Append_own (w : World) (p sb mb g B : Nat) (pl : Option Nat) (s : DS) (sv bv : Value) (m : LG) (h : WalAt w p sb mb pl s g B sv bv m) (hcnt : m.count ≤ 1000) (kind : Int) (v : Value) (l : List Nat) (hv : RB w w.heap.size v l) :
    Calls Tryz.prog 20 #[.pointer (some ⟨g, 0, none⟩), .int .i64 kind, v] w (AppOwn w p sb mb g B pl s sv bv (m.append kind l)) := by
  by_cases hbad : m.dead = true ∨ m.fresh = false ∨ (kind < 1 ∨ 255 < kind) ∨ 1200 < l.length
  · exact append_bad w p sb mb g B pl s sv bv m h kind v l hv hbad
  · have hd : m.dead = false := by
      cases hd : m.dead with
      | false => rfl
      | true => exact absurd (.inl hd) hbad
    have hf : m.fresh = true := by
      cases hf : m.fresh with
      | true => rfl
      | false => exact absurd (.inr (.inl hf)) hbad
    have hk : 1 ≤ kind ∧ kind ≤ 255 := by
      by_cases hk : kind < 1 ∨ 255 < kind
      · exact absurd (.inr (.inr (.inl hk))) hbad
      · omega
    have hl : l.length ≤ 1200 := by
      by_cases hl : 1200 < l.length
      · exact absurd (.inr (.inr (.inr hl))) hbad
      · omega
    by_cases hr : m.room < 1 + (putL l.length ++ l).length
    · exact append_full w p sb mb g B pl s sv bv m h kind v l hv hd hf hk hl hr
    · obtain ⟨kn, rfl⟩ : ∃ kn : Nat, kind = (kn : Int) := ⟨kind.toNat, by omega⟩
      exact append_ok w p sb mb g B pl s sv bv m h hcnt kn v l hv hd hf (by omega) hl hr

theorem Append_any (w : World) (p sb mb g B : Nat) (pl : Option Nat) (s : DS) (sv bv : Value) (m : LG) (h : WalAt w p sb mb pl s g B sv bv m) (hcnt : m.count ≤ 1000) (kind : Int) (v : Value) (l : List Nat) (hv : RB w w.heap.size v l) :
    Calls Tryz.prog 20 #[.pointer (some ⟨g, 0, none⟩), .int .i64 kind, v] w (AppOut w p sb mb g B pl s sv bv (m.append kind l)) :=
  (Append_own w p sb mb g B pl s sv bv m h hcnt kind v l hv).mono fun e w' ⟨h1, ⟨sv', bv', h2, _⟩, h3⟩ => ⟨h1, ⟨sv', bv', h2⟩, h3⟩

end Go.Proofs.YtbagmmncjmbboaaGreat

/-
  What the log reads from its sectors, in plain words.
-/
namespace Go.Proofs.YtbagmmncjmbboaaGreat
open Go.RowKit Go.Maps
set_option linter.unusedVariables false

/-- A sector's run and part: none where it is no log sector. -/
noncomputable def secRun (b : List Nat) : Nat := by classical exact if isLog b then runOf b else 0
noncomputable def secPart (b : List Nat) : List Nat := by classical exact if isLog b then partOf b else []
theorem secRun_yes {b : List Nat} (h : isLog b) : secRun b = runOf b := by unfold secRun; rw [if_pos h]

theorem secRun_no {b : List Nat} (h : ¬ isLog b) : secRun b = 0 := by unfold secRun; rw [if_neg h]

theorem secPart_yes {b : List Nat} (h : isLog b) : secPart b = partOf b := by unfold secPart; rw [if_pos h]

theorem secPart_no {b : List Nat} (h : ¬ isLog b) : secPart b = [] := by unfold secPart; rw [if_neg h]

theorem secRun_le (b : List Nat) : secRun b ≤ 274877906944 := by
  by_cases h : isLog b
  · rw [secRun_yes h]; exact h.2.1
  · rw [secRun_no h]; omega

theorem secPart_le (b : List Nat) : (secPart b).length ≤ 498 := by
  by_cases h : isLog b
  · rw [secPart_yes h]; unfold partOf; rw [List.length_take]; have := h.2.2.1; omega
  · rw [secPart_no h]; simp

/-- What is known behind some of the sectors. -/
structure RS where
  run : Nat
  most : Nat
  goes : Bool
  st : List Nat
noncomputable def RS.step (x : RS) (fresh : Bool) (b : List Nat) : RS :=
  let r := if fresh then secRun b else x.run
  let g := x.goes && decide (secRun b = r)
  ⟨r, max x.most (secRun b), g && decide ((secPart b).length = 498), if g then x.st ++ secPart b else x.st⟩
noncomputable def RS.upto (s : DS) (first : Nat) : Nat → RS
  | 0 => ⟨0, 0, true, []⟩
  | k + 1 => (RS.upto s first k).step (k == 0) (s.has (first + k))

set_option maxRecDepth 100000 in
theorem RS.upto_ok (s : DS) (first : Nat) : ∀ k, (RS.upto s first k).run ≤ (RS.upto s first k).most ∧ (RS.upto s first k).most ≤ 274877906944 ∧ (RS.upto s first k).st.length ≤ k * 498
  | 0 => by simp [RS.upto]
  | k + 1 => by
    obtain ⟨h1, h2, h3⟩ := RS.upto_ok s first k
    have h4 := secRun_le (s.has (first + k))
    have h5 := secPart_le (s.has (first + k))
    refine ⟨?_, ?_, ?_⟩
    · simp only [RS.upto, RS.step]; split <;> omega
    · simp only [RS.upto, RS.step]; omega
    · have h6 : ∀ c : Bool, (if c = true then (RS.upto s first k).st ++ secPart (s.has (first + k)) else (RS.upto s first k).st).length ≤ (k + 1) * 498 := by
        intro c
        cases c
        · rw [if_neg (by simp)]; omega
        · rw [if_pos rfl, List.length_append]; omega
      exact h6 _

/-- The log that has read so far. -/
noncomputable def RS.log (x : RS) (first count : Nat) : LG := ⟨first, count, x.run, x.most, x.st, [], 0, false, false⟩
set_option maxRecDepth 100000 in
theorem RS.log_ok (s : DS) {first count k : Nat} (hf : first ≤ 4096) (hc : 1 ≤ count ∧ count ≤ 4096) (hk : k ≤ count) : ((RS.upto s first k).log first count).Ok := by
  obtain ⟨h1, h2, h3⟩ := RS.upto_ok s first k
  refine ⟨hf, hc, ⟨h1, h2⟩, ?_, Nat.zero_le _, by simp [RS.log]⟩
  show (RS.upto s first k).st.length ≤ count * 498
  have : k * 498 ≤ count * 498 := Nat.mul_le_mul_right _ hk
  omega

end Go.Proofs.YtbagmmncjmbboaaGreat

/-
  The walk of the log's readStream.
-/
namespace Go.Proofs.YtbagmmncjmbboaaGreat
open Go.RowKit Go.Maps
set_option linter.unusedVariables false

theorem parse_uni (w : World) (b : Nat) (l : List Nat) (hs : Secs w b [l]) (ok : Bool) (hok : ok = true ↔ isLog l) :
    Calls Tryz.prog 104 #[.slice (some ⟨b, 0, none⟩) 512 512] w fun e w' => Below w.heap.size w w' ∧ ∃ A c, e = .returned (.tuple #[.int .i64 (secRun l : Int), .slice A (secPart l).length c, .bool ok]) ∧ RB w' w'.heap.size (.slice A (secPart l).length c) (secPart l) := by
  have hl := hs.ok l (by simp)
  refine (parse_any w b l (hs.rb hs.lt) hl.1 hs.lt).mono ?_
  rintro e w' ⟨hb, h | ⟨h, A, c, he, hr⟩⟩
  · have h0 : ok = false := by
      cases ok with
      | false => rfl
      | true => exact absurd (hok.1 rfl) h.1
    refine ⟨hb, none, 0, ?_, ?_⟩
    · rw [h.2, secRun_no h.1, secPart_no h.1, h0]; rfl
    · rw [secPart_no h.1]; exact RB.nil _ _
  · have h0 : ok = true := hok.2 h
    have hu : usedOf l = (partOf l).length := by unfold partOf; rw [List.length_take, List.length_drop, hl.1]; have := h.2.2.1; omega
    refine ⟨hb, A, c, ?_, ?_⟩
    · rw [he, secRun_yes h, secPart_yes h, h0, hu]
    · rw [secPart_yes h, ← hu]; exact hr

theorem RS.first_run (s : DS) (first : Nat) (h : isLog (s.has first)) : ∀ k, (RS.upto s first (k + 1)).run = runOf (s.has first)
  | 0 => by
    show secRun (s.has (first + 0)) = _
    exact secRun_yes h
  | k + 1 => by
    rw [← RS.first_run s first h k]
    rfl

end Go.Proofs.YtbagmmncjmbboaaGreat

/-
  The walk of the log's readStream: a disk that is on.
-/
namespace Go.Proofs.YtbagmmncjmbboaaGreat
open Go.RowKit Go.Maps
set_option linter.unusedVariables false

theorem rs_final {wA w5 : World} {p sb mb g B : Nat} {pl : Option Nat} {s : DS} {sv v5 : Value} {r mx mm first count : Nat} {gA gB : Bool} {st part : List Nat}
    (hA : WalAt wA p sb mb pl s g B sv (.slice none 0 0) (RS.log ⟨r, mx, gA, st⟩ first count)) (o5 : OB w5 B v5 (st ++ part)) (g5 : wA.grownBy w5 sv.ownBlock) (m5 : v5.ownBlock = sv.ownBlock ∨ v5.ownBlock = some wA.heap.size) (hok : (RS.log ⟨r, mm, gB, st ++ part⟩ first count).Ok) :
    WalAt ((w5.setCell ⟨g, 5, none⟩ v5).setCell ⟨g, 4, none⟩ (.int .i64 (mm : Int))) p sb mb pl s g B v5 (.slice none 0 0) (RS.log ⟨r, mm, gB, st ++ part⟩ first count) := by
  have hlt := hA.lg.lt
  have hf1 : v5.ownBlock ≠ some g := fun e => by
    rcases m5 with h | h
    · exact hA.lg.far1 (by rw [← h, e])
    · rw [h] at e; injection e with e; omega
  have hm0 : Mod (fun k => k = g ∨ sv.ownBlock = some k) wA w5 := (Mod.of_grown g5).mono (fun k _ e => .inr e.symm)
  have hm1 : Mod (fun k => k = g) w5 ((w5.setCell ⟨g, 5, none⟩ v5).setCell ⟨g, 4, none⟩ (.int .i64 (mm : Int))) := ((Mod.refl (fun k => k = g) w5).setCell (p := ⟨g, 5, none⟩) (fun _ => rfl) _).setCell (p := ⟨g, 4, none⟩) (fun _ => rfl) _
  have hmm := hm0.trans hm1 (fun k _ e => .inl e)
  have hB : ∀ k, k < B → ¬ (k = g ∨ sv.ownBlock = some k) := fun k hk e => by
    rcases e with e | e
    · have := hA.lg.base; omega
    · have := (hA.lg.own k (.inr (.inl e))).1; omega
  refine ⟨hA.dk.mod hmm (hB _ hA.sep.1) (hB _ hA.sep.2.1) (hB _ hA.sep.2.2) (fun b hb e => hA.pl b hb ?_), ⟨hok, ?_, ?_, OK.nil _ _, hf1, by simp [Value.ownBlock], ?_, hA.lg.base⟩, hA.sep, fun b hb hk => ?_⟩
  · rcases e with e | e
    · exact .inl e
    · exact .inr (.inl e)
  · exact ((hA.lg.blk.grown g5 (fun e => hA.lg.far1 e.symm)).set_ 5 v5).set_ 4 _
  · exact o5.mod hm1 (fun b hb e => hf1 (by rw [hb, e]))
  · cases h : v5.ownBlock with
    | none => exact .inl rfl
    | some k => exact .inr (by simp [Value.ownBlock])
  · have hbl := hA.dk.lt.2.2.2 b hb
    refine hA.pl b hb ?_
    rcases hk with hk | hk | hk
    · exact .inl hk
    · rcases m5 with h | h
      · exact .inr (.inl (by rw [← h]; exact hk))
      · rw [h] at hk; injection hk with hk; omega
    · cases hk

theorem rs_first {wA w5 : World} {p sb mb g B : Nat} {pl : Option Nat} {s : DS} {sv v5 : Value} {r mm first count : Nat} {gB : Bool} {part : List Nat}
    (hA : WalAt wA p sb mb pl s g B sv (.slice none 0 0) (RS.log ⟨0, 0, true, []⟩ first count)) (o5 : OB w5 B v5 part) (g5 : (wA.setCell ⟨g, 3, none⟩ (.int .i64 (r : Int))).grownBy w5 sv.ownBlock) (m5 : v5.ownBlock = sv.ownBlock ∨ v5.ownBlock = some wA.heap.size) (hok : (RS.log ⟨r, mm, gB, part⟩ first count).Ok) :
    WalAt ((w5.setCell ⟨g, 5, none⟩ v5).setCell ⟨g, 4, none⟩ (.int .i64 (mm : Int))) p sb mb pl s g B v5 (.slice none 0 0) (RS.log ⟨r, mm, gB, part⟩ first count) := by
  have hlt := hA.lg.lt
  have hf1 : v5.ownBlock ≠ some g := fun e => by
    rcases m5 with h | h
    · exact hA.lg.far1 (by rw [← h, e])
    · rw [h] at e; injection e with e; omega
  have hm0 : Mod (fun k => k = g ∨ sv.ownBlock = some k) wA w5 := ((Mod.refl (fun k => k = g ∨ sv.ownBlock = some k) wA).setCell (p := ⟨g, 3, none⟩) (fun _ => .inl rfl) _).trans (Mod.of_grown g5) (fun k _ e => .inr e.symm)
  have hm1 : Mod (fun k => k = g) w5 ((w5.setCell ⟨g, 5, none⟩ v5).setCell ⟨g, 4, none⟩ (.int .i64 (mm : Int))) := ((Mod.refl (fun k => k = g) w5).setCell (p := ⟨g, 5, none⟩) (fun _ => rfl) _).setCell (p := ⟨g, 4, none⟩) (fun _ => rfl) _
  have hmm := hm0.trans hm1 (fun k _ e => .inl e)
  have hB : ∀ k, k < B → ¬ (k = g ∨ sv.ownBlock = some k) := fun k hk e => by
    rcases e with e | e
    · have := hA.lg.base; omega
    · have := (hA.lg.own k (.inr (.inl e))).1; omega
  refine ⟨hA.dk.mod hmm (hB _ hA.sep.1) (hB _ hA.sep.2.1) (hB _ hA.sep.2.2) (fun b hb e => hA.pl b hb ?_), ⟨hok, ?_, ?_, OK.nil _ _, hf1, by simp [Value.ownBlock], ?_, hA.lg.base⟩, hA.sep, fun b hb hk => ?_⟩
  · rcases e with e | e
    · exact .inl e
    · exact .inr (.inl e)
  · exact (((hA.lg.blk.set_ 3 (.int .i64 (r : Int))).grown g5 (fun e => hA.lg.far1 e.symm)).set_ 5 v5).set_ 4 _
  · exact o5.mod hm1 (fun b hb e => hf1 (by rw [hb, e]))
  · cases h : v5.ownBlock with
    | none => exact .inl rfl
    | some k => exact .inr (by simp [Value.ownBlock])
  · have hbl := hA.dk.lt.2.2.2 b hb
    refine hA.pl b hb ?_
    rcases hk with hk | hk | hk
    · exact .inl hk
    · rcases m5 with h | h
      · exact .inr (.inl (by rw [← h]; exact hk))
      · rw [h] at hk; injection hk with hk; omega
    · cases hk

theorem off_log {w : World} {B B' p g : Nat} {v sv bv : Value} {l : List Nat} {m : LG} (hr : RB w B v l) (hb : LogAt w p g B' sv bv m) : Off (fun k => k = g) v l := by
  obtain ⟨h1, h2, A, c, rfl, h3, h4, h5⟩ := hr
  rcases h5 with h5 | ⟨b, off, rfl, hlt, hx⟩
  · exact .inl h5
  · cases l with
    | nil => exact .inl rfl
    | cons x t =>
      obtain ⟨As, cs, hsv⟩ := hb.stream
      obtain ⟨Ab, cb, hbv⟩ := hb.begins
      refine .inr fun k hk e => ?_
      dsimp only at e
      simp only [Value.ownBlock] at hk
      injection hk with hk
      have h := hx 0 x rfl
      rw [hk, e, hb.blk.cell, hsv, hbv] at h
      match off, h with
      | 0, h => simp at h
      | 1, h => simp at h
      | 2, h => simp at h
      | 3, h => simp at h
      | 4, h => simp at h
      | 5, h => simp at h
      | 6, h => simp at h
      | 7, h => simp at h
      | 8, h => simp at h
      | 9, h => simp at h
      | _ + 10, h => simp at h

set_option maxRecDepth 100000 in
set_option maxHeartbeats 2000000 in
theorem readStream_on (w : World) (p sb mb g B : Nat) (pl : Option Nat) (s : DS) (first count : Nat) (h : WalAt w p sb mb pl s g B (.slice none 0 0) (.slice none 0 0) ((RS.upto s first 0).log first count)) (hoff : s.off = false) (hlen : first + count ≤ s.safe.length) :
    Calls Tryz.prog 77 #[.pointer (some ⟨g, 0, none⟩)] w fun e w' => ((¬ isLog (s.has first) ∧ e = .returned (.int .i64 6)) ∨ (isLog (s.has first) ∧ e = .returned (.int .i64 0) ∧ ∃ sv', WalAt w' p sb mb pl s g B sv' (.slice none 0 0) ((RS.upto s first count).log first count))) ∧ Mod (fun k => k = g) w w' := by
  have H := Lib.hid h
  have HOFF := Lib.hid hoff
  have hnum : s.safe.length ≤ 4096 := h.dk.ok.num
  have HLEN := Lib.hid hlen
  have hc1 : 1 ≤ count := h.lg.ok.count.1
  have hcf : first + count ≤ 4096 := by omega
  have a2 : w.cell? ⟨g, 2, none⟩ = some (.int .i64 (count : Int)) := h.lg.blk.cell 2
  have hglt := h.lg.lt
  clear h hoff hlen hnum
  go_enter Tryz.func77, Tryz.ntmps77
  go_wp2_with fail
  clear a2
  go_loopw [3, 14] (fun go i wr => ∃ (k : Nat) (sv' : Value), go = .bool (RS.upto s first k).goes ∧ i = .int .i64 k ∧ k ≤ count ∧ Hid (0 < k → isLog (s.has first)) ∧ Hid (∀ j, sv'.ownBlock = some j → w.heap.size ≤ j) ∧ Hid (WalAt wr p sb mb pl s g B sv' (.slice none 0 0) ((RS.upto s first k).log first count)) ∧ Hid (Mod (fun k => k = g) w wr)) (fun go i wr => count - (intOf i).toNat)
  case atStart => exact ⟨0, .slice none 0 0, rfl, rfl, Nat.zero_le _, Lib.hid (fun h => absurd h (by omega)), Lib.hid (fun j h => by cases h), H, Lib.hid (Mod.refl _ _)⟩
  case round =>
    obtain ⟨k, sv', rfl, rfl, hk, HL, HNEW, HW, HM⟩ := hrel
    by_cases hkc : k < count
    · obtain ⟨x, hx⟩ : ∃ x, x = RS.upto s first k := ⟨_, rfl⟩
      obtain ⟨l, hl⟩ : ∃ l, l = s.has (first + k) := ⟨_, rfl⟩
      obtain ⟨ok, hok⟩ : ∃ ok : Bool, ok = true ↔ isLog l := by
        by_cases h : isLog l
        · exact ⟨true, fun _ => h, fun _ => rfl⟩
        · exact ⟨false, Iff.intro (fun e => Bool.noConfusion e) (fun e => absurd e h)⟩
      have HOK := Lib.hid hok
      have hki : (k : Int) < (count : Int) := by omega
      rw [← hx] at HW ⊢
      have HX := Lib.hid hx
      have HLL := Lib.hid hl
      have hfi : IntKind.i64.wrap ((first : Int) + (k : Int)) = (first : Int) + (k : Int) := by rw [IntKind.wrap_i64]; omega
      have hre : Hid (s.readE ((first : Int) + (k : Int)) = 0) := Lib.hid (by
        have := HLEN.out
        unfold DS.readE DS.isSec
        rw [if_neg (by rw [HOFF.out]; simp), if_neg (by simp; omega)])
      have hti : Hid (((first : Int) + (k : Int)).toNat = first + k) := Lib.hid (by omega)
      clear hx hl hok
      go_wp2_with fail
      have b0 : wr.cell? ⟨g, 0, none⟩ = some (.pointer (some ⟨p, 0, none⟩)) := HW.out.lg.blk.cell 0
      have b1 : wr.cell? ⟨g, 1, none⟩ = some (.int .i64 (first : Int)) := HW.out.lg.blk.cell 1
      have HW2 : Hid (WalAt wr.drew p sb mb pl s g B sv' (.slice none 0 0) (x.log first count)) := Lib.hid (HW.out.below (below_drewN (Below.refl _ _) 1))
      have HCASE : Hid (∀ (w3 : World) (v3 : Value), Below wr.drew.heap.size wr.drew w3 → ((s.readE ((first : Int) + (k : Int)) = 0 ∧ ∃ b, v3 = .slice (some ⟨b, 0, none⟩) 512 512 ∧ wr.drew.heap.size ≤ b ∧ Secs w3 b [s.has ((first : Int) + (k : Int)).toNat]) ∨ s.readE ((first : Int) + (k : Int)) ≠ 0 ∧ v3 = .slice none 0 0) → ∃ b, v3 = .slice (some ⟨b, 0, none⟩) 512 512 ∧ Secs w3 b [l] ∧ Below wr.heap.size wr w3) := Lib.hid (fun w3 v3 hb3 hcase => by
        rcases hcase with ⟨_, b, h1, h2, h3⟩ | ⟨h1, _⟩
        · exact ⟨b, h1, by rw [HLL.out, ← hti.out]; exact h3, (below_drewN (Below.refl _ _) 1).trans hb3⟩
        · exact absurd hre.out h1)
      go_region_law (first
        | (go_simp; go_at_call 28; refine (Read_any wr.drew p sb mb pl s HW2.out.dk ((first : Int) + (k : Int))).mono ?_; rintro e w3 ⟨v3, rfl, hb3, hcase⟩; rw [hre.out]; obtain ⟨b, rfl, hsec, hb33⟩ := HCASE.out w3 v3 hb3 hcase; have HB3 := Lib.hid hb33; have HSEC := Lib.hid hsec; clear hcase hb3 hsec hb33))
      all_goals (
        clear b0 b1
        go_wp2_with fail
        refine (parse_uni w3 b l HSEC.out ok HOK.out).mono ?_
        rintro e w4 ⟨hb4, A4, c4, rfl, hr4⟩
        have HR4 := Lib.hid hr4
        have HB4 : Hid (Below wr.heap.size wr w4) := Lib.hid (HB3.out.trans (hb4.mono HB3.out.size))
        have HW4 : Hid (WalAt w4 p sb mb pl s g B sv' (.slice none 0 0) (x.log first count)) := Lib.hid (HW.out.below HB4.out)
        clear hr4 hb4
        obtain ⟨As, cs, hsv⟩ := HW.out.lg.stream
        obtain ⟨n, hn⟩ : ∃ n, n = x.st.length := ⟨_, rfl⟩
        have hsv2 : sv' = .slice As n cs := by rw [hsv, hn]; rfl
        subst hsv2
        clear hsv
        have HNN := Lib.hid hn
        obtain ⟨u, hu⟩ : ∃ u, u = (secPart l).length := ⟨_, rfl⟩
        obtain ⟨r, hr⟩ : ∃ r, r = secRun l := ⟨_, rfl⟩
        rw [← hu] at HR4 ⊢
        rw [← hr]
        have HU := Lib.hid hu
        have HRR := Lib.hid hr
        obtain ⟨rn, hrn⟩ : ∃ rn, rn = x.run := ⟨_, rfl⟩
        obtain ⟨mx, hmx⟩ : ∃ mx, mx = x.most := ⟨_, rfl⟩
        obtain ⟨gx, hgx⟩ : ∃ gx, gx = x.goes := ⟨_, rfl⟩
        have c3 : w4.cell? ⟨g, 3, none⟩ = some (.int .i64 (rn : Int)) := by rw [hrn]; exact HW4.out.lg.blk.cell 3
        have c4' : w4.cell? ⟨g, 4, none⟩ = some (.int .i64 (mx : Int)) := by rw [hmx]; exact HW4.out.lg.blk.cell 4
        have c5 : w4.cell? ⟨g, 5, none⟩ = some (.slice As n cs) := HW4.out.lg.blk.cell 5
        have f3 := HW4.out.lg.blk.frozen 3
        have f4 := HW4.out.lg.blk.frozen 4
        have f5 := HW4.out.lg.blk.frozen 5
        have hmax : ∀ W ty, (Builtin.max_ #[2, 2] ty #[.int .i64 (mx : Int), .int .i64 (r : Int)]).run Tryz.prog W = .ok (.int .i64 ((max mx r : Nat) : Int)) W := by
          intro W ty
          simp [Builtin.max_, Builtin.max2, List.foldlM]
          omega
        obtain ⟨mm, hmm⟩ : ∃ mm, mm = max mx r := ⟨_, rfl⟩
        rw [← hmm] at hmax
        have HRN := Lib.hid hrn
        have HMX := Lib.hid hmx
        have HGX := Lib.hid hgx
        have HMM := Lib.hid hmm
        rw [← hgx]
        clear hn hu hr hrn hmx hgx hmm
        by_cases hk0 : k = 0
        · subst hk0
          have hx0 : x = ⟨0, 0, true, []⟩ := HX.out
          have hgx0 : gx = true := by rw [HGX.out, hx0]
          have hrn0 : rn = 0 := by rw [HRN.out, hx0]
          have hmx0 : mx = 0 := by rw [HMX.out, hx0]
          have hl0 : l = s.has first := HLL.out
          cases ok with
          | false =>
            have hno : Hid (¬ isLog (s.has first)) := Lib.hid (fun h => by have := HOK.out.2 (by rw [hl0]; exact h); cases this)
            clear hx0 hl0
            go_wp2_with fail
            go_ret
            exact ⟨.inl ⟨hno.out, rfl⟩, HM.out.trans' (Mod.of_below HB4.out _)⟩
          | true =>
            have hyes : Hid (isLog (s.has first)) := Lib.hid (by rw [← hl0]; exact HOK.out.1 rfl)
            have hst : Hid (RS.upto s first (0 + 1) = ⟨r, mm, decide (u = 498), secPart l⟩) := Lib.hid (by
              show (RS.upto s first 0).step (0 == 0) (s.has (first + 0)) = _
              rw [← HX.out, ← HLL.out, hx0]
              simp only [RS.step]
              rw [if_pos (by simp), ← HRR.out, HMM.out, hmx0, ← HU.out]
              simp)
            have hok2 : Hid ((RS.log ⟨r, mm, decide (u = 498), secPart l⟩ first count).Ok) := Lib.hid (by
              have h := RS.log_ok s (first := first) (count := count) (k := 0 + 1) (by omega) ⟨by omega, by omega⟩ (by omega)
              rw [hst.out] at h; exact h)
            have hA : Hid (WalAt w4 p sb mb pl s g B (.slice As n cs) (.slice none 0 0) (RS.log ⟨0, 0, true, []⟩ first count)) := Lib.hid (by rw [← hx0]; exact HW4.out)
            have hm3 : Hid (Mod (fun k => k = g) w4 (w4.setCell ⟨g, 3, none⟩ (.int .i64 (r : Int)))) := Lib.hid ((Mod.refl (fun k => k = g) w4).setCell (p := ⟨g, 3, none⟩) (fun _ => rfl) _)
            have hst4 : Hid (OB (w4.setCell ⟨g, 3, none⟩ (.int .i64 (r : Int))) B (.slice As n cs) []) := Lib.hid (hA.out.lg.st.mod hm3.out (fun b hb e => hA.out.lg.far1 (by rw [hb, e])))
            have hr3 : Hid (RB (w4.setCell ⟨g, 3, none⟩ (.int .i64 (r : Int))) w4.heap.size (.slice A4 u c4) (secPart l)) := Lib.hid (by
              have h := HR4.out.mod hm3.out (off_log HR4.out hA.out.lg)
              simpa using h)
            have hlen5 : Hid (([] : List Nat).length + (secPart l).length ≤ 140737488355328) := Lib.hid (by
              have h2 := secPart_le l
              simp; omega)
            have hub : Hid (((u : Int) == 498) = decide (u = 498)) := Lib.hid (by rw [Bool.eq_iff_iff]; simp; omega)
            have hB4 : B ≤ (w4.setCell ⟨g, 3, none⟩ (.int .i64 (r : Int))).heap.size := by have := HW4.out.lg.base; have := HW4.out.lg.lt; simp; omega
            subst hgx0
            have HMX0 := Lib.hid hmx0
            clear hx0 hl0 hmx0 hrn0
            go_wp2_with (first
              | (at_builtin; refine wpList_app rfl (.tmp 62) (.tmp 63) rfl B _ [] rfl hst4.out w4.heap.size _ (secPart l) rfl hr3.out hB4 hlen5.out ?_; intro v5 w5 o5 g5 m5; rw [List.nil_append] at o5; obtain ⟨A5, c5x, hv5, -, -, -, -⟩ := o5.rbn.open_; subst hv5; obtain ⟨n5, hn5⟩ : ∃ y, y = (secPart l).length := ⟨_, rfl⟩; rw [← hn5] at o5 m5 ⊢; clear hn5; have m5' : (Value.slice A5 n5 c5x).ownBlock = (Value.slice As n cs).ownBlock ∨ (Value.slice A5 n5 c5x).ownBlock = some w4.heap.size := (m5.imp id (fun h => by simpa using h.1)); have HFIN := Lib.hid (rs_first (mm := mm) (gB := decide (u = 498)) hA.out o5 g5 m5' hok2.out); have hnew5 : Hid (∀ j, (Value.slice A5 n5 c5x).ownBlock = some j → w.heap.size ≤ j) := Lib.hid (fun j hj => by have hz := HM.out.size; have hz4 := HB4.out.size; rcases m5' with h | h; (exact HNEW.out j (h.symm.trans hj)); (rw [h] at hj; injection hj with hj; omega)); have hmod5 : Hid (Mod (fun k => k = g) w w5) := Lib.hid (((HM.out.trans' (Mod.of_below HB4.out _)).trans' hm3.out).trans (Mod.of_grown g5) (fun j hj e => by have := HNEW.out j e.symm; omega)); have HX5 := Lib.hid ((hA.out.lg.blk.set_ 3 (.int .i64 (r : Int))).grown g5 (fun e => hA.out.lg.far1 e.symm)); have d5 : w5.cell? ⟨g, 5, none⟩ = some (.slice As n cs) := HX5.out.cell 5; have d4 : w5.cell? ⟨g, 4, none⟩ = some (.int .i64 (mx : Int)) := (HX5.out.cell 4).trans (by rw [HMX0.out]; rfl); have f5' := HX5.out.frozen 5; have f4' := HX5.out.frozen 4; clear o5 g5 m5 m5'))
            go_roundw
            case rel => exact ⟨0 + 1, _, by rw [hst.out]; exact congrArg Value.bool hub.out, by go_num, by omega, Lib.hid (fun _ => hyes.out), hnew5, Lib.hid (by rw [hst.out]; exact HFIN.out), Lib.hid ((hmod5.out.setCell (p := ⟨g, 5, none⟩) (fun _ => rfl) _).setCell (p := ⟨g, 4, none⟩) (fun _ => rfl) _)⟩
            case measure => simp [intOf]; omega
        · have hki0 : ¬ (k : Int) = 0 := by omega
          have hkb : Hid ((k == 0) = false) := Lib.hid (by simpa using hk0)
          by_cases hap : gx = true ∧ r = rn
          · obtain ⟨rfl, rfl⟩ := hap
            have hst : Hid (RS.upto s first (k + 1) = ⟨r, mm, decide (u = 498), x.st ++ secPart l⟩) := Lib.hid (by
              show (RS.upto s first k).step (k == 0) (s.has (first + k)) = _
              rw [← HX.out, ← HLL.out, hkb.out]
              simp only [RS.step]
              rw [if_neg (by simp), ← HGX.out, ← HRR.out, ← HRN.out, HMM.out, ← HMX.out, ← HU.out]
              simp)
            have hok2 : Hid ((RS.log ⟨r, mm, decide (u = 498), x.st ++ secPart l⟩ first count).Ok) := Lib.hid (by
              have h := RS.log_ok s (first := first) (count := count) (k := k + 1) (by omega) ⟨by omega, by omega⟩ (by omega)
              rw [hst.out] at h; exact h)
            have hA : Hid (WalAt w4 p sb mb pl s g B (.slice As n cs) (.slice none 0 0) (RS.log ⟨r, mx, true, x.st⟩ first count)) := Lib.hid (by
              have h := HW4.out
              unfold RS.log at h
              rw [← HRN.out, ← HMX.out] at h
              exact h)
            have hst4 : Hid (OB w4 B (.slice As n cs) x.st) := Lib.hid HW4.out.lg.st
            have hlen5 : Hid (x.st.length + (secPart l).length ≤ 140737488355328) := Lib.hid (by
              have h := hok2.out.num
              have h2 : (x.st ++ secPart l).length ≤ 2039808 := h
              rw [List.length_append] at h2; omega)
            have hub : Hid (((u : Int) == 498) = decide (u = 498)) := Lib.hid (by rw [Bool.eq_iff_iff]; simp; omega)
            have hB4 : B ≤ w4.heap.size := by have := HW4.out.lg.base; have := HW4.out.lg.lt; omega
            go_wp2_with (first
              | (at_builtin; refine wpList_app rfl (.tmp 62) (.tmp 63) rfl B _ x.st rfl hst4.out w4.heap.size _ (secPart l) rfl HR4.out hB4 hlen5.out ?_; intro v5 w5 o5 g5 m5; obtain ⟨A5, c5x, hv5, -, -, -, -⟩ := o5.rbn.open_; subst hv5; obtain ⟨n5, hn5⟩ : ∃ y, y = (x.st ++ secPart l).length := ⟨_, rfl⟩; rw [← hn5] at o5 m5 ⊢; clear hn5; have HFIN := Lib.hid (rs_final (mm := mm) (gB := decide (u = 498)) hA.out o5 g5 (m5.imp id (fun h => h.1)) hok2.out); have hnew5 : Hid (∀ j, (Value.slice A5 n5 c5x).ownBlock = some j → w.heap.size ≤ j) := Lib.hid (fun j hj => by have hz := HM.out.size; have hz4 := HB4.out.size; rcases m5 with h | h; (exact HNEW.out j (h.symm.trans hj)); (rw [h.1] at hj; injection hj with hj; omega)); have hmod5 : Hid (Mod (fun k => k = g) w w5) := Lib.hid ((HM.out.trans' (Mod.of_below HB4.out _)).trans (Mod.of_grown g5) (fun j hj e => by have := HNEW.out j e.symm; omega)); have HX5 := Lib.hid (HW4.out.lg.blk.grown g5 (fun e => HW4.out.lg.far1 e.symm)); have d5 : w5.cell? ⟨g, 5, none⟩ = some (.slice As n cs) := HX5.out.cell 5; have d4 : w5.cell? ⟨g, 4, none⟩ = some (.int .i64 (mx : Int)) := (HX5.out.cell 4).trans (by rw [HMX.out]; rfl); have f5' := HX5.out.frozen 5; have f4' := HX5.out.frozen 4; clear o5 g5 m5))
            go_roundw
            case rel => exact ⟨k + 1, _, by rw [hst.out]; exact congrArg Value.bool hub.out, by go_num, by omega, Lib.hid (fun _ => HL.out (by omega)), hnew5, Lib.hid (by rw [hst.out]; exact HFIN.out), Lib.hid ((hmod5.out.setCell (p := ⟨g, 5, none⟩) (fun _ => rfl) _).setCell (p := ⟨g, 4, none⟩) (fun _ => rfl) _)⟩
            case measure => simp [intOf]; omega
          · have hst : Hid (RS.upto s first (k + 1) = ⟨x.run, mm, false, x.st⟩) := Lib.hid (by
              have hg : (x.goes && decide (secRun l = x.run)) = false := by
                rw [← HGX.out, ← HRR.out, ← HRN.out]
                cases gx with
                | false => rfl
                | true => simp; exact fun e => hap ⟨rfl, e⟩
              show (RS.upto s first k).step (k == 0) (s.has (first + k)) = _
              rw [← HX.out, ← HLL.out, hkb.out]
              simp only [RS.step]
              rw [if_neg (by simp), hg, HMM.out, HMX.out, HRR.out]
              rfl)
            have hok2 : Hid ((RS.log ⟨x.run, mm, false, x.st⟩ first count).Ok) := Lib.hid (by
              have h := RS.log_ok s (first := first) (count := count) (k := k + 1) (by omega) ⟨by omega, by omega⟩ (by omega)
              rw [hst.out] at h; exact h)
            have hfin : Hid (WalAt (w4.setCell ⟨g, 4, none⟩ (.int .i64 (mm : Int))) p sb mb pl s g B (.slice As n cs) (.slice none 0 0) (RS.log ⟨x.run, mm, false, x.st⟩ first count)) := Lib.hid
              ⟨HW4.out.dk.setLog HW4.out 4 _, HW4.out.lg.put 4 _ _ hok2.out rfl rfl rfl, HW4.out.sep, HW4.out.pl⟩
            have hmod : Hid (Mod (fun k => k = g) w (w4.setCell ⟨g, 4, none⟩ (.int .i64 (mm : Int)))) := Lib.hid ((HM.out.trans' (Mod.of_below HB4.out _)).setCell (p := ⟨g, 4, none⟩) (fun _ => rfl) _)
            cases gx with
            | false =>
              go_wp2_with fail
              go_roundw
              case rel => exact ⟨k + 1, .slice As n cs, by rw [hst.out], by go_num, by omega, Lib.hid (fun _ => HL.out (by omega)), HNEW, Lib.hid (by rw [hst.out]; exact hfin.out), hmod⟩
              case measure => simp [intOf]; omega
            | true =>
              have hne : ¬ (r : Int) = (rn : Int) := fun e => hap ⟨rfl, by omega⟩
              go_wp2_with fail
              go_roundw
              case rel => exact ⟨k + 1, .slice As n cs, by rw [hst.out]; first | rfl | simp [hne], by go_num, by omega, Lib.hid (fun _ => HL.out (by omega)), HNEW, Lib.hid (by rw [hst.out]; exact hfin.out), hmod⟩
              case measure => simp [intOf]; omega)
    · obtain rfl : k = count := by omega
      go_wp2_with fail
      go_ret
      exact ⟨.inr ⟨HL.out (by omega), rfl, _, HW.out⟩, HM.out⟩

end Go.Proofs.YtbagmmncjmbboaaGreat
