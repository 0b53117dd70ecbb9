/-
  The walk of the log's Append.
-/
import Derived.Test.YtplkdcegfpiofaaZV8
import Derived.Test.YtplkdcegfpiofaaZE11
namespace Go.Proofs.Ytplkdcegfpiofaa
open Go.RowKit Go.Maps
set_option linter.unusedVariables false

theorem etN : ElemT 35 3 1 8 := elemT_of (z := .int .i64 0) Try.underlying35 (by kernel_rfl) (by kernel_rfl) (by decide) (by decide) (by decide)
/-- A record's bytes in the stream. -/
def recL (kind : Nat) (body : List Nat) : List Nat := kind :: (putL body.length ++ body)
/-- Append: the log behind it, the LSN and the error's number. -/
def LG.append (m : LG) (kind : Int) (body : List Nat) : LG × Nat × Int :=
  if m.dead = true then (m, 0, 91) else if m.fresh = false then (m, 0, 111) else if kind < 1 ∨ 255 < kind then (m, 0, 1)
  else if 1200 < body.length then (m, 0, 4) else if m.room < 1 + (putL body.length ++ body).length then (m, 0, 90)
  else ({ m with st := m.st ++ recL kind.toNat body, begs := m.begs ++ [m.st.length] }, m.lsn m.st.length, 0)
/-- What Append gives; what is the log's own behind it was its own, or is new. -/
def AppOwn (w : World) (p sb mb g B : Nat) (pl : Option Nat) (s : DS) (sv bv : Value) (r : LG × Nat × Int) (e : Ending) (w' : World) : Prop :=
  e = .returned (.tuple #[.int .i64 (r.2.1 : Int), .int .i64 r.2.2]) ∧ (∃ sv' bv', WalAt w' p sb mb pl s g B sv' bv' r.1 ∧ ∀ k, OwnL g sv' bv' k → OwnL g sv bv k ∨ w.heap.size ≤ k) ∧ Mod (OwnL g sv bv) w w'
/-- What Append gives. -/
def AppOut (w : World) (p sb mb g B : Nat) (pl : Option Nat) (s : DS) (sv bv : Value) (r : LG × Nat × Int) (e : Ending) (w' : World) : Prop :=
  e = .returned (.tuple #[.int .i64 (r.2.1 : Int), .int .i64 r.2.2]) ∧ (∃ sv' bv', WalAt w' p sb mb pl s g B sv' bv' r.1) ∧ Mod (OwnL g sv bv) w w'

set_option maxRecDepth 100000 in
theorem append_bad (w : World) (p sb mb g B : Nat) (pl : Option Nat) (s : DS) (sv bv : Value) (m : LG) (h : WalAt w p sb mb pl s g B sv bv m) (kind : Int) (v : Value) (l : List Nat) (hv : RB w w.heap.size v l) (hbad : m.dead = true ∨ m.fresh = false ∨ (kind < 1 ∨ 255 < kind) ∨ 1200 < l.length) :
    Calls Try.prog 26 #[.pointer (some ⟨g, 0, none⟩), .int .i64 kind, v] w (AppOwn w p sb mb g B pl s sv bv (m.append kind l)) := by
  have a9 := h.lg.blk.cell 9
  have a8 := h.lg.blk.cell 8
  have H := Lib.hid h
  obtain ⟨A, c, rfl, _, _, _, _⟩ := hv.open_
  clear h hv
  cases hd : m.dead with
  | true =>
    have e1 : Hid (m.append kind l = (m, 0, 91)) := Lib.hid (by unfold LG.append; rw [if_pos hd])
    rw [hd] at a9
    clear hd hbad
    go_enter Try.func26, Try.ntmps26
    go_wp2_with fail
    go_ret2
    rw [e1.out]
    exact ⟨rfl, ⟨_, _, H.out, fun k hk => .inl hk⟩, Mod.refl _ _⟩
  | false =>
    rw [hd] at a9
    cases hf : m.fresh with
    | false =>
      have e1 : Hid (m.append kind l = (m, 0, 111)) := Lib.hid (by unfold LG.append; rw [if_neg (by rw [hd]; simp), if_pos hf])
      rw [hf] at a8
      clear hd hf hbad
      go_enter Try.func26, Try.ntmps26
      go_wp2_with fail
      go_ret2
      rw [e1.out]
      exact ⟨rfl, ⟨_, _, H.out, fun k hk => .inl hk⟩, Mod.refl _ _⟩
    | true =>
      rw [hf] at a8
      by_cases hk : kind < 1
      · have e1 : Hid (m.append kind l = (m, 0, 1)) := Lib.hid (by unfold LG.append; rw [if_neg (by rw [hd]; simp), if_neg (by rw [hf]; simp), if_pos (.inl hk)])
        clear hd hf hbad
        go_enter Try.func26, Try.ntmps26
        go_wp2_with fail
        go_ret2
        rw [e1.out]
        exact ⟨rfl, ⟨_, _, H.out, fun k hk => .inl hk⟩, Mod.refl _ _⟩
      · by_cases hk2 : 255 < kind
        · have e1 : Hid (m.append kind l = (m, 0, 1)) := Lib.hid (by unfold LG.append; rw [if_neg (by rw [hd]; simp), if_neg (by rw [hf]; simp), if_pos (.inr hk2)])
          clear hd hf hbad
          go_enter Try.func26, Try.ntmps26
          go_wp2_with fail
          go_ret2
          rw [e1.out]
          exact ⟨rfl, ⟨_, _, H.out, fun k hk => .inl hk⟩, Mod.refl _ _⟩
        · have hl : 1200 < l.length := by
            rcases hbad with h | h | h | h
            · rw [hd] at h; cases h
            · rw [hf] at h; cases h
            · omega
            · exact h
          have e1 : Hid (m.append kind l = (m, 0, 4)) := Lib.hid (by unfold LG.append; rw [if_neg (by rw [hd]; simp), if_neg (by rw [hf]; simp), if_neg (by omega), if_pos hl])
          clear hd hf hbad
          go_enter Try.func26, Try.ntmps26
          go_wp2_with fail
          go_ret2
          rw [e1.out]
          exact ⟨rfl, ⟨_, _, H.out, fun k hk => .inl hk⟩, Mod.refl _ _⟩

theorem putL_1200 {n : Nat} (h : n ≤ 1200) : (putL n).length ≤ 10 := putL_ten _ (by omega)
set_option maxRecDepth 100000 in
theorem append_full (w : World) (p sb mb g B : Nat) (pl : Option Nat) (s : DS) (sv bv : Value) (m : LG) (h : WalAt w p sb mb pl s g B sv bv m) (kind : Int) (v : Value) (l : List Nat) (hv : RB w w.heap.size v l) (hd : m.dead = false) (hf : m.fresh = true) (hk : 1 ≤ kind ∧ kind ≤ 255) (hl : l.length ≤ 1200) (hroom : m.room < 1 + (putL l.length ++ l).length) :
    Calls Try.prog 26 #[.pointer (some ⟨g, 0, none⟩), .int .i64 kind, v] w (AppOwn w p sb mb g B pl s sv bv (m.append kind l)) := by
  have a9 := h.lg.blk.cell 9
  have a8 := h.lg.blk.cell 8
  have H := Lib.hid h
  have HV := Lib.hid hv
  obtain ⟨A, c, rfl, _, _, _, _⟩ := hv.open_
  have e1 : Hid (m.append kind l = (m, 0, 90)) := Lib.hid (by unfold LG.append; rw [if_neg (by rw [hd]; simp), if_neg (by rw [hf]; simp), if_neg (by omega), if_neg (by omega), if_pos hroom])
  rw [hd] at a9
  rw [hf] at a8
  obtain ⟨q, hq⟩ : ∃ q, q = (putL l.length ++ l).length := ⟨_, rfl⟩
  have hq2 : q ≤ 1210 := by rw [hq, List.length_append]; have := putL_1200 hl; omega
  obtain ⟨r, hr⟩ : ∃ r, r = m.room := ⟨_, rfl⟩
  have hri : (r : Int) < 1 + (q : Int) := by omega
  have HQ := Lib.hid hq
  have HR := Lib.hid hr
  clear h hv hd hf hq hr hroom
  go_enter Try.func26, Try.ntmps26
  go_wp2_with fail
  refine (putText_any _ l w HV.out (by omega)).mono ?_
  rintro e w1 ⟨v1, rfl, ho1, hb1⟩
  have HB1 := Lib.hid hb1
  obtain ⟨A1, c1, rfl, -, -, -, -⟩ := ho1.rbn.open_
  rw [← HQ.out]
  clear ho1 hb1
  go_wp2_with fail
  refine (logRoom_any w1 p g B sv bv m (H.out.lg.below HB1.out)).mono ?_
  rw [← HR.out]
  rintro e w2 ⟨rfl, n2, hw2⟩
  have HB2 : Hid (Below w.heap.size w w2) := Lib.hid (by rw [hw2]; exact below_drewN HB1.out n2)
  clear hw2
  go_wp2_with fail
  go_ret2
  rw [e1.out]
  exact ⟨rfl, ⟨_, _, H.out.below HB2.out, fun k hk => .inl hk⟩, Mod.of_below HB2.out _⟩

end Go.Proofs.Ytplkdcegfpiofaa

/-
  The log's Append, where it takes the record.
-/
namespace Go.Proofs.Ytplkdcegfpiofaa
open Go.RowKit Go.Maps
set_option linter.unusedVariables false

/-- The text lies in new memory. -/
theorem text_far {w w2 : World} {g : Nat} {sv bv u t : Value} {B : Nat} {l : List Nat} (h : OB w2 w.heap.size t l) (hown : ∀ k, OwnL g sv bv k → B ≤ k ∧ k < w.heap.size) (hu : ∀ k, u.ownBlock = some k → OwnL g sv bv k) : t.ownBlock = none ∨ t.ownBlock ≠ u.ownBlock := by
  cases ht : t.ownBlock with
  | none => exact .inl rfl
  | some k =>
    refine .inr fun e => ?_
    have h1 := (h.lt k ht).1
    have h2 := (hown k (hu k e.symm)).2
    omega
theorem begs_far {sv bv v3 : Value} {z : Nat} (h1 : sv.ownBlock = none ∨ sv.ownBlock ≠ bv.ownBlock) (h3 : ∀ k, v3.ownBlock = some k → bv.ownBlock = some k ∨ z ≤ k) (h : ∀ k, sv.ownBlock = some k → k < z) : v3.ownBlock = none ∨ v3.ownBlock ≠ sv.ownBlock := by
  cases hv : v3.ownBlock with
  | none => exact .inl rfl
  | some k =>
    refine .inr fun e => ?_
    rcases h3 k hv with h4 | h4
    · rcases h1 with h1 | h1
      · rw [h1] at e; cases e
      · exact h1 (e.symm.trans h4.symm)
    · have := h k e.symm; omega
theorem begs7 {sv v3 v7 : Value} {z : Nat} (h1 : v3.ownBlock = none ∨ v3.ownBlock ≠ sv.ownBlock) (h7 : ∀ k, v7.ownBlock = some k → sv.ownBlock = some k ∨ z ≤ k) (h : ∀ k, v3.ownBlock = some k → k < z) : v3.ownBlock = none ∨ v3.ownBlock ≠ v7.ownBlock := by
  cases hv : v3.ownBlock with
  | none => exact .inl rfl
  | some k =>
    refine .inr fun e => ?_
    rcases h7 k e.symm with h4 | h4
    · rcases h1 with h1 | h1
      · rw [hv] at h1; cases h1
      · exact h1 (hv.trans h4.symm)
    · have := h k hv; omega
set_option maxRecDepth 100000 in
set_option maxHeartbeats 1000000 in
theorem append_ok (w : World) (p sb mb g B : Nat) (pl : Option Nat) (s : DS) (sv bv : Value) (m : LG) (h : WalAt w p sb mb pl s g B sv bv m) (hcnt : m.count ≤ 1000) (kn : Nat) (v : Value) (l : List Nat) (hv : RB w w.heap.size v l) (hd : m.dead = false) (hf : m.fresh = true) (hk : 1 ≤ kn ∧ kn ≤ 255) (hl : l.length ≤ 1200) (hroom : ¬ m.room < 1 + (putL l.length ++ l).length) :
    Calls Try.prog 26 #[.pointer (some ⟨g, 0, none⟩),   .int .i64 (kn : Int), v] w (AppOwn w p sb mb g B pl s sv bv (m.append (kn : Int) l)) := by
  have a9 := h.lg.blk.cell 9
  have a8 := h.lg.blk.cell 8
  have H := Lib.hid h
  have HV := Lib.hid hv
  obtain ⟨A, c, rfl, _, _, _, _⟩ := hv.open_
  have e1 : Hid (m.append (kn : Int) l = ({ m with st := m.st ++ recL kn l, begs := m.begs ++ [m.st.length] }, m.lsn m.st.length, 0)) := Lib.hid (by unfold LG.append; rw [if_neg (by rw [hd]; simp), if_neg (by rw [hf]; simp), if_neg (by omega), if_neg (by omega), if_neg hroom]; rfl)
  have HD := Lib.hid hd
  have HF := Lib.hid hf
  rw [hd] at a9
  rw [hf] at a8
  obtain ⟨q, hq⟩ : ∃ q, q = (putL l.length ++ l).length := ⟨_, rfl⟩
  have hq2 : q ≤ 1210 := by rw [hq, List.length_append]; have := putL_1200 hl; omega
  obtain ⟨r, hr⟩ : ∃ r, r = m.room := ⟨_, rfl⟩
  have hri : ¬ (r : Int) < 1 + (q : Int) := by omega
  have hgb : Hid (g < w.heap.size) := Lib.hid h.lg.lt
  obtain ⟨As, cs, hsv⟩ := h.lg.stream
  obtain ⟨Ab, cb, hbv⟩ := h.lg.begins
  obtain ⟨n, hn⟩ : ∃ n, n = m.st.length := ⟨_, rfl⟩
  obtain ⟨nb, hnb⟩ : ∃ nb, nb = m.begs.length := ⟨_, rfl⟩
  have hn1 : n ≤ 498000 := by have := h.lg.ok.st; omega
  have hnb1 : nb ≤ 498000 := by have := h.lg.ok.begs.1; omega
  have a5 := h.lg.blk.cell 5
  have a6 := h.lg.blk.cell 6
  rw [hsv, ← hn] at a5
  rw [hbv, ← hnb] at a6
  have hroom2 : Hid (n + (1 + q) ≤ m.count * 498) := Lib.hid (by have := h.lg.ok.st; unfold LG.room at hr; omega)
  have hkc : IntKind.u8.wrap (kn : Int) = (kn : Int) := by rw [IntKind.wrap_u8]; omega
  have HQ := Lib.hid hq
  have HR := Lib.hid hr
  have HN := Lib.hid hn
  have HNB := Lib.hid hnb
  have HSV : Hid (sv = .slice As n cs) := Lib.hid (by rw [hsv, hn])
  have HBV : Hid (bv = .slice Ab nb cb) := Lib.hid (by rw [hbv, hnb])
  clear h hv hd hf hq hr hroom hn hnb hsv hbv
  go_enter Try.func26, Try.ntmps26
  go_wp2_with fail
  refine (putText_any _ l w HV.out (by omega)).mono ?_
  rintro e w1 ⟨v1, rfl, ho1, hb1⟩
  have HB1 := Lib.hid hb1
  have HO1 := Lib.hid ho1
  obtain ⟨A1, c1, hv1, -, -, -, -⟩ := ho1.rbn.open_
  subst hv1
  have HO1 : Hid (OB w1 w.heap.size (.slice A1 q c1) (putL l.length ++ l)) := Lib.hid (by have := ho1; rw [← HQ.out] at this; exact this)
  rw [← HQ.out]
  clear ho1 hb1
  go_wp2_with fail
  refine (logRoom_any w1 p g B sv bv m (H.out.lg.below HB1.out)).mono ?_
  rw [← HR.out]
  rintro e w2 ⟨rfl, n2, hw2⟩
  have HB2 : Hid (Below w.heap.size w w2) := Lib.hid (by rw [hw2]; exact below_drewN HB1.out n2)
  have HO2 : Hid (OB w2 w.heap.size (.slice A1 q c1) (putL l.length ++ l)) := Lib.hid (by rw [hw2]; exact HO1.out.below (below_drewN (Below.refl _ _) n2))
  have HL2 : Hid (LogAt w2 p g B sv bv m) := Lib.hid (H.out.lg.below HB2.out)
  have c5 : w2.cell? ⟨g, 5, none⟩ = some (.slice As n cs) := (HB2.out.cell (p := ⟨g, 5, none⟩) hgb.out).trans a5
  have c6 : w2.cell? ⟨g, 6, none⟩ = some (.slice Ab nb cb) := (HB2.out.cell (p := ⟨g, 6, none⟩) hgb.out).trans a6
  have hbg : Hid (OK encN 1 3 w2 B (.slice Ab nb cb) m.begs) := Lib.hid (by rw [← HBV.out]; exact HL2.out.begs)
  have hs2 : Hid (OB w2 B (.slice As n cs) m.st) := Lib.hid (by rw [← HSV.out]; exact HL2.out.st)
  have hB2 : B + 1 ≤ w2.heap.size := by have := HL2.out.lt; have := HL2.out.base; omega
  have hown : Hid (∀ k, OwnL g sv bv k → B ≤ k ∧ k < w.heap.size) := Lib.hid H.out.lg.own
  have hz2 : w.heap.size ≤ w2.heap.size := HB2.out.size
  clear hw2 a5 a6 a8 a9
  go_wp2_with (first
    | (at_builtin; refine wpList_appE etN encN_len encN_one (y := n) rfl (.tmp 45) (.tmp 47) rfl rfl (hbg.out.alloc _) w2.heap.size rfl (by intro j u hu; rw [(Blk.new w2 _ _).cell j]; simpa [encN] using hu) (by rw [← HNB.out]; omega) (by simp; omega) ?_; intro v3 w4 k1 k2 k3; obtain ⟨A3, c3, hv3, -, -, -, -⟩ := (k1.rk encN_len (Nat.le_refl _)).open_; subst hv3; obtain ⟨nb3, hnb3⟩ : ∃ x, x = (m.begs ++ [n]).length := ⟨_, rfl⟩; rw [← hnb3] at k1 k3 ⊢; have K1 := Lib.hid k1; have K2 := Lib.hid k2; have K3 := Lib.hid k3; have HX4 : Hid (Blk w4 g _ _) := Lib.hid ((HL2.out.blk.alloc _).grown k2 (by rw [← HBV.out]; exact fun e => HL2.out.far2 e.symm)); have hs4 : Hid (OB w4 B (.slice As n cs) m.st) := Lib.hid ((hs2.out.alloc _).kept k2 (by rw [← HSV.out, ← HBV.out]; exact HL2.out.far3)); have ht4 : Hid (OB w4 w.heap.size (.slice A1 q c1) (putL l.length ++ l)) := Lib.hid ((HO2.out.alloc _).kept k2 (by rw [← HBV.out]; exact text_far HO2.out hown.out (fun k hk => .inr (.inr hk)))); have d5 : w4.cell? ⟨g, 5, none⟩ = some (.slice As n cs) := (HX4.out.cell 5).trans (by rw [HSV.out]; rfl); have d6 : w4.cell? ⟨g, 6, none⟩ = some bv := HX4.out.cell 6; have f5 := HX4.out.frozen 5; have f6 := HX4.out.frozen 6; have k3z : Hid (∀ k, (Value.slice A3 nb3 c3).ownBlock = some k → bv.ownBlock = some k ∨ w.heap.size ≤ k) := Lib.hid (fun k hk => by rcases k3 with e | e; (rw [e, ← HBV.out] at hk; exact .inl hk); (rw [e] at hk; injection hk with hk; right; rw [← hk]; simp; omega)); have bfar : Hid ((Value.slice A3 nb3 c3).ownBlock = none ∨ (Value.slice A3 nb3 c3).ownBlock ≠ sv.ownBlock) := Lib.hid (begs_far HL2.out.far3 k3z.out (fun k hk => (hown.out k (.inr (.inl hk))).2)); have g3f : Hid ((Value.slice A3 nb3 c3).ownBlock ≠ some g) := Lib.hid (fun e => by rcases k3z.out g e with e | e; (exact HL2.out.far2 e); (have := hgb.out; omega)); have hm5 : Hid (Mod (fun k => k = g) w4 (w4.setCell ⟨g, 6, none⟩ (.slice A3 nb3 c3))) := Lib.hid ((Mod.refl (fun k => k = g) w4).setCell (p := ⟨g, 6, none⟩) (fun _ => rfl) _); have hs5 : Hid (OB (w4.setCell ⟨g, 6, none⟩ (.slice A3 nb3 c3)) B (.slice As n cs) m.st) := Lib.hid (hs4.out.mod hm5.out (fun b hb e => HL2.out.far1 (by rw [HSV.out, hb, e]))); have ht5 : Hid (OB (w4.setCell ⟨g, 6, none⟩ (.slice A3 nb3 c3)) w.heap.size (.slice A1 q c1) (putL l.length ++ l)) := Lib.hid (ht4.out.mod hm5.out (fun b hb e => by have := (HO2.out.lt b hb).1; have := hgb.out; omega)); have K5 : Hid (OK encN 1 3 (w4.setCell ⟨g, 6, none⟩ (.slice A3 nb3 c3)) B (.slice A3 nb3 c3) (m.begs ++ [n])) := Lib.hid (K1.out.mod hm5.out (fun b hb e => g3f.out (by rw [hb, e]))); have HX5 := Lib.hid (HX4.out.set_ 6 (.slice A3 nb3 c3)); have hz4 : w2.heap.size + 1 ≤ w4.heap.size := by { have := k2.size; simp at this; omega }; have hz5 : (w4.setCell ⟨g, 6, none⟩ (.slice A3 nb3 c3)).heap.size = w4.heap.size := (by simp); clear k1 k2 k3 hnb3)
    | (at_builtin; refine wpList_app rfl (.tmp 55) (.tmp 58) rfl B _ m.st rfl (hs5.out.alloc _) (w4.heap.size + 1) _ [kn] rfl (RB.newRow (w4.setCell ⟨g, 6, none⟩ (.slice A3 nb3 c3)) (w4.heap.size + 1) w4.heap.size #[.int .u8 (kn : Int)] 5 [kn] 1 hz5.symm rfl (fun x hx => by simp at hx; omega) (by rw [List.length_singleton]; omega) (by rw [List.length_singleton]; omega) (by omega) (Nat.lt_succ_self _) (0, 0)) (by rw [size_alloc_, hz5]; omega) (by rw [← HN.out, List.length_singleton]; omega) ?_; intro v7 w7 o7 g7 m7; obtain ⟨A7, c7, hv7, -, -, -, -⟩ := o7.rbn.open_; subst hv7; obtain ⟨n7, hn7⟩ : ∃ x, x = (m.st ++ [kn]).length := ⟨_, rfl⟩; rw [← hn7] at o7 m7 ⊢; have O7 := Lib.hid o7; have HN7 := Lib.hid hn7; have HX7 := Lib.hid ((HX5.out.alloc _).grown g7 (by rw [← HSV.out]; exact fun e => HL2.out.far1 e.symm)); have ht7 : Hid (OB w7 w.heap.size (.slice A1 q c1) (putL l.length ++ l)) := Lib.hid ((ht5.out.alloc _).kept g7 (by rw [← HSV.out]; exact text_far HO2.out hown.out (fun k hk => .inr (.inl hk)))); have K7 : Hid (OK encN 1 3 w7 B (.slice A3 nb3 c3) (m.begs ++ [n])) := Lib.hid ((K5.out.alloc _).kept g7 (by rw [← HSV.out]; exact bfar.out)); have G7 := Lib.hid g7; have M7 := Lib.hid m7; have hz7 : w4.heap.size + 1 ≤ w7.heap.size := (by have := g7.size; simp at this; omega); clear o7 g7 m7 hn7)
    | (at_builtin; go_must (refine wpList_app rfl (.tmp 59) (.tmp 60) rfl B _ _ rfl O7.out _ _ (putL l.length ++ l) rfl ht7.out.rbn (by omega) (by rw [← HN7.out, ← HQ.out]; have h7 := HN7.out; rw [List.length_append, List.length_singleton, ← HN.out] at h7; omega) ?_); intro v8 w8 o8 g8 m8; obtain ⟨A8, c8, hv8, -, -, -, -⟩ := o8.rbn.open_; subst hv8; obtain ⟨n8, hn8⟩ : ∃ x, x = (m.st ++ [kn] ++ (putL l.length ++ l)).length := ⟨_, rfl⟩; rw [← hn8] at o8 m8 ⊢; have O8 := Lib.hid o8; have HN8 := Lib.hid hn8; have M8 := Lib.hid m8; have G8 := Lib.hid g8; have v7o : Hid (∀ k, (Value.slice A7 n7 c7).ownBlock = some k → sv.ownBlock = some k ∨ w4.heap.size ≤ k) := Lib.hid (fun k hk => by rcases M7.out with e | ⟨e, _⟩; (rw [e, ← HSV.out] at hk; exact .inl hk); (rw [e] at hk; injection hk with hk; right; rw [← hk, size_alloc_, hz5]; omega)); have HX8 := Lib.hid (HX7.out.grown g8 (fun e => by have := hgb.out; rcases v7o.out g e.symm with e | e; (exact HL2.out.far1 e); omega)); have K8 : Hid (OK encN 1 3 w8 B (.slice A3 nb3 c3) (m.begs ++ [n])) := Lib.hid (K7.out.kept g8 (begs7 bfar.out v7o.out (fun k hk => (K1.out.lt k hk).2))); have e5 : w8.cell? ⟨g, 5, none⟩ = some (.slice As n cs) := (HX8.out.cell 5).trans (by rw [HSV.out]; rfl); have f5' := HX8.out.frozen 5; clear o8 g8 m8 hn8 d5 d6 f5 f6))
  have hm9 : Hid (Mod (fun k => k = g) w8 (w8.setCell ⟨g, 5, none⟩ (.slice A8 n8 c8))) := Lib.hid ((Mod.refl (fun k => k = g) w8).setCell (p := ⟨g, 5, none⟩) (fun _ => rfl) _)
  have hz8 : w7.heap.size ≤ w8.heap.size := G8.out.size
  have v8o : Hid (∀ k, (Value.slice A8 n8 c8).ownBlock = some k → sv.ownBlock = some k ∨ w4.heap.size ≤ k) := Lib.hid (fun k hk => by
    rcases M8.out with e | ⟨e, _⟩
    · exact v7o.out k (e.symm.trans hk)
    · rw [e] at hk; injection hk with hk; right; omega)
  have g8f : Hid ((Value.slice A8 n8 c8).ownBlock ≠ some g) := Lib.hid (fun e => by
    have := hgb.out
    rcases v8o.out g e with e | e
    · exact HL2.out.far1 e
    · omega)
  have e88 : Hid (m.st ++ [kn] ++ (putL l.length ++ l) = m.st ++ recL kn l) := Lib.hid (by unfold recL; rw [List.append_assoc]; rfl)
  have hlen8 : Hid ((m.st ++ recL kn l).length = n + (1 + q)) := Lib.hid (by unfold recL; rw [List.length_append, List.length_cons, ← HN.out, ← HQ.out]; omega)
  have HL9 : Hid (LogAt (w8.setCell ⟨g, 5, none⟩ (.slice A8 n8 c8)) p g B (.slice A8 n8 c8) (.slice A3 nb3 c3) { m with st := m.st ++ recL kn l, begs := m.begs ++ [m.st.length] }) := Lib.hid (by
    refine ⟨⟨H.out.lg.ok.first, H.out.lg.ok.count, H.out.lg.ok.run, ?_, ?_, ?_, ?_⟩, HX8.out.set_ 5 _, ?_, ?_, g8f.out, g3f.out, ?_, H.out.lg.base⟩
    · dsimp only; rw [hlen8.out]; exact hroom2.out
    · dsimp only; rw [hlen8.out]; have := H.out.lg.ok.safe; have := HN.out; omega
    · dsimp only; rw [hlen8.out, List.length_append, List.length_singleton]; have := H.out.lg.ok.begs.1; have := HN.out; omega
    · intro b hb
      dsimp only at hb ⊢
      rw [hlen8.out]
      rcases List.mem_append.1 hb with hb | hb
      · have := H.out.lg.ok.begs.2 b hb; have := HN.out; omega
      · simp at hb; have := HN.out; omega
    · dsimp only
      rw [← e88.out]
      exact O8.out.mod hm9.out (fun b hb e => g8f.out (by rw [hb, e]))
    · dsimp only
      rw [← HN.out]
      exact K8.out.mod hm9.out (fun b hb e => g3f.out (by rw [hb, e]))
    · have := begs7 bfar.out v8o.out (fun k hk => (K1.out.lt k hk).2)
      rcases this with e | e
      · cases h8 : (Value.slice A8 n8 c8).ownBlock with
        | none => exact .inl rfl
        | some k => rw [e]; exact .inr (by simp)
      · exact .inr (fun e2 => e e2.symm))
  have HMM : Hid (Mod (OwnL g sv bv) w (w8.setCell ⟨g, 5, none⟩ (.slice A8 n8 c8))) := Lib.hid (by
    have s1 : Mod (OwnL g sv bv) w (w2.alloc (.cells #[.int .i64 (n : Int)] 3)) := (Mod.of_below HB2.out _).alloc _
    have s2 : Mod (OwnL g sv bv) w w4 := s1.trans (Mod.of_grown K2.out) (fun k hk e => .inr (.inr (by rw [HBV.out]; exact e.symm)))
    have s3 := (s2.trans hm5.out (fun k hk e => .inl e)).alloc (.cells #[.int .u8 (kn : Int)] 5)
    have s4 : Mod (OwnL g sv bv) w w7 := s3.trans (Mod.of_grown G7.out) (fun k hk e => .inr (.inl (by rw [HSV.out]; exact e.symm)))
    have s5 : Mod (OwnL g sv bv) w w8 := s4.trans (Mod.of_grown G8.out) (fun k hk e => by
      rcases v7o.out k e.symm with e2 | e2
      · exact .inr (.inl e2)
      · omega)
    exact s5.trans hm9.out (fun k hk e => .inl e))
  have HW9 : Hid (WalAt (w8.setCell ⟨g, 5, none⟩ (.slice A8 n8 c8)) p sb mb pl s g B (.slice A8 n8 c8) (.slice A3 nb3 c3) { m with st := m.st ++ recL kn l, begs := m.begs ++ [m.st.length] }) := Lib.hid (by
    have hB : ∀ k, k < B → ¬ OwnL g sv bv k := fun k hk e => by have := (hown.out k e).1; omega
    refine ⟨H.out.dk.mod HMM.out (hB _ H.out.sep.1) (hB _ H.out.sep.2.1) (hB _ H.out.sep.2.2) H.out.pl, HL9.out, H.out.sep, fun b hb hk => ?_⟩
    have hlt := H.out.dk.lt.2.2.2 b hb
    refine H.out.pl b hb ?_
    rcases hk with hk | hk | hk
    · exact .inl hk
    · rcases v8o.out b hk with e | e
      · exact .inr (.inl e)
      · omega
    · rcases k3z.out b hk with e | e
      · exact .inr (.inr e)
      · omega)
  have HOWN : Hid (∀ k, OwnL g (.slice A8 n8 c8) (.slice A3 nb3 c3) k → OwnL g sv bv k ∨ w.heap.size ≤ k) := Lib.hid (fun k hk => by
    rcases hk with hk | hk | hk
    · exact .inl (.inl hk)
    · rcases v8o.out k hk with e | e
      · exact .inl (.inr (.inl e))
      · right; omega
    · rcases k3z.out k hk with e | e
      · exact .inl (.inr (.inr e))
      · exact .inr e)
  refine (lsn_any _ p g B _ _ _ HL9.out n (by omega)).mono ?_
  rintro e w9 ⟨rfl, h9⟩
  subst w9
  go_wp2_with fail
  go_ret2
  rw [e1.out]
  exact ⟨by rw [← HN.out]; rfl, ⟨_, _, HW9.out, HOWN.out⟩, HMM.out⟩

theorem Append_own (w : World) (p sb mb g B : Nat) (pl : Option Nat) (s : DS) (sv bv : Value) (m : LG) (h : WalAt w p sb mb pl s g B sv bv m) (hcnt : m.count ≤ 1000) (kind : Int) (v : Value) (l : List Nat) (hv : RB w w.heap.size v l) :
    Calls Try.prog 26 #[.pointer (some ⟨g, 0, none⟩), .int .i64 kind, v] w (AppOwn w p sb mb g B pl s sv bv (m.append kind l)) := by
  by_cases hbad : m.dead = true ∨ m.fresh = false ∨ (kind < 1 ∨ 255 < kind) ∨ 1200 < l.length
  · exact append_bad w p sb mb g B pl s sv bv m h kind v l hv hbad
  · have hd : m.dead = false := by
      cases hd : m.dead with
      | false => rfl
      | true => exact absurd (.inl hd) hbad
    have hf : m.fresh = true := by
      cases hf : m.fresh with
      | true => rfl
      | false => exact absurd (.inr (.inl hf)) hbad
    have hk : 1 ≤ kind ∧ kind ≤ 255 := by
      by_cases hk : kind < 1 ∨ 255 < kind
      · exact absurd (.inr (.inr (.inl hk))) hbad
      · omega
    have hl : l.length ≤ 1200 := by
      by_cases hl : 1200 < l.length
      · exact absurd (.inr (.inr (.inr hl))) hbad
      · omega
    by_cases hr : m.room < 1 + (putL l.length ++ l).length
    · exact append_full w p sb mb g B pl s sv bv m h kind v l hv hd hf hk hl hr
    · obtain ⟨kn, rfl⟩ : ∃ kn : Nat, kind = (kn : Int) := ⟨kind.toNat, by omega⟩
      exact append_ok w p sb mb g B pl s sv bv m h hcnt kn v l hv hd hf (by omega) hl hr
theorem Append_any (w : World) (p sb mb g B : Nat) (pl : Option Nat) (s : DS) (sv bv : Value) (m : LG) (h : WalAt w p sb mb pl s g B sv bv m) (hcnt : m.count ≤ 1000) (kind : Int) (v : Value) (l : List Nat) (hv : RB w w.heap.size v l) :
    Calls Try.prog 26 #[.pointer (some ⟨g, 0, none⟩), .int .i64 kind, v] w (AppOut w p sb mb g B pl s sv bv (m.append kind l)) :=
  (Append_own w p sb mb g B pl s sv bv m h hcnt kind v l hv).mono fun e w' ⟨h1, ⟨sv', bv', h2, _⟩, h3⟩ => ⟨h1, ⟨sv', bv', h2⟩, h3⟩
end Go.Proofs.Ytplkdcegfpiofaa
