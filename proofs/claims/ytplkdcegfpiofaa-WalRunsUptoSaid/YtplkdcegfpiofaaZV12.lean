/-
  What the log reads from its sectors, in plain words.
-/
import Derived.Test.YtplkdcegfpiofaaZV10
namespace Go.Proofs.Ytplkdcegfpiofaa
open Go.RowKit Go.Maps
set_option linter.unusedVariables false

/-- A sector's run and part: none where it is no log sector. -/
noncomputable def secRun (b : List Nat) : Nat := by classical exact if isLog b then runOf b else 0
noncomputable def secPart (b : List Nat) : List Nat := by classical exact if isLog b then partOf b else []
theorem secRun_yes {b : List Nat} (h : isLog b) : secRun b = runOf b := by unfold secRun; rw [if_pos h]
theorem secRun_no {b : List Nat} (h : ¬ isLog b) : secRun b = 0 := by unfold secRun; rw [if_neg h]
theorem secPart_yes {b : List Nat} (h : isLog b) : secPart b = partOf b := by unfold secPart; rw [if_pos h]
theorem secPart_no {b : List Nat} (h : ¬ isLog b) : secPart b = [] := by unfold secPart; rw [if_neg h]
theorem secRun_le (b : List Nat) : secRun b ≤ 274877906944 := by
  by_cases h : isLog b
  · rw [secRun_yes h]; exact h.2.1
  · rw [secRun_no h]; omega
theorem secPart_le (b : List Nat) : (secPart b).length ≤ 498 := by
  by_cases h : isLog b
  · rw [secPart_yes h]; unfold partOf; rw [List.length_take]; have := h.2.2.1; omega
  · rw [secPart_no h]; simp
/-- What is known behind some of the sectors. -/
structure RS where
  run : Nat
  most : Nat
  goes : Bool
  st : List Nat
noncomputable def RS.step (x : RS) (fresh : Bool) (b : List Nat) : RS :=
  let r := if fresh then secRun b else x.run
  let g := x.goes && decide (secRun b = r)
  ⟨r, max x.most (secRun b), g && decide ((secPart b).length = 498), if g then x.st ++ secPart b else x.st⟩
noncomputable def RS.upto (s : DS) (first : Nat) : Nat → RS
  | 0 => ⟨0, 0, true, []⟩
  | k + 1 => (RS.upto s first k).step (k == 0) (s.has (first + k))
set_option maxRecDepth 100000 in
theorem RS.upto_ok (s : DS) (first : Nat) : ∀ k, (RS.upto s first k).run ≤ (RS.upto s first k).most ∧ (RS.upto s first k).most ≤ 274877906944 ∧ (RS.upto s first k).st.length ≤ k * 498
  | 0 => by simp [RS.upto]
  | k + 1 => by
    obtain ⟨h1, h2, h3⟩ := RS.upto_ok s first k
    have h4 := secRun_le (s.has (first + k))
    have h5 := secPart_le (s.has (first + k))
    refine ⟨?_, ?_, ?_⟩
    · simp only [RS.upto, RS.step]; split <;> omega
    · simp only [RS.upto, RS.step]; omega
    · have h6 : ∀ c : Bool, (if c = true then (RS.upto s first k).st ++ secPart (s.has (first + k)) else (RS.upto s first k).st).length ≤ (k + 1) * 498 := by
        intro c
        cases c
        · rw [if_neg (by simp)]; omega
        · rw [if_pos rfl, List.length_append]; omega
      exact h6 _
/-- The log that has read so far. -/
noncomputable def RS.log (x : RS) (first count : Nat) : LG := ⟨first, count, x.run, x.most, x.st, [], 0, false, false⟩
set_option maxRecDepth 100000 in
theorem RS.log_ok (s : DS) {first count k : Nat} (hf : first ≤ 4096) (hc : 1 ≤ count ∧ count ≤ 4096) (hk : k ≤ count) : ((RS.upto s first k).log first count).Ok := by
  obtain ⟨h1, h2, h3⟩ := RS.upto_ok s first k
  refine ⟨hf, hc, ⟨h1, h2⟩, ?_, Nat.zero_le _, by simp [RS.log]⟩
  show (RS.upto s first k).st.length ≤ count * 498
  have : k * 498 ≤ count * 498 := Nat.mul_le_mul_right _ hk
  omega
end Go.Proofs.Ytplkdcegfpiofaa

/-
  The walk of the log's readStream.
-/
namespace Go.Proofs.Ytplkdcegfpiofaa
open Go.RowKit Go.Maps
set_option linter.unusedVariables false

theorem parse_uni (w : World) (b : Nat) (l : List Nat) (hs : Secs w b [l]) (ok : Bool) (hok : ok = true ↔ isLog l) :
    Calls Try.prog 122 #[.slice (some ⟨b, 0, none⟩) 512 512] w fun e w' => Below w.heap.size w w' ∧ ∃ A c, e = .returned (.tuple #[.int .i64 (secRun l : Int), .slice A (secPart l).length c, .bool ok]) ∧ RB w' w'.heap.size (.slice A (secPart l).length c) (secPart l) := by
  have hl := hs.ok l (by simp)
  refine (parse_any w b l (hs.rb hs.lt) hl.1 hs.lt).mono ?_
  rintro e w' ⟨hb, h | ⟨h, A, c, he, hr⟩⟩
  · have h0 : ok = false := by
      cases ok with
      | false => rfl
      | true => exact absurd (hok.1 rfl) h.1
    refine ⟨hb, none, 0, ?_, ?_⟩
    · rw [h.2, secRun_no h.1, secPart_no h.1, h0]; rfl
    · rw [secPart_no h.1]; exact RB.nil _ _
  · have h0 : ok = true := hok.2 h
    have hu : usedOf l = (partOf l).length := by unfold partOf; rw [List.length_take, List.length_drop, hl.1]; have := h.2.2.1; omega
    refine ⟨hb, A, c, ?_, ?_⟩
    · rw [he, secRun_yes h, secPart_yes h, h0, hu]
    · rw [secPart_yes h, ← hu]; exact hr
theorem RS.first_run (s : DS) (first : Nat) (h : isLog (s.has first)) : ∀ k, (RS.upto s first (k + 1)).run = runOf (s.has first)
  | 0 => by
    show secRun (s.has (first + 0)) = _
    exact secRun_yes h
  | k + 1 => by
    rw [← RS.first_run s first h k]
    rfl
end Go.Proofs.Ytplkdcegfpiofaa

/-
  The walk of the log's readStream: a disk that is on.
-/
namespace Go.Proofs.Ytplkdcegfpiofaa
open Go.RowKit Go.Maps
set_option linter.unusedVariables false

theorem rs_final {wA w5 : World} {p sb mb g B : Nat} {pl : Option Nat} {s : DS} {sv v5 : Value} {r mx mm first count : Nat} {gA gB : Bool} {st part : List Nat}
    (hA : WalAt wA p sb mb pl s g B sv (.slice none 0 0) (RS.log ⟨r, mx, gA, st⟩ first count)) (o5 : OB w5 B v5 (st ++ part)) (g5 : wA.grownBy w5 sv.ownBlock) (m5 : v5.ownBlock = sv.ownBlock ∨ v5.ownBlock = some wA.heap.size) (hok : (RS.log ⟨r, mm, gB, st ++ part⟩ first count).Ok) :
    WalAt ((w5.setCell ⟨g, 5, none⟩ v5).setCell ⟨g, 4, none⟩ (.int .i64 (mm : Int))) p sb mb pl s g B v5 (.slice none 0 0) (RS.log ⟨r, mm, gB, st ++ part⟩ first count) := by
  have hlt := hA.lg.lt
  have hf1 : v5.ownBlock ≠ some g := fun e => by
    rcases m5 with h | h
    · exact hA.lg.far1 (by rw [← h, e])
    · rw [h] at e; injection e with e; omega
  have hm0 : Mod (fun k => k = g ∨ sv.ownBlock = some k) wA w5 := (Mod.of_grown g5).mono (fun k _ e => .inr e.symm)
  have hm1 : Mod (fun k => k = g) w5 ((w5.setCell ⟨g, 5, none⟩ v5).setCell ⟨g, 4, none⟩ (.int .i64 (mm : Int))) := ((Mod.refl (fun k => k = g) w5).setCell (p := ⟨g, 5, none⟩) (fun _ => rfl) _).setCell (p := ⟨g, 4, none⟩) (fun _ => rfl) _
  have hmm := hm0.trans hm1 (fun k _ e => .inl e)
  have hB : ∀ k, k < B → ¬ (k = g ∨ sv.ownBlock = some k) := fun k hk e => by
    rcases e with e | e
    · have := hA.lg.base; omega
    · have := (hA.lg.own k (.inr (.inl e))).1; omega
  refine ⟨hA.dk.mod hmm (hB _ hA.sep.1) (hB _ hA.sep.2.1) (hB _ hA.sep.2.2) (fun b hb e => hA.pl b hb ?_), ⟨hok, ?_, ?_, OK.nil _ _, hf1, by simp [Value.ownBlock], ?_, hA.lg.base⟩, hA.sep, fun b hb hk => ?_⟩
  · rcases e with e | e
    · exact .inl e
    · exact .inr (.inl e)
  · exact ((hA.lg.blk.grown g5 (fun e => hA.lg.far1 e.symm)).set_ 5 v5).set_ 4 _
  · exact o5.mod hm1 (fun b hb e => hf1 (by rw [hb, e]))
  · cases h : v5.ownBlock with
    | none => exact .inl rfl
    | some k => exact .inr (by simp [Value.ownBlock])
  · have hbl := hA.dk.lt.2.2.2 b hb
    refine hA.pl b hb ?_
    rcases hk with hk | hk | hk
    · exact .inl hk
    · rcases m5 with h | h
      · exact .inr (.inl (by rw [← h]; exact hk))
      · rw [h] at hk; injection hk with hk; omega
    · cases hk
theorem rs_first {wA w5 : World} {p sb mb g B : Nat} {pl : Option Nat} {s : DS} {sv v5 : Value} {r mm first count : Nat} {gB : Bool} {part : List Nat}
    (hA : WalAt wA p sb mb pl s g B sv (.slice none 0 0) (RS.log ⟨0, 0, true, []⟩ first count)) (o5 : OB w5 B v5 part) (g5 : (wA.setCell ⟨g, 3, none⟩ (.int .i64 (r : Int))).grownBy w5 sv.ownBlock) (m5 : v5.ownBlock = sv.ownBlock ∨ v5.ownBlock = some wA.heap.size) (hok : (RS.log ⟨r, mm, gB, part⟩ first count).Ok) :
    WalAt ((w5.setCell ⟨g, 5, none⟩ v5).setCell ⟨g, 4, none⟩ (.int .i64 (mm : Int))) p sb mb pl s g B v5 (.slice none 0 0) (RS.log ⟨r, mm, gB, part⟩ first count) := by
  have hlt := hA.lg.lt
  have hf1 : v5.ownBlock ≠ some g := fun e => by
    rcases m5 with h | h
    · exact hA.lg.far1 (by rw [← h, e])
    · rw [h] at e; injection e with e; omega
  have hm0 : Mod (fun k => k = g ∨ sv.ownBlock = some k) wA w5 := ((Mod.refl (fun k => k = g ∨ sv.ownBlock = some k) wA).setCell (p := ⟨g, 3, none⟩) (fun _ => .inl rfl) _).trans (Mod.of_grown g5) (fun k _ e => .inr e.symm)
  have hm1 : Mod (fun k => k = g) w5 ((w5.setCell ⟨g, 5, none⟩ v5).setCell ⟨g, 4, none⟩ (.int .i64 (mm : Int))) := ((Mod.refl (fun k => k = g) w5).setCell (p := ⟨g, 5, none⟩) (fun _ => rfl) _).setCell (p := ⟨g, 4, none⟩) (fun _ => rfl) _
  have hmm := hm0.trans hm1 (fun k _ e => .inl e)
  have hB : ∀ k, k < B → ¬ (k = g ∨ sv.ownBlock = some k) := fun k hk e => by
    rcases e with e | e
    · have := hA.lg.base; omega
    · have := (hA.lg.own k (.inr (.inl e))).1; omega
  refine ⟨hA.dk.mod hmm (hB _ hA.sep.1) (hB _ hA.sep.2.1) (hB _ hA.sep.2.2) (fun b hb e => hA.pl b hb ?_), ⟨hok, ?_, ?_, OK.nil _ _, hf1, by simp [Value.ownBlock], ?_, hA.lg.base⟩, hA.sep, fun b hb hk => ?_⟩
  · rcases e with e | e
    · exact .inl e
    · exact .inr (.inl e)
  · exact (((hA.lg.blk.set_ 3 (.int .i64 (r : Int))).grown g5 (fun e => hA.lg.far1 e.symm)).set_ 5 v5).set_ 4 _
  · exact o5.mod hm1 (fun b hb e => hf1 (by rw [hb, e]))
  · cases h : v5.ownBlock with
    | none => exact .inl rfl
    | some k => exact .inr (by simp [Value.ownBlock])
  · have hbl := hA.dk.lt.2.2.2 b hb
    refine hA.pl b hb ?_
    rcases hk with hk | hk | hk
    · exact .inl hk
    · rcases m5 with h | h
      · exact .inr (.inl (by rw [← h]; exact hk))
      · rw [h] at hk; injection hk with hk; omega
    · cases hk
theorem off_log {w : World} {B B' p g : Nat} {v sv bv : Value} {l : List Nat} {m : LG} (hr : RB w B v l) (hb : LogAt w p g B' sv bv m) : Off (fun k => k = g) v l := by
  obtain ⟨h1, h2, A, c, rfl, h3, h4, h5⟩ := hr
  rcases h5 with h5 | ⟨b, off, rfl, hlt, hx⟩
  · exact .inl h5
  · cases l with
    | nil => exact .inl rfl
    | cons x t =>
      obtain ⟨As, cs, hsv⟩ := hb.stream
      obtain ⟨Ab, cb, hbv⟩ := hb.begins
      refine .inr fun k hk e => ?_
      dsimp only at e
      simp only [Value.ownBlock] at hk
      injection hk with hk
      have h := hx 0 x rfl
      rw [hk, e, hb.blk.cell, hsv, hbv] at h
      match off, h with
      | 0, h => simp at h
      | 1, h => simp at h
      | 2, h => simp at h
      | 3, h => simp at h
      | 4, h => simp at h
      | 5, h => simp at h
      | 6, h => simp at h
      | 7, h => simp at h
      | 8, h => simp at h
      | 9, h => simp at h
      | _ + 10, h => simp at h
set_option maxRecDepth 100000 in
set_option maxHeartbeats 2000000 in
theorem readStream_on (w : World) (p sb mb g B : Nat) (pl : Option Nat) (s : DS) (first count : Nat) (h : WalAt w p sb mb pl s g B (.slice none 0 0) (.slice none 0 0) ((RS.upto s first 0).log first count)) (hoff : s.off = false) (hlen : first + count ≤ s.safe.length) :
    Calls Try.prog 86 #[.pointer (some ⟨g, 0, none⟩)] w fun e w' => ((¬ isLog (s.has first) ∧ e = .returned (.int .i64 6)) ∨ (isLog (s.has first) ∧ e = .returned (.int .i64 0) ∧ ∃ sv', WalAt w' p sb mb pl s g B sv' (.slice none 0 0) ((RS.upto s first count).log first count))) ∧ Mod (fun k => k = g) w w' := by
  have H := Lib.hid h
  have HOFF := Lib.hid hoff
  have hnum : s.safe.length ≤ 4096 := h.dk.ok.num
  have HLEN := Lib.hid hlen
  have hc1 : 1 ≤ count := h.lg.ok.count.1
  have hcf : first + count ≤ 4096 := by omega
  have a2 : w.cell? ⟨g, 2, none⟩ = some (.int .i64 (count : Int)) := h.lg.blk.cell 2
  have hglt := h.lg.lt
  clear h hoff hlen hnum
  go_enter Try.func86, Try.ntmps86
  go_wp2_with fail
  clear a2
  go_loopw [3, 14] (fun go i wr => ∃ (k : Nat) (sv' : Value), go = .bool (RS.upto s first k).goes ∧ i = .int .i64 k ∧ k ≤ count ∧ Hid (0 < k → isLog (s.has first)) ∧ Hid (∀ j, sv'.ownBlock = some j → w.heap.size ≤ j) ∧ Hid (WalAt wr p sb mb pl s g B sv' (.slice none 0 0) ((RS.upto s first k).log first count)) ∧ Hid (Mod (fun k => k = g) w wr)) (fun go i wr => count - (intOf i).toNat)
  case atStart => exact ⟨0, .slice none 0 0, rfl, rfl, Nat.zero_le _, Lib.hid (fun h => absurd h (by omega)), Lib.hid (fun j h => by cases h), H, Lib.hid (Mod.refl _ _)⟩
  case round =>
    obtain ⟨k, sv', rfl, rfl, hk, HL, HNEW, HW, HM⟩ := hrel
    by_cases hkc : k < count
    · obtain ⟨x, hx⟩ : ∃ x, x = RS.upto s first k := ⟨_, rfl⟩
      obtain ⟨l, hl⟩ : ∃ l, l = s.has (first + k) := ⟨_, rfl⟩
      obtain ⟨ok, hok⟩ : ∃ ok : Bool, ok = true ↔ isLog l := by
        by_cases h : isLog l
        · exact ⟨true, fun _ => h, fun _ => rfl⟩
        · exact ⟨false, Iff.intro (fun e => Bool.noConfusion e) (fun e => absurd e h)⟩
      have HOK := Lib.hid hok
      have hki : (k : Int) < (count : Int) := by omega
      rw [← hx] at HW ⊢
      have HX := Lib.hid hx
      have HLL := Lib.hid hl
      have hfi : IntKind.i64.wrap ((first : Int) + (k : Int)) = (first : Int) + (k : Int) := by rw [IntKind.wrap_i64]; omega
      have hre : Hid (s.readE ((first : Int) + (k : Int)) = 0) := Lib.hid (by
        have := HLEN.out
        unfold DS.readE DS.isSec
        rw [if_neg (by rw [HOFF.out]; simp), if_neg (by simp; omega)])
      have hti : Hid (((first : Int) + (k : Int)).toNat = first + k) := Lib.hid (by omega)
      clear hx hl hok
      go_wp2_with fail
      have b0 : wr.cell? ⟨g, 0, none⟩ = some (.pointer (some ⟨p, 0, none⟩)) := HW.out.lg.blk.cell 0
      have b1 : wr.cell? ⟨g, 1, none⟩ = some (.int .i64 (first : Int)) := HW.out.lg.blk.cell 1
      have HW2 : Hid (WalAt wr.drew p sb mb pl s g B sv' (.slice none 0 0) (x.log first count)) := Lib.hid (HW.out.below (below_drewN (Below.refl _ _) 1))
      have HCASE : Hid (∀ (w3 : World) (v3 : Value), Below wr.drew.heap.size wr.drew w3 → ((s.readE ((first : Int) + (k : Int)) = 0 ∧ ∃ b, v3 = .slice (some ⟨b, 0, none⟩) 512 512 ∧ wr.drew.heap.size ≤ b ∧ Secs w3 b [s.has ((first : Int) + (k : Int)).toNat]) ∨ s.readE ((first : Int) + (k : Int)) ≠ 0 ∧ v3 = .slice none 0 0) → ∃ b, v3 = .slice (some ⟨b, 0, none⟩) 512 512 ∧ Secs w3 b [l] ∧ Below wr.heap.size wr w3) := Lib.hid (fun w3 v3 hb3 hcase => by
        rcases hcase with ⟨_, b, h1, h2, h3⟩ | ⟨h1, _⟩
        · exact ⟨b, h1, by rw [HLL.out, ← hti.out]; exact h3, (below_drewN (Below.refl _ _) 1).trans hb3⟩
        · exact absurd hre.out h1)
      go_region_law (first
        | (go_simp; go_at_call 43; refine (Read_any wr.drew p sb mb pl s HW2.out.dk ((first : Int) + (k : Int))).mono ?_; rintro e w3 ⟨v3, rfl, hb3, hcase⟩; rw [hre.out]; obtain ⟨b, rfl, hsec, hb33⟩ := HCASE.out w3 v3 hb3 hcase; have HB3 := Lib.hid hb33; have HSEC := Lib.hid hsec; clear hcase hb3 hsec hb33))
      all_goals (
        clear b0 b1
        go_wp2_with fail
        refine (parse_uni w3 b l HSEC.out ok HOK.out).mono ?_
        rintro e w4 ⟨hb4, A4, c4, rfl, hr4⟩
        have HR4 := Lib.hid hr4
        have HB4 : Hid (Below wr.heap.size wr w4) := Lib.hid (HB3.out.trans (hb4.mono HB3.out.size))
        have HW4 : Hid (WalAt w4 p sb mb pl s g B sv' (.slice none 0 0) (x.log first count)) := Lib.hid (HW.out.below HB4.out)
        clear hr4 hb4
        obtain ⟨As, cs, hsv⟩ := HW.out.lg.stream
        obtain ⟨n, hn⟩ : ∃ n, n = x.st.length := ⟨_, rfl⟩
        have hsv2 : sv' = .slice As n cs := by rw [hsv, hn]; rfl
        subst hsv2
        clear hsv
        have HNN := Lib.hid hn
        obtain ⟨u, hu⟩ : ∃ u, u = (secPart l).length := ⟨_, rfl⟩
        obtain ⟨r, hr⟩ : ∃ r, r = secRun l := ⟨_, rfl⟩
        rw [← hu] at HR4 ⊢
        rw [← hr]
        have HU := Lib.hid hu
        have HRR := Lib.hid hr
        obtain ⟨rn, hrn⟩ : ∃ rn, rn = x.run := ⟨_, rfl⟩
        obtain ⟨mx, hmx⟩ : ∃ mx, mx = x.most := ⟨_, rfl⟩
        obtain ⟨gx, hgx⟩ : ∃ gx, gx = x.goes := ⟨_, rfl⟩
        have c3 : w4.cell? ⟨g, 3, none⟩ = some (.int .i64 (rn : Int)) := by rw [hrn]; exact HW4.out.lg.blk.cell 3
        have c4' : w4.cell? ⟨g, 4, none⟩ = some (.int .i64 (mx : Int)) := by rw [hmx]; exact HW4.out.lg.blk.cell 4
        have c5 : w4.cell? ⟨g, 5, none⟩ = some (.slice As n cs) := HW4.out.lg.blk.cell 5
        have f3 := HW4.out.lg.blk.frozen 3
        have f4 := HW4.out.lg.blk.frozen 4
        have f5 := HW4.out.lg.blk.frozen 5
        have hmax : ∀ W ty, (Builtin.max_ #[2, 2] ty #[.int .i64 (mx : Int), .int .i64 (r : Int)]).run Try.prog W = .ok (.int .i64 ((max mx r : Nat) : Int)) W := by
          intro W ty
          simp [Builtin.max_, Builtin.max2, List.foldlM]
          omega
        obtain ⟨mm, hmm⟩ : ∃ mm, mm = max mx r := ⟨_, rfl⟩
        rw [← hmm] at hmax
        have HRN := Lib.hid hrn
        have HMX := Lib.hid hmx
        have HGX := Lib.hid hgx
        have HMM := Lib.hid hmm
        rw [← hgx]
        clear hn hu hr hrn hmx hgx hmm
        by_cases hk0 : k = 0
        · subst hk0
          have hx0 : x = ⟨0, 0, true, []⟩ := HX.out
          have hgx0 : gx = true := by rw [HGX.out, hx0]
          have hrn0 : rn = 0 := by rw [HRN.out, hx0]
          have hmx0 : mx = 0 := by rw [HMX.out, hx0]
          have hl0 : l = s.has first := HLL.out
          cases ok with
          | false =>
            have hno : Hid (¬ isLog (s.has first)) := Lib.hid (fun h => by have := HOK.out.2 (by rw [hl0]; exact h); cases this)
            clear hx0 hl0
            go_wp2_with fail
            go_ret
            exact ⟨.inl ⟨hno.out, rfl⟩, HM.out.trans' (Mod.of_below HB4.out _)⟩
          | true =>
            have hyes : Hid (isLog (s.has first)) := Lib.hid (by rw [← hl0]; exact HOK.out.1 rfl)
            have hst : Hid (RS.upto s first (0 + 1) = ⟨r, mm, decide (u = 498), secPart l⟩) := Lib.hid (by
              show (RS.upto s first 0).step (0 == 0) (s.has (first + 0)) = _
              rw [← HX.out, ← HLL.out, hx0]
              simp only [RS.step]
              rw [if_pos (by simp), ← HRR.out, HMM.out, hmx0, ← HU.out]
              simp)
            have hok2 : Hid ((RS.log ⟨r, mm, decide (u = 498), secPart l⟩ first count).Ok) := Lib.hid (by
              have h := RS.log_ok s (first := first) (count := count) (k := 0 + 1) (by omega) ⟨by omega, by omega⟩ (by omega)
              rw [hst.out] at h; exact h)
            have hA : Hid (WalAt w4 p sb mb pl s g B (.slice As n cs) (.slice none 0 0) (RS.log ⟨0, 0, true, []⟩ first count)) := Lib.hid (by rw [← hx0]; exact HW4.out)
            have hm3 : Hid (Mod (fun k => k = g) w4 (w4.setCell ⟨g, 3, none⟩ (.int .i64 (r : Int)))) := Lib.hid ((Mod.refl (fun k => k = g) w4).setCell (p := ⟨g, 3, none⟩) (fun _ => rfl) _)
            have hst4 : Hid (OB (w4.setCell ⟨g, 3, none⟩ (.int .i64 (r : Int))) B (.slice As n cs) []) := Lib.hid (hA.out.lg.st.mod hm3.out (fun b hb e => hA.out.lg.far1 (by rw [hb, e])))
            have hr3 : Hid (RB (w4.setCell ⟨g, 3, none⟩ (.int .i64 (r : Int))) w4.heap.size (.slice A4 u c4) (secPart l)) := Lib.hid (by
              have h := HR4.out.mod hm3.out (off_log HR4.out hA.out.lg)
              simpa using h)
            have hlen5 : Hid (([] : List Nat).length + (secPart l).length ≤ 140737488355328) := Lib.hid (by
              have h2 := secPart_le l
              simp; omega)
            have hub : Hid (((u : Int) == 498) = decide (u = 498)) := Lib.hid (by rw [Bool.eq_iff_iff]; simp; omega)
            have hB4 : B ≤ (w4.setCell ⟨g, 3, none⟩ (.int .i64 (r : Int))).heap.size := by have := HW4.out.lg.base; have := HW4.out.lg.lt; simp; omega
            subst hgx0
            have HMX0 := Lib.hid hmx0
            clear hx0 hl0 hmx0 hrn0
            go_wp2_with (first
              | (at_builtin; refine wpList_app rfl (.tmp 62) (.tmp 63) rfl B _ [] rfl hst4.out w4.heap.size _ (secPart l) rfl hr3.out hB4 hlen5.out ?_; intro v5 w5 o5 g5 m5; rw [List.nil_append] at o5; obtain ⟨A5, c5x, hv5, -, -, -, -⟩ := o5.rbn.open_; subst hv5; obtain ⟨n5, hn5⟩ : ∃ y, y = (secPart l).length := ⟨_, rfl⟩; rw [← hn5] at o5 m5 ⊢; clear hn5; have m5' : (Value.slice A5 n5 c5x).ownBlock = (Value.slice As n cs).ownBlock ∨ (Value.slice A5 n5 c5x).ownBlock = some w4.heap.size := (m5.imp id (fun h => by simpa using h.1)); have HFIN := Lib.hid (rs_first (mm := mm) (gB := decide (u = 498)) hA.out o5 g5 m5' hok2.out); have hnew5 : Hid (∀ j, (Value.slice A5 n5 c5x).ownBlock = some j → w.heap.size ≤ j) := Lib.hid (fun j hj => by have hz := HM.out.size; have hz4 := HB4.out.size; rcases m5' with h | h; (exact HNEW.out j (h.symm.trans hj)); (rw [h] at hj; injection hj with hj; omega)); have hmod5 : Hid (Mod (fun k => k = g) w w5) := Lib.hid (((HM.out.trans' (Mod.of_below HB4.out _)).trans' hm3.out).trans (Mod.of_grown g5) (fun j hj e => by have := HNEW.out j e.symm; omega)); have HX5 := Lib.hid ((hA.out.lg.blk.set_ 3 (.int .i64 (r : Int))).grown g5 (fun e => hA.out.lg.far1 e.symm)); have d5 : w5.cell? ⟨g, 5, none⟩ = some (.slice As n cs) := HX5.out.cell 5; have d4 : w5.cell? ⟨g, 4, none⟩ = some (.int .i64 (mx : Int)) := (HX5.out.cell 4).trans (by rw [HMX0.out]; rfl); have f5' := HX5.out.frozen 5; have f4' := HX5.out.frozen 4; clear o5 g5 m5 m5'))
            go_roundw
            case rel => exact ⟨0 + 1, _, by rw [hst.out]; exact congrArg Value.bool hub.out, by go_num, by omega, Lib.hid (fun _ => hyes.out), hnew5, Lib.hid (by rw [hst.out]; exact HFIN.out), Lib.hid ((hmod5.out.setCell (p := ⟨g, 5, none⟩) (fun _ => rfl) _).setCell (p := ⟨g, 4, none⟩) (fun _ => rfl) _)⟩
            case measure => simp [intOf]; omega
        · have hki0 : ¬ (k : Int) = 0 := by omega
          have hkb : Hid ((k == 0) = false) := Lib.hid (by simpa using hk0)
          by_cases hap : gx = true ∧ r = rn
          · obtain ⟨rfl, rfl⟩ := hap
            have hst : Hid (RS.upto s first (k + 1) = ⟨r, mm, decide (u = 498), x.st ++ secPart l⟩) := Lib.hid (by
              show (RS.upto s first k).step (k == 0) (s.has (first + k)) = _
              rw [← HX.out, ← HLL.out, hkb.out]
              simp only [RS.step]
              rw [if_neg (by simp), ← HGX.out, ← HRR.out, ← HRN.out, HMM.out, ← HMX.out, ← HU.out]
              simp)
            have hok2 : Hid ((RS.log ⟨r, mm, decide (u = 498), x.st ++ secPart l⟩ first count).Ok) := Lib.hid (by
              have h := RS.log_ok s (first := first) (count := count) (k := k + 1) (by omega) ⟨by omega, by omega⟩ (by omega)
              rw [hst.out] at h; exact h)
            have hA : Hid (WalAt w4 p sb mb pl s g B (.slice As n cs) (.slice none 0 0) (RS.log ⟨r, mx, true, x.st⟩ first count)) := Lib.hid (by
              have h := HW4.out
              unfold RS.log at h
              rw [← HRN.out, ← HMX.out] at h
              exact h)
            have hst4 : Hid (OB w4 B (.slice As n cs) x.st) := Lib.hid HW4.out.lg.st
            have hlen5 : Hid (x.st.length + (secPart l).length ≤ 140737488355328) := Lib.hid (by
              have h := hok2.out.num
              have h2 : (x.st ++ secPart l).length ≤ 2039808 := h
              rw [List.length_append] at h2; omega)
            have hub : Hid (((u : Int) == 498) = decide (u = 498)) := Lib.hid (by rw [Bool.eq_iff_iff]; simp; omega)
            have hB4 : B ≤ w4.heap.size := by have := HW4.out.lg.base; have := HW4.out.lg.lt; omega
            go_wp2_with (first
              | (at_builtin; refine wpList_app rfl (.tmp 62) (.tmp 63) rfl B _ x.st rfl hst4.out w4.heap.size _ (secPart l) rfl HR4.out hB4 hlen5.out ?_; intro v5 w5 o5 g5 m5; obtain ⟨A5, c5x, hv5, -, -, -, -⟩ := o5.rbn.open_; subst hv5; obtain ⟨n5, hn5⟩ : ∃ y, y = (x.st ++ secPart l).length := ⟨_, rfl⟩; rw [← hn5] at o5 m5 ⊢; clear hn5; have HFIN := Lib.hid (rs_final (mm := mm) (gB := decide (u = 498)) hA.out o5 g5 (m5.imp id (fun h => h.1)) hok2.out); have hnew5 : Hid (∀ j, (Value.slice A5 n5 c5x).ownBlock = some j → w.heap.size ≤ j) := Lib.hid (fun j hj => by have hz := HM.out.size; have hz4 := HB4.out.size; rcases m5 with h | h; (exact HNEW.out j (h.symm.trans hj)); (rw [h.1] at hj; injection hj with hj; omega)); have hmod5 : Hid (Mod (fun k => k = g) w w5) := Lib.hid ((HM.out.trans' (Mod.of_below HB4.out _)).trans (Mod.of_grown g5) (fun j hj e => by have := HNEW.out j e.symm; omega)); have HX5 := Lib.hid (HW4.out.lg.blk.grown g5 (fun e => HW4.out.lg.far1 e.symm)); have d5 : w5.cell? ⟨g, 5, none⟩ = some (.slice As n cs) := HX5.out.cell 5; have d4 : w5.cell? ⟨g, 4, none⟩ = some (.int .i64 (mx : Int)) := (HX5.out.cell 4).trans (by rw [HMX.out]; rfl); have f5' := HX5.out.frozen 5; have f4' := HX5.out.frozen 4; clear o5 g5 m5))
            go_roundw
            case rel => exact ⟨k + 1, _, by rw [hst.out]; exact congrArg Value.bool hub.out, by go_num, by omega, Lib.hid (fun _ => HL.out (by omega)), hnew5, Lib.hid (by rw [hst.out]; exact HFIN.out), Lib.hid ((hmod5.out.setCell (p := ⟨g, 5, none⟩) (fun _ => rfl) _).setCell (p := ⟨g, 4, none⟩) (fun _ => rfl) _)⟩
            case measure => simp [intOf]; omega
          · have hst : Hid (RS.upto s first (k + 1) = ⟨x.run, mm, false, x.st⟩) := Lib.hid (by
              have hg : (x.goes && decide (secRun l = x.run)) = false := by
                rw [← HGX.out, ← HRR.out, ← HRN.out]
                cases gx with
                | false => rfl
                | true => simp; exact fun e => hap ⟨rfl, e⟩
              show (RS.upto s first k).step (k == 0) (s.has (first + k)) = _
              rw [← HX.out, ← HLL.out, hkb.out]
              simp only [RS.step]
              rw [if_neg (by simp), hg, HMM.out, HMX.out, HRR.out]
              rfl)
            have hok2 : Hid ((RS.log ⟨x.run, mm, false, x.st⟩ first count).Ok) := Lib.hid (by
              have h := RS.log_ok s (first := first) (count := count) (k := k + 1) (by omega) ⟨by omega, by omega⟩ (by omega)
              rw [hst.out] at h; exact h)
            have hfin : Hid (WalAt (w4.setCell ⟨g, 4, none⟩ (.int .i64 (mm : Int))) p sb mb pl s g B (.slice As n cs) (.slice none 0 0) (RS.log ⟨x.run, mm, false, x.st⟩ first count)) := Lib.hid
              ⟨HW4.out.dk.setLog HW4.out 4 _, HW4.out.lg.put 4 _ _ hok2.out rfl rfl rfl, HW4.out.sep, HW4.out.pl⟩
            have hmod : Hid (Mod (fun k => k = g) w (w4.setCell ⟨g, 4, none⟩ (.int .i64 (mm : Int)))) := Lib.hid ((HM.out.trans' (Mod.of_below HB4.out _)).setCell (p := ⟨g, 4, none⟩) (fun _ => rfl) _)
            cases gx with
            | false =>
              go_wp2_with fail
              go_roundw
              case rel => exact ⟨k + 1, .slice As n cs, by rw [hst.out], by go_num, by omega, Lib.hid (fun _ => HL.out (by omega)), HNEW, Lib.hid (by rw [hst.out]; exact hfin.out), hmod⟩
              case measure => simp [intOf]; omega
            | true =>
              have hne : ¬ (r : Int) = (rn : Int) := fun e => hap ⟨rfl, by omega⟩
              go_wp2_with fail
              go_roundw
              case rel => exact ⟨k + 1, .slice As n cs, by rw [hst.out]; first | rfl | simp [hne], by go_num, by omega, Lib.hid (fun _ => HL.out (by omega)), HNEW, Lib.hid (by rw [hst.out]; exact hfin.out), hmod⟩
              case measure => simp [intOf]; omega)
    · obtain rfl : k = count := by omega
      go_wp2_with fail
      go_ret
      exact ⟨.inr ⟨HL.out (by omega), rfl, _, HW.out⟩, HM.out⟩
end Go.Proofs.Ytplkdcegfpiofaa
