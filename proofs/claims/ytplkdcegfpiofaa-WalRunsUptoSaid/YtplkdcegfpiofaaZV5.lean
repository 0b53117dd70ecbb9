/-
  The log's small functions on the disk: areThere, save, Format.
-/
import Derived.Test.YtplkdcegfpiofaaZV4
import Derived.Test.YtplkdcegfpiofaaZE10
import Derived.Test.YtplkdcegfpiofaaZF1
import Derived.Test.YtplkdcegfpiofaaZN1
namespace Go.Proofs.Ytplkdcegfpiofaa
open Go.RowKit Go.Maps
set_option linter.unusedVariables false

def thereB (n : Nat) (first count : Int) : Bool := decide (0 ≤ first) && (decide (1 ≤ count) && decide (count ≤ n - first))

theorem areThere_any (w : World) (p sb mb : Nat) (pl : Option Nat) (s : DS) (first count : Int) (h : DiskAt w p sb mb pl s) (hi : I64 first) :
    Calls Try.prog 85 #[.pointer (some ⟨p, 0, none⟩), .int .i64 first, .int .i64 count] w fun e w' => e = .returned (.bool (thereB s.safe.length first count)) ∧ w = w' := by
  have hn := h.ok.num
  have H := Lib.hid h
  obtain ⟨hi1, hi2⟩ := hi
  clear h
  by_cases h0 : 0 ≤ first
  · have hw : IntKind.i64.wrap ((s.safe.length : Int) - first) = (s.safe.length : Int) - first := by rw [IntKind.wrap_i64]; omega
    by_cases h1 : 1 ≤ count
    · go_enter Try.func85, Try.ntmps85
      go_wp2_with fail
      refine (Size_any w p sb mb pl s H.out).mono ?_
      rintro e w1 ⟨rfl, rfl⟩
      go_wp2_with fail
      go_ret
      refine ⟨?_, rfl⟩
      unfold thereB
      simp [h0, h1]
    · have hE : Hid (thereB s.safe.length first count = false) := Lib.hid (by unfold thereB; simp [h1])
      go_enter Try.func85, Try.ntmps85
      go_wp2_with fail
      go_ret
      exact ⟨by rw [hE.out]; rfl, rfl⟩
  · have hE : Hid (thereB s.safe.length first count = false) := Lib.hid (by unfold thereB; simp [h0])
    go_enter Try.func85, Try.ntmps85
    go_wp2_with fail
    go_ret
    exact ⟨by rw [hE.out]; rfl, rfl⟩

/-- The i-th sector of a stream. -/
def sect (run : Nat) (st : List Nat) (i : Nat) : List Nat := secL run ((st.drop (i * 498)).take 498)
/-- save from the i-th sector on, n sectors at most: the disk behind it, and what it answers. -/
def DS.save (run : Nat) (first : Int) (st : List Nat) : Nat → Nat → DS → DS × Int
  | 0, _, s => (s, 0)
  | n + 1, i, s =>
    if s.writeE (first + i) (sect run st i) = 0 then
      if st.length ≤ (i + 1) * 498 then ((s.write (first + i) (sect run st i)).sync, (s.write (first + i) (sect run st i)).syncE)
      else DS.save run first st n (i + 1) (s.write (first + i) (sect run st i))
    else (s.write (first + i) (sect run st i), s.writeE (first + i) (sect run st i))
theorem save_fail {run n i : Nat} {first : Int} {st : List Nat} {s : DS} (h : ¬ s.writeE (first + i) (sect run st i) = 0) : DS.save run first st (n + 1) i s = (s.write (first + i) (sect run st i), s.writeE (first + i) (sect run st i)) := by
  simp only [DS.save]; rw [if_neg h]
theorem save_last {run n i : Nat} {first : Int} {st : List Nat} {s : DS} (h : s.writeE (first + i) (sect run st i) = 0) (h2 : st.length ≤ (i + 1) * 498) : DS.save run first st (n + 1) i s = ((s.write (first + i) (sect run st i)).sync, (s.write (first + i) (sect run st i)).syncE) := by
  simp only [DS.save]; rw [if_pos h, if_pos h2]
theorem save_next {run n i : Nat} {first : Int} {st : List Nat} {s : DS} (h : s.writeE (first + i) (sect run st i) = 0) (h2 : ¬ st.length ≤ (i + 1) * 498) : DS.save run first st (n + 1) i s = DS.save run first st n (i + 1) (s.write (first + i) (sect run st i)) := by
  simp only [DS.save]; rw [if_pos h, if_neg h2]
theorem write_steps5 (s : DS) (i : Int) (l : List Nat) : (s.write i l).steps ≤ s.steps + 1 := by
  unfold DS.write DS.step DS.tick DS.put
  repeat' split
  all_goals simp
theorem take_piece (st : List Nat) (k e : Nat) (h : e = min ((k + 1) * 498) st.length) : (st.drop (k * 498)).take (e - k * 498) = (st.drop (k * 498)).take 498 := by
  subst h
  by_cases h1 : (k + 1) * 498 ≤ st.length
  · rw [Nat.min_eq_left h1, show (k + 1) * 498 - k * 498 = 498 by omega]
  · rw [Nat.min_eq_right (by omega), List.take_of_length_le (by rw [List.length_drop]; omega), List.take_of_length_le (by rw [List.length_drop]; omega)]
theorem off_new {w : World} {B p : Nat} {v : Value} {l : List Nat} (h : OB w B v l) (hp : p < B) : Off (fun k => k = p) v l := .inr fun b hb e => by
  have := (h.lt b hb).1
  dsimp only at e
  omega
end Go.Proofs.Ytplkdcegfpiofaa

/-
  The walk of wal's save.
-/
namespace Go.Proofs.Ytplkdcegfpiofaa
open Go.RowKit Go.Maps
set_option linter.unusedVariables false

set_option maxRecDepth 100000 in
set_option maxHeartbeats 1000000 in
theorem save_some (w : World) (p sb mb b o n0 c : Nat) (pl : Option Nat) (s : DS) (first : Int) (run : Nat) (st : List Nat) (n at0 : Nat) (h : DiskAt w p sb mb pl s) (hst : s.steps < 1000000000000000) (hv : RB w w.heap.size (.slice (some ⟨b, o, none⟩) n0 c) st) (hvo : Off (Own p sb mb) (.slice (some ⟨b, o, none⟩) n0 c) st)
    (hn0 : n0 = st.length) (hb : ¬ Own p sb mb b) (hf : 0 ≤ first ∧ first ≤ 1000000) (hr : run < 9223372036854775808) (hlen : st.length ≤ 4000000) (h1 : at0 * 498 < st.length) (h2 : st.length ≤ (at0 + n) * 498) (hn : n ≤ 4000000) :
    Calls Try.prog 84 #[.pointer (some ⟨p, 0, none⟩), .int .i64 first, .int .i64 (run : Int), .slice (some ⟨b, o, none⟩) n0 c, .int .i64 (at0 : Int)] w fun e w' => e = .returned (.int .i64 (DS.save run first st n at0 s).2) ∧ DiskAt w' p sb mb pl (DS.save run first st n at0 s).1 ∧ Mod (Own p sb mb) w w' := by
  have HV := Lib.hid hv
  have HVO := Lib.hid hvo
  have H := Lib.hid h
  have HST := Lib.hid hst
  have HBO := Lib.hid hb
  have hplt := h.lt
  obtain ⟨hv1, hv2, hv3⟩ : st.length ≤ c ∧ c ≤ 9223372036854775807 ∧ True := by
    obtain ⟨_, _, A, c0, e, h3, h4, _⟩ := hv
    injection e with e1 e2 e3
    subst e3
    exact ⟨h3, h4, trivial⟩
  obtain ⟨T, hT⟩ : ∃ T, T = DS.save run first st n at0 s := ⟨_, rfl⟩
  have HT := Lib.hid hT
  obtain ⟨q, hq⟩ : ∃ q, q = st.length := ⟨_, rfl⟩
  rw [← hT]
  rw [← hq] at hn0 h1 h2 hlen hv1
  subst hn0
  have HQ := Lib.hid hq
  clear hv hvo h hst hb hT hq
  go_enter Try.func84, Try.ntmps84
  go_wp2_with fail
  go_loopw [11] (fun i wr => ∃ (k : Nat) (s' : DS), i = .int .i64 k ∧ at0 ≤ k ∧ k < at0 + n ∧ k * 498 < n0 ∧ Hid (DiskAt wr p sb mb pl s') ∧ Hid (s'.steps ≤ s.steps + (k - at0)) ∧ Hid (DS.save run first st (at0 + n - k) k s' = T) ∧ Hid (Mod (Own p sb mb) w wr)) (fun i wr => at0 + n - (intOf i).toNat)
  case atStart => exact ⟨at0, s, rfl, Nat.le_refl _, by omega, h1, H, Lib.hid (by omega), Lib.hid (by rw [show at0 + n - at0 = n by omega]; exact HT.out.symm), Lib.hid (Mod.refl _ _)⟩
  case round =>
    obtain ⟨k, s', rfl, hk1, hk2, hk3, HD, HS, HE, HM⟩ := hrel
    obtain ⟨e, he⟩ : ∃ e, e = min ((k + 1) * 498) n0 := ⟨_, rfl⟩
    have hmin : ∀ W ty, (Builtin.min_ #[3, 3] ty #[.int .i64 (((k : Int) + 1) * 498), .int .i64 (n0 : Int)]).run Try.prog W = .ok (.int .i64 (e : Int)) W := by
      intro W ty
      simp [Builtin.min_, Builtin.min2, List.foldlM]
      split <;> omega
    have he1 : k * 498 ≤ e := by omega
    have he2 : e ≤ n0 := by omega
    have he3 : e - k * 498 ≤ 498 := by omega
    have HEQ := Lib.hid he
    clear he
    have hRV : Hid (RB wr wr.heap.size (.slice (some ⟨b, o, none⟩) n0 c) st) := Lib.hid (HV.out.mod HM.out HVO.out)
    have hpart : Hid (RB wr wr.heap.size (.slice (some ⟨b, o + k * 498, none⟩) (e - k * 498) (c - k * 498)) ((st.drop (k * 498)).take 498)) := Lib.hid (by
      have h := hRV.out.sub (lo := k * 498) (m := e - k * 498) (c' := c - k * 498) (by rw [← HQ.out]; omega) (by omega) (by omega)
      rw [take_piece st k e (by rw [HEQ.out, HQ.out])] at h
      exact h)
    have hpl : Hid (((st.drop (k * 498)).take 498).length ≤ 498) := Lib.hid (by rw [List.length_take]; omega)
    have hfi : IntKind.i64.wrap (first + (k : Int)) = first + (k : Int) := by rw [IntKind.wrap_i64]; omega
    have hwz := HM.out.size
    go_wp2_with fail
    refine (sectorOf_any wr run _ _ hr hpart.out hpl.out).mono ?_
    rintro e1 w1 ⟨v1, rfl, ho1, hb1⟩
    have HD1 : Hid (DiskAt w1 p sb mb pl s') := Lib.hid (HD.out.below hb1)
    have HO1 := Lib.hid ho1
    have HB1 := Lib.hid hb1
    have hoff : Hid (Off (fun k => k = p) v1 (sect run st k)) := Lib.hid (off_new ho1 (by omega))
    obtain ⟨A1, c1, rfl, -, -, -, -⟩ := ho1.rbn.open_
    clear ho1 hb1
    go_wp2_with fail
    refine (Write_any w1 p sb mb pl s' (first + k) _ (sect run st k) HD1.out (by have := HS.out; have := HST.out; omega) HO1.out.rbn hoff.out).mono ?_
    rintro e2 w2 ⟨rfl, hd2, hm2⟩
    have HD2 := Lib.hid hd2
    have HM2 : Hid (Mod (Own p sb mb) w w2) := Lib.hid ((HM.out.trans' (Mod.of_below HB1.out (Own p sb mb))).trans' hm2)
    have HS2 : Hid ((s'.write (first + k) (sect run st k)).steps ≤ s.steps + (k - at0) + 1) := Lib.hid (by have := write_steps5 s' (first + k) (sect run st k); have := HS.out; omega)
    clear hd2 hm2
    obtain ⟨m, hm⟩ : ∃ m, at0 + n - k = m + 1 := ⟨at0 + n - k - 1, by omega⟩
    by_cases hwE : s'.writeE (first + k) (sect run st k) = 0
    · by_cases hend : n0 ≤ (k + 1) * 498
      · have heq : e = n0 := by have := HEQ.out; omega
        have HT2 : Hid (((s'.write (first + k) (sect run st k)).sync, (s'.write (first + k) (sect run st k)).syncE) = T) := Lib.hid (by rw [← HE.out, hm, save_last hwE (by rw [← HQ.out]; exact hend)])
        subst heq
        go_wp2_with fail
        refine (Sync_any w2 p sb mb pl _ HD2.out (by have := HS2.out; have := HST.out; omega)).mono ?_
        rintro e3 w3 ⟨rfl, hd3, hm3⟩
        have HD3 := Lib.hid hd3
        have HM3 := Lib.hid (HM2.out.trans' hm3)
        clear hd3 hm3
        go_wp2_with fail
        go_ret
        exact ⟨by rw [← HT2.out]; rfl, by rw [← HT2.out]; exact HD3.out, HM3.out⟩
      · have hne : ¬ e = n0 := by have := HEQ.out; omega
        have hnei : ¬ (e : Int) = (n0 : Int) := by omega
        have HT2 : Hid (DS.save run first st m (k + 1) (s'.write (first + k) (sect run st k)) = T) := Lib.hid (by rw [← HE.out, hm, save_next hwE (by rw [← HQ.out]; exact hend)])
        go_wp2_with fail
        go_roundw
        case rel => exact ⟨k + 1, _, by go_num, by omega, by omega, by omega, HD2, Lib.hid (by have := HS2.out; omega), Lib.hid (by rw [show at0 + n - (k + 1) = m by omega]; exact HT2.out), HM2⟩
        case measure => simp [intOf]; omega
    · have HT2 : Hid ((s'.write (first + k) (sect run st k), s'.writeE (first + k) (sect run st k)) = T) := Lib.hid (by rw [← HE.out, hm, save_fail hwE])
      go_wp2_with fail
      go_ret
      exact ⟨by rw [← HT2.out]; rfl, by rw [← HT2.out]; exact HD2.out, HM2.out⟩

set_option maxRecDepth 100000 in
set_option maxHeartbeats 1000000 in
theorem save_nil (w : World) (p sb mb : Nat) (pl : Option Nat) (s : DS) (first : Int) (run : Nat) (h : DiskAt w p sb mb pl s) (hst : s.steps < 1000000000000000) (hf : 0 ≤ first ∧ first ≤ 1000000) (hr : run < 9223372036854775808) :
    Calls Try.prog 84 #[.pointer (some ⟨p, 0, none⟩), .int .i64 first, .int .i64 (run : Int), .slice none 0 0, .int .i64 0] w fun e w' => e = .returned (.int .i64 (DS.save run first [] 1 0 s).2) ∧ DiskAt w' p sb mb pl (DS.save run first [] 1 0 s).1 ∧ Mod (Own p sb mb) w w' := by
  have H := Lib.hid h
  have HST := Lib.hid hst
  have hplt := h.lt
  obtain ⟨T, hT⟩ : ∃ T, T = DS.save run first [] 1 0 s := ⟨_, rfl⟩
  have HT := Lib.hid hT
  rw [← hT]
  clear h hst hT
  have hmin : ∀ W ty, (Builtin.min_ #[3, 3] ty #[.int .i64 498, .int .i64 0]).run Try.prog W = .ok (.int .i64 0) W := by
    intro W ty
    simp [Builtin.min_, Builtin.min2, List.foldlM]
  have hpart : Hid (RB w w.heap.size (.slice none 0 0) []) := Lib.hid (RB.nil _ _)
  have hfi : IntKind.i64.wrap (first + ((0 : Nat) : Int)) = first + ((0 : Nat) : Int) := by rw [IntKind.wrap_i64]; omega
  have hfi2 : IntKind.i64.wrap first = first := by rw [IntKind.wrap_i64]; omega
  have hse : Hid (secL run [] = sect run [] 0) := Lib.hid (by unfold sect; rfl)
  go_enter Try.func84, Try.ntmps84
  go_wp2_with fail
  go_loopw [11] (fun i wr => i = .int .i64 0 ∧ wr = w) (fun i wr => 0)
  case atStart => exact ⟨rfl, rfl⟩
  case round =>
    obtain ⟨rfl, rfl⟩ := hrel
    go_wp2_with fail
    refine (sectorOf_any wr run _ _ hr hpart.out (by simp)).mono ?_
    rw [hse.out]
    rintro e1 w1 ⟨v1, rfl, ho1, hb1⟩
    have HD1 : Hid (DiskAt w1 p sb mb pl s) := Lib.hid (H.out.below hb1)
    have HO1 := Lib.hid ho1
    have HB1 := Lib.hid hb1
    have hoff : Hid (Off (fun k => k = p) v1 (sect run [] 0)) := Lib.hid (off_new ho1 (by omega))
    obtain ⟨A1, c1, rfl, -, -, -, -⟩ := ho1.rbn.open_
    clear ho1 hb1
    go_wp2_with fail
    refine (Write_any w1 p sb mb pl s first _ (sect run [] 0) HD1.out (by have := HST.out; omega) HO1.out.rbn hoff.out).mono ?_
    rintro e2 w2 ⟨rfl, hd2, hm2⟩
    have HD2 := Lib.hid hd2
    have HM2 : Hid (Mod (Own p sb mb) wr w2) := Lib.hid ((Mod.of_below HB1.out (Own p sb mb)).trans' hm2)
    have HS2 : Hid ((s.write first (sect run [] 0)).steps ≤ s.steps + 1) := Lib.hid (write_steps5 s first (sect run [] 0))
    clear hd2 hm2
    have hz : first + ((0 : Nat) : Int) = first := by omega
    by_cases hwE : s.writeE first (sect run [] 0) = 0
    · have HT2 : Hid (((s.write first (sect run [] 0)).sync, (s.write first (sect run [] 0)).syncE) = T) := Lib.hid (by rw [HT.out, save_last (by rw [hz]; exact hwE) (by simp), hz])
      clear hz
      go_wp2_with fail
      refine (Sync_any w2 p sb mb pl _ HD2.out (by have := HS2.out; have := HST.out; omega)).mono ?_
      rintro e3 w3 ⟨rfl, hd3, hm3⟩
      have HD3 := Lib.hid hd3
      have HM3 := Lib.hid (HM2.out.trans' hm3)
      clear hd3 hm3
      go_wp2_with fail
      go_ret
      exact ⟨by rw [← HT2.out]; rfl, by rw [← HT2.out]; exact HD3.out, HM3.out⟩
    · have HT2 : Hid ((s.write first (sect run [] 0), s.writeE first (sect run [] 0)) = T) := Lib.hid (by rw [HT.out, save_fail (by rw [hz]; exact hwE), hz])
      clear hz
      go_wp2_with fail
      go_ret
      exact ⟨by rw [← HT2.out]; rfl, by rw [← HT2.out]; exact HD2.out, HM2.out⟩

/-- Format: the disk behind it, and what it answers. -/
def DS.format (first count : Int) (s : DS) : DS × Int := if thereB s.safe.length first count then DS.save 1 first [] 1 0 s else (s, 1)
set_option maxRecDepth 100000 in
theorem Format_any (w : World) (p sb mb : Nat) (pl : Option Nat) (s : DS) (first count : Int) (h : DiskAt w p sb mb pl s) (hst : s.steps < 1000000000000000) (hi : I64 first) :
    Calls Try.prog 78 #[.pointer (some ⟨p, 0, none⟩), .int .i64 first, .int .i64 count] w fun e w' => e = .returned (.int .i64 (DS.format first count s).2) ∧ DiskAt w' p sb mb pl (DS.format first count s).1 ∧ Mod (Own p sb mb) w w' := by
  have H := Lib.hid h
  have HN := Lib.hid h.ok.num
  have HST := Lib.hid hst
  have HI := Lib.hid hi
  clear h hst hi
  cases hb : thereB s.safe.length first count with
  | true =>
    have e1 : Hid (DS.format first count s = DS.save 1 first [] 1 0 s) := Lib.hid (by unfold DS.format; rw [if_pos hb])
    have hf : Hid (0 ≤ first ∧ first ≤ 1000000) := Lib.hid (by
      have := HN.out
      unfold thereB at hb
      simp only [Bool.and_eq_true, decide_eq_true_eq] at hb
      omega)
    have HB := Lib.hid hb
    clear hb
    go_enter Try.func78, Try.ntmps78
    go_wp2_with fail
    refine (areThere_any w p sb mb pl s first count H.out HI.out).mono ?_
    rw [HB.out]
    rintro e w1 ⟨rfl, rfl⟩
    go_wp2_with fail
    refine (save_nil w p sb mb pl s first 1 H.out HST.out hf.out (by omega)).mono ?_
    rw [← e1.out]
    rintro e w1 ⟨rfl, hd, hm⟩
    have HD := Lib.hid hd
    have HM := Lib.hid hm
    clear hd hm
    go_wp2_with fail
    go_ret
    exact ⟨rfl, HD.out, HM.out⟩
  | false =>
    have e1 : Hid (DS.format first count s = (s, 1)) := Lib.hid (by unfold DS.format; rw [hb]; rfl)
    have HB := Lib.hid hb
    clear hb
    go_enter Try.func78, Try.ntmps78
    go_wp2_with fail
    refine (areThere_any w p sb mb pl s first count H.out HI.out).mono ?_
    rw [HB.out]
    rintro e w1 ⟨rfl, rfl⟩
    go_wp2_with fail
    go_ret
    exact ⟨by rw [e1.out]; rfl, by rw [e1.out]; exact H.out, Mod.refl _ _⟩
end Go.Proofs.Ytplkdcegfpiofaa

/-
  A log in plain words; the walks of lsn, End, Safe, Room.
-/
namespace Go.Proofs.Ytplkdcegfpiofaa
open Go.RowKit Go.Maps
set_option linter.unusedVariables false

def encN (n : Nat) : List Value := [.int .i64 (n : Int)]
theorem encN_len (x : Nat) : (encN x).length = 1 := rfl
theorem encN_one (x : Nat) : ∀ u ∈ encN x, u.oneCell' = true := by intro u hu; simp [encN] at hu; subst hu; rfl

structure LG where
  first : Nat
  count : Nat
  run : Nat
  most : Nat
  st : List Nat
  begs : List Nat
  safe : Nat
  fresh : Bool
  dead : Bool
structure LG.Ok (m : LG) : Prop where
  first : m.first ≤ 4096
  count : 1 ≤ m.count ∧ m.count ≤ 4096
  run : m.run ≤ m.most ∧ m.most ≤ 274877906944
  st : m.st.length ≤ m.count * 498
  safe : m.safe ≤ m.st.length
  begs : m.begs.length ≤ m.st.length ∧ ∀ b ∈ m.begs, b < m.st.length
def LG.lsn (m : LG) (a : Nat) : Nat := m.run * 16777216 + a
def LG.room (m : LG) : Nat := m.count * 498 - m.st.length
/-- What is a log's own. -/
def OwnL (g : Nat) (sv bv : Value) (k : Nat) : Prop := k = g ∨ sv.ownBlock = some k ∨ bv.ownBlock = some k
/-- The block g holds a log on the disk at p; its stream and its begins are its own, from block B on. -/
structure LogAt (w : World) (p g B : Nat) (sv bv : Value) (m : LG) : Prop where
  ok : m.Ok
  blk : Blk w g 130 #[.pointer (some ⟨p, 0, none⟩), .int .i64 (m.first : Int), .int .i64 (m.count : Int), .int .i64 (m.run : Int), .int .i64 (m.most : Int), sv, bv, .int .i64 (m.safe : Int), .bool m.fresh, .bool m.dead]
  st : OB w B sv m.st
  begs : OK encN 1 3 w B bv m.begs
  far1 : sv.ownBlock ≠ some g
  far2 : bv.ownBlock ≠ some g
  far3 : sv.ownBlock = none ∨ sv.ownBlock ≠ bv.ownBlock
  base : B ≤ g
section
variable {w w' : World} {p g B : Nat} {sv bv : Value} {m : LG}
theorem LogAt.mod {S : Nat → Prop} (h : LogAt w p g B sv bv m) (hm : Mod S w w') (hn : ∀ k, OwnL g sv bv k → ¬ S k) : LogAt w' p g B sv bv m :=
  ⟨h.ok, h.blk.mod hm (hn g (.inl rfl)), h.st.mod hm (fun b hb => hn b (.inr (.inl hb))), h.begs.mod hm (fun b hb => hn b (.inr (.inr hb))), h.far1, h.far2, h.far3, h.base⟩
theorem LogAt.below (h : LogAt w p g B sv bv m) (hb : Below w.heap.size w w') : LogAt w' p g B sv bv m := h.mod (Mod.of_below hb (fun _ => False)) (fun _ _ => id)
theorem LogAt.lt (h : LogAt w p g B sv bv m) : g < w.heap.size := h.blk.lt
theorem LogAt.own (h : LogAt w p g B sv bv m) : ∀ k, OwnL g sv bv k → B ≤ k ∧ k < w.heap.size := by
  rintro k (rfl | hk | hk)
  · exact ⟨h.base, h.lt⟩
  · exact h.st.lt k hk
  · exact h.begs.lt k hk
theorem LogAt.stream (h : LogAt w p g B sv bv m) : ∃ A c, sv = .slice A m.st.length c := by
  obtain ⟨A, c, e, _⟩ := h.st.rbn.open_
  exact ⟨A, c, e⟩
theorem LogAt.begins (h : LogAt w p g B sv bv m) : ∃ A c, bv = .slice A m.begs.length c := by
  obtain ⟨A, c, e, _⟩ := (h.begs.rk encN_len (Nat.le_refl _)).open_
  exact ⟨A, c, e⟩
end

/-- The same world, the order's tape apart. -/
def Alike0 (w w' : World) : Prop := ∃ n, w' = w.drewN n
theorem lsn_any (w : World) (p g B : Nat) (sv bv : Value) (m : LG) (h : LogAt w p g B sv bv m) (a : Nat) (ha : a ≤ 4000000) :
    Calls Try.prog 79 #[.pointer (some ⟨g, 0, none⟩), .int .i64 (a : Int)] w fun e w' => e = .returned (.int .i64 (m.lsn a : Int)) ∧ w' = w := by
  have a3 := h.blk.cell 3
  have hr := h.ok.run
  have hE : Hid ((m.lsn a : Int) = (m.run : Int) * 16777216 + (a : Int)) := Lib.hid (by unfold LG.lsn; omega)
  obtain ⟨r, hrr⟩ : ∃ r, r = m.run := ⟨_, rfl⟩
  rw [← hrr] at a3 hE hr
  have hw1 : IntKind.i64.wrap ((r : Int) * 16777216) = (r : Int) * 16777216 := by rw [IntKind.wrap_i64]; omega
  have hw2 : IntKind.i64.wrap ((r : Int) * 16777216 + (a : Int)) = (r : Int) * 16777216 + (a : Int) := by rw [IntKind.wrap_i64]; omega
  clear h hrr
  go_enter Try.func79, Try.ntmps79
  go_wp2_with fail
  go_ret
  exact ⟨by rw [hE.out]; rfl, rfl⟩
theorem LG.Ok.num {m : LG} (h : m.Ok) : m.st.length ≤ 2039808 := by have := h.st; have := h.count; omega
theorem logEnd_any (w : World) (p g B : Nat) (sv bv : Value) (m : LG) (h : LogAt w p g B sv bv m) :
    Calls Try.prog 25 #[.pointer (some ⟨g, 0, none⟩)] w fun e w' => e = .returned (.int .i64 (m.lsn m.st.length : Int)) ∧ w' = w := by
  obtain ⟨A, c, rfl⟩ := h.stream
  have a5 := h.blk.cell 5
  have hn := h.ok.num
  have H := Lib.hid h
  clear h
  go_enter Try.func25, Try.ntmps25
  go_wp2_with fail
  refine (lsn_any w p g B _ bv m H.out _ (by omega)).mono ?_
  rintro e w1 ⟨rfl, h1⟩
  subst w1
  go_wp2_with fail
  go_ret
  exact ⟨rfl, rfl⟩
theorem logSafe_any (w : World) (p g B : Nat) (sv bv : Value) (m : LG) (h : LogAt w p g B sv bv m) :
    Calls Try.prog 33 #[.pointer (some ⟨g, 0, none⟩)] w fun e w' => e = .returned (.int .i64 (m.lsn m.safe : Int)) ∧ w' = w := by
  have a7 := h.blk.cell 7
  have hn : m.safe ≤ 4000000 := by have := h.ok.num; have := h.ok.safe; omega
  have H := Lib.hid h
  clear h
  go_enter Try.func33, Try.ntmps33
  go_wp2_with fail
  refine (lsn_any w p g B _ bv m H.out _ hn).mono ?_
  rintro e w1 ⟨rfl, h1⟩
  subst w1
  go_wp2_with fail
  go_ret
  exact ⟨rfl, rfl⟩
theorem logRoom_any (w : World) (p g B : Nat) (sv bv : Value) (m : LG) (h : LogAt w p g B sv bv m) :
    Calls Try.prog 24 #[.pointer (some ⟨g, 0, none⟩)] w fun e w' => e = .returned (.int .i64 (m.room : Int)) ∧ Alike0 w w' := by
  obtain ⟨A, c, rfl⟩ := h.stream
  have a5 := h.blk.cell 5
  have a2 := h.blk.cell 2
  have hc := h.ok.count
  have hs := h.ok.st
  have hE : Hid ((m.room : Int) = (m.count : Int) * 498 - (m.st.length : Int)) := Lib.hid (by unfold LG.room; omega)
  have hw1 : IntKind.i64.wrap ((m.count : Int) * 498) = (m.count : Int) * 498 := by rw [IntKind.wrap_i64]; omega
  have hw2 : IntKind.i64.wrap ((m.count : Int) * 498 - (m.st.length : Int)) = (m.count : Int) * 498 - (m.st.length : Int) := by rw [IntKind.wrap_i64]; omega
  clear h
  go_enter Try.func24, Try.ntmps24
  go_wp2_with fail
  go_quiet (fail)
  go_wp2_with fail
  go_ret
  exact ⟨by rw [hE.out]; rfl, nq, rfl⟩
end Go.Proofs.Ytplkdcegfpiofaa
