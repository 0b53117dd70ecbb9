/-
  A pool's frames in memory; the walk of leaver.
-/
import Derived.BigQuiet
import Derived.Test.YtbagmmncjmbboaaGreatZQ3
import Derived.Test.YtbagmmncjmbboaaGreatZC1
import Derived.Test.YtbagmmncjmbboaaGreatE10
namespace Go.Proofs.YtbagmmncjmbboaaGreat
open Go.RowKit Go.Maps
set_option linter.unusedVariables false

/-- A frame: the page's number, its content, pins, is it dirty, with which LSN, when it was asked for. -/
structure Fr where
  num : Int
  page : Option PG
  pins : Nat
  dirty : Bool
  recl : Int
  asked : Nat
/-- .. where its page lies. -/
structure FrM where
  p : Nat
  v : Value
  xs : List Sl
def encFr (x : Fr × FrM) : List Value := [.int .i64 x.1.num, .pointer (x.1.page.map fun _ => ⟨x.2.p, 0, none⟩), .int .i64 (x.1.pins : Int), .bool x.1.dirty, .int .i64 x.1.recl, .int .i64 (x.1.asked : Int)]
theorem encFr_len (x) : (encFr x).length = 6 := rfl

/-- The frames fs in block fb. -/
def FrAt (w : World) (fb : Nat) (fs : List (Fr × FrM)) : Prop := Blk w fb 108 (fs.flatMap encFr).toArray

theorem FrAt.cell {w : World} {fb : Nat} {fs : List (Fr × FrM)} (h : FrAt w fb fs) {i : Nat} {x : Fr × FrM} (hi : fs[i]? = some x) (j : Nat) (u : Value) (hj : (encFr x)[j]? = some u) : w.cell? ⟨fb, i * 6 + j, none⟩ = some u := by
  have h1 := flat_get encFr_len fs i x hi j u hj
  rw [Blk.cell h]
  simpa using h1

theorem flat_set6 {fs : List (Fr × FrM)} {i j : Nat} {x x' : Fr × FrM} {u : Value} (hi : fs[i]? = some x) (hj : j < 6) (he : encFr x' = (encFr x).set j u) : (fs.flatMap encFr).set (i * 6 + j) u = (fs.set i x').flatMap encFr := by
  induction fs generalizing i with
  | nil => simp at hi
  | cons a r ih =>
    cases i with
    | zero =>
      simp at hi; subst hi
      rw [List.flatMap_cons, List.set_cons_zero, List.flatMap_cons, Nat.zero_mul, Nat.zero_add, List.set_append_left _ _ (by rw [encFr_len]; exact hj), he]
    | succ i =>
      have hi' : r[i]? = some x := by simpa using hi
      rw [List.flatMap_cons, List.set_cons_succ, List.flatMap_cons, List.set_append_right _ _ (by rw [encFr_len]; omega), encFr_len, show (i + 1) * 6 + j - 6 = i * 6 + j by omega, ih hi']

theorem FrAt.set_ {w : World} {fb : Nat} {fs : List (Fr × FrM)} (h : FrAt w fb fs) {i j : Nat} {x x' : Fr × FrM} {u : Value} (hi : fs[i]? = some x) (hj : j < 6) (he : encFr x' = (encFr x).set j u) : FrAt (w.setCell ⟨fb, i * 6 + j, none⟩ u) fb (fs.set i x') := by
  have h1 := Blk.set_ h (i * 6 + j) u
  have e : ((fs.flatMap encFr).toArray.setIfInBounds (i * 6 + j) u) = ((fs.set i x').flatMap encFr).toArray := by
    rw [List.setIfInBounds_toArray, flat_set6 hi hj he]
  rw [e] at h1
  exact h1

/-- Of the first k frames the one that was asked for longest ago of those that aren't pinned. -/
def oldest (fs : List (Fr × FrM)) : Nat → Option Nat
  | 0 => none
  | k + 1 => match fs[k]? with
    | none => oldest fs k
    | some x => if (x.1.pins == 0 && (match (oldest fs k).bind (fun j => fs[j]?) with | none => true | some y => decide (x.1.asked < y.1.asked))) = true then some k else oldest fs k

theorem oldest_lt (fs : List (Fr × FrM)) : ∀ (k j : Nat), oldest fs k = some j → j < k ∧ j < fs.length
  | 0, j, h => by cases h
  | k + 1, j, h => by
    unfold oldest at h
    cases hx : fs[k]? with
    | none =>
      rw [hx] at h
      have := oldest_lt fs k j h; omega
    | some x =>
      have hk := (List.getElem?_eq_some_iff.1 hx).1
      rw [hx] at h
      dsimp only at h
      revert h
      generalize (x.1.pins == 0 && (match (oldest fs k).bind (fun j => fs[j]?) with | none => true | some y => decide (x.1.asked < y.1.asked))) = c
      intro h
      cases c with
      | true => simp at h; omega
      | false =>
        simp at h
        have := oldest_lt fs k j h; omega

def ptrF (fb : Nat) (o : Option Nat) : Value := .pointer (o.map fun j => ⟨fb, j * 6, none⟩)

set_option maxRecDepth 100000 in
set_option maxHeartbeats 4000000 in
theorem leaver_any (w : World) (q fb nf : Nat) (fs : List (Fr × FrM)) (h : FrAt w fb fs) (hn : fs.length = nf) (hnf : nf ≤ 64) (c4 : w.cell? ⟨q, 4, none⟩ = some (.slice (some ⟨fb, 0, none⟩) nf nf)) :
    Calls Tryz.prog 117 #[.pointer (some ⟨q, 0, none⟩)] w fun e w' => e = .returned (ptrF fb (oldest fs nf)) ∧ Below w.heap.size w w' := by
  have H := Lib.hid h
  have HN := Lib.hid hn
  clear h hn
  go_enter Tryz.func117, Tryz.ntmps117
  go_wp2_with fail
  go_loopw [3, 11] (fun x i wr => ∃ k : Nat, k ≤ nf ∧ i = .int .i64 (k : Int) ∧ x = ptrF fb (oldest fs k) ∧ ∃ r, wr = w.drewN r) (fun x i wr => nf - (intOf i).toNat)
  case atStart => exact ⟨0, Nat.zero_le _, rfl, rfl, 0, rfl⟩
  case round =>
    obtain ⟨k, hk, rfl, rfl, r, hwr⟩ := hrel
    have HWR := Lib.hid hwr
    have c4r : wr.cell? ⟨q, 4, none⟩ = some (.slice (some ⟨fb, 0, none⟩) nf nf) := by rw [hwr]; exact c4
    have HF : Hid (FrAt wr fb fs) := Lib.hid (by rw [hwr]; exact H.out)
    clear hwr
    by_cases hlt : k < nf
    · obtain ⟨x, hx⟩ : ∃ x, fs[k]? = some x := ⟨fs[k]'(by rw [HN.out]; exact hlt), List.getElem?_eq_getElem _⟩
      have k2 : wr.cell? ⟨fb, k * 6 + 2, none⟩ = some (.int .i64 (x.1.pins : Int)) := HF.out.cell hx 2 _ rfl
      have k5 : wr.cell? ⟨fb, k * 6 + 5, none⟩ = some (.int .i64 (x.1.asked : Int)) := HF.out.cell hx 5 _ rfl
      obtain ⟨pn, hpn⟩ : ∃ pn, pn = x.1.pins := ⟨_, rfl⟩
      obtain ⟨ak, hak⟩ : ∃ ak, ak = x.1.asked := ⟨_, rfl⟩
      rw [← hpn] at k2
      rw [← hak] at k5
      by_cases hp0 : pn = 0
      · have e1 : ((pn : Int) == 0) = true := by simpa using hp0
        cases ho : oldest fs k with
        | none =>
          have HO : Hid (oldest fs (k + 1) = some k) := Lib.hid (by unfold oldest; rw [hx, ho]; simp [← hpn, hp0])
          clear hx hpn hak ho hp0
          unfold ptrF
          dsimp only [Option.map]
          go_wp2_with fail
          go_quiet (fail)
          go_wp2_with fail
          go_roundw
          case rel => exact ⟨k + 1, by omega, by go_num, by rw [HO.out], _, by rw [HWR.out, World.drewN_drewN]⟩
          case measure => simp [intOf]; omega
        | some j =>
          obtain ⟨hj1, hj2⟩ := oldest_lt fs k j ho
          obtain ⟨y, hy⟩ : ∃ y, fs[j]? = some y := ⟨fs[j], List.getElem?_eq_getElem hj2⟩
          have j5 : wr.cell? ⟨fb, j * 6 + 5, none⟩ = some (.int .i64 (y.1.asked : Int)) := HF.out.cell hy 5 _ rfl
          obtain ⟨aj, haj⟩ : ∃ aj, aj = y.1.asked := ⟨_, rfl⟩
          rw [← haj] at j5
          by_cases hlta : ak < aj
          · have e2 : decide ((ak : Int) < (aj : Int)) = true := by simp; omega
            have e3 : decide (ak < aj) = true := by simpa using hlta
            have HO : Hid (oldest fs (k + 1) = some k) := Lib.hid (by unfold oldest; rw [hx, ho]; simp [hy, ← hpn, hp0, ← hak, ← haj, hlta])
            clear hx hy hpn hak haj ho hp0 hlta
            unfold ptrF
            dsimp only [Option.map]
            go_wp2_with fail
            go_quiet (fail)
            go_wp2_with fail
            go_roundw
            case rel => exact ⟨k + 1, by omega, by go_num, by rw [HO.out], _, by rw [HWR.out, World.drewN_drewN]⟩
            case measure => simp [intOf]; omega
          · have e2 : decide ((ak : Int) < (aj : Int)) = false := by simp; omega
            have e3 : decide (ak < aj) = false := by simpa using hlta
            have HO : Hid (oldest fs (k + 1) = some j) := Lib.hid (by unfold oldest; rw [hx, ho]; simp [hy, ← hak, ← haj, hlta])
            clear hx hy hpn hak haj ho hp0 hlta
            unfold ptrF
            dsimp only [Option.map]
            go_wp2_with fail
            go_quiet (fail)
            go_wp2_with fail
            go_roundw
            case rel => exact ⟨k + 1, by omega, by go_num, by rw [HO.out], _, by rw [HWR.out, World.drewN_drewN]⟩
            case measure => simp [intOf]; omega
      · have e1 : ((pn : Int) == 0) = false := by simpa using hp0
        have HO : Hid (oldest fs (k + 1) = oldest fs k) := Lib.hid (by conv => lhs; unfold oldest
                                                                       rw [hx]; simp [← hpn, hp0])
        clear hx hpn hak hp0
        obtain ⟨ov, hov⟩ : ∃ ov, ov = ptrF fb (oldest fs k) := ⟨_, rfl⟩
        have HOV := Lib.hid hov
        rw [← hov]
        clear hov
        go_wp2_with fail
        go_quiet (fail)
        go_wp2_with fail
        go_roundw
        case rel => exact ⟨k + 1, by omega, by go_num, by rw [HO.out, HOV.out], _, by rw [HWR.out, World.drewN_drewN]⟩
        case measure => simp [intOf]; omega
    · obtain rfl : k = nf := by omega
      go_wp2_with fail
      go_ret
      exact ⟨rfl, by rw [HWR.out]; exact below_drewN (Below.refl _ _) _⟩
end Go.Proofs.YtbagmmncjmbboaaGreat

/-
  A log sector's bytes in plain words; the walk of wal's sectorOf.
-/
namespace Go.Proofs.YtbagmmncjmbboaaGreat
open Go.RowKit Go.Maps
set_option linter.unusedVariables false

/-- What a log sector's sum goes over. -/
def secB (run : Nat) (part : List Nat) : List Nat := digits run 8 ++ digits part.length 2 ++ part ++ List.replicate (498 - part.length) 0

def secL (run : Nat) (part : List Nat) : List Nat := sumBytes (crcSum (secB run part)) ++ secB run part

theorem secB_len {run : Nat} {part : List Nat} (h : part.length ≤ 498) : (secB run part).length = 508 := by
  unfold secB
  rw [List.length_append, List.length_append, List.length_append, digits_len, digits_len, List.length_replicate]; omega

theorem secB_lt {run : Nat} {part : List Nat} (h : ∀ x ∈ part, x < 256) : ∀ x ∈ secB run part, x < 256 := by
  intro x hx
  unfold secB at hx
  rcases List.mem_append.1 hx with hx | hx
  · rcases List.mem_append.1 hx with hx | hx
    · rcases List.mem_append.1 hx with hx | hx
      · exact digits_lt _ _ x hx
      · exact digits_lt _ _ x hx
    · exact h x hx
  · rw [(List.mem_replicate.1 hx).2]; omega

theorem secL_ok {run : Nat} {part : List Nat} (h : part.length ≤ 498) (h2 : ∀ x ∈ part, x < 256) : SecOk (secL run part) := by
  have hb := secB_lt (run := run) h2
  refine ⟨by unfold secL; rw [List.length_append, secB_len h]; rfl, fun x hx => ?_⟩
  unfold secL at hx
  rcases List.mem_append.1 hx with hx | hx
  · exact sumBytes_lt _ (crcSum_lt _ hb) x hx
  · exact hb x hx

theorem sec_1 (d : List Nat) (hd : d.length = 8) : putAt sec0 4 d = (List.replicate 4 0 ++ d) ++ List.replicate 500 0 ++ [] := by
  have e : sec0 = List.replicate 4 0 ++ List.replicate 508 0 ++ [] := by unfold sec0; rw [List.append_nil, ← zeros_split]
  rw [e]
  have := putAt_zeros (X := List.replicate 4 0) (d := d) (T := []) (z := 508) (by omega)
  rw [hd, List.length_replicate] at this
  exact this

theorem sec_2 {X d : List Nat} {n z : Nat} (hX : X.length = n) (hd : d.length ≤ z) : putAt (X ++ List.replicate z 0 ++ []) n d = (X ++ d) ++ List.replicate (z - d.length) 0 ++ [] := by
  subst hX; exact putAt_zeros hd

set_option maxRecDepth 100000 in
set_option maxHeartbeats 1000000 in
theorem sectorOf_any (w : World) (run : Nat) (v : Value) (l : List Nat) (hr : run < 9223372036854775808) (hv : RB w w.heap.size v l) (hl : l.length ≤ 498) :
    Calls Tryz.prog 103 #[.int .i64 (run : Int), v] w fun e w' => ∃ v', e = .returned v' ∧ OB w' w.heap.size v' (secL run l) ∧ Below w.heap.size w w' := by
  have HV := Lib.hid hv
  have HL := Lib.hid hv.1
  obtain ⟨A, c, rfl, -, -, -, -⟩ := hv.open_
  have hcv : IntKind.u64.wrap (run : Int) = (run : Int) := by rw [IntKind.wrap_u64]; omega
  have hcv2 : IntKind.u64.wrap (l.length : Int) = (l.length : Int) := by rw [IntKind.wrap_u64]; omega
  obtain ⟨g, hg⟩ : ∃ g, g = w.heap.size := ⟨_, rfl⟩
  have HG := Lib.hid hg
  clear hv hg
  go_enter Tryz.func103, Tryz.ntmps103
  go_wp2_with (first | (refine wpList_allocA g HG.out.symm ?_; intro w1 hb1 hw1 hz1; rw [← HG.out] at hw1 hz1; have HB1 := Lib.hid hb1; have HW1 := Lib.hid hw1; clear hb1 hw1))
  refine (lePut_at HB1.out (by rw [sec0_ok.1]; omega) (by omega) (by omega) (by omega) (by omega)).mono ?_
  rintro e w2 ⟨rfl, hb2, hm2, hz2⟩
  have HW2 := Lib.hid (below_mod HW1.out (Nat.le_of_lt HB1.out.size) hm2)
  rw [sec_1 _ (digits_len _ _)] at hb2
  obtain ⟨X1, hX1⟩ : ∃ X1, X1 = List.replicate 4 0 ++ digits run 8 := ⟨_, rfl⟩
  have hX1l : X1.length = 12 := by rw [hX1, List.length_append, digits_len, List.length_replicate]
  rw [← hX1] at hb2
  have HB2 := Lib.hid hb2
  have HX1 := Lib.hid hX1
  clear hb2 hm2 hX1 hz1 hz2
  go_wp2_with fail
  have hl2 : (X1 ++ List.replicate 500 0 ++ []).length = 512 := by rw [List.append_nil, List.length_append, List.length_replicate, hX1l]
  refine (lePut_at HB2.out (by omega) (by omega) (by omega) (by omega) (by omega)).mono ?_
  rintro e w3 ⟨rfl, hb3, hm3, hz3⟩
  have HW3 := Lib.hid (below_mod HW2.out (Nat.le_of_lt HB2.out.size) hm3)
  rw [sec_2 hX1l (by rw [digits_len]; omega), digits_len] at hb3
  have hX2l : (X1 ++ digits l.length 2).length = 14 := by rw [List.length_append, hX1l, digits_len]
  have hl3 : ((X1 ++ digits l.length 2) ++ List.replicate (500 - 2) 0 ++ []).length = 512 := by rw [List.append_nil, List.length_append, List.length_replicate, hX2l]
  have HB3 := Lib.hid hb3
  have HV3 : Hid (RB w3 g (.slice A l.length c) l) := by
    have h1 : RB w g (.slice A l.length c) l := by rw [HG.out]; exact HV.out
    exact Lib.hid (h1.below HW3.out)
  have HL3 := Lib.hid hl3
  have HX2 := Lib.hid hX2l
  have HX1L := Lib.hid hX1l
  clear hb3 hm3 hz3 hl2 hl3 hX2l hX1l
  go_wp2_with (first
    | (refine wpList_copyB rfl (.tmp 15) (.tmp 16) rfl g g 14 _ _ _ _ l _ rfl rfl HB3.out HV3.out (by rw [HL3.out]; omega) (by omega) ?_; intro w4 u4 hb4 hm4 hz4; rw [sec_2 HX2.out (by omega)] at hb4; have HB4 := Lib.hid hb4; have HW4 := Lib.hid (below_mod HW3.out (Nat.le_of_lt HB3.out.size) hm4); clear hb4 hm4 hz4))
  have hfull : (X1 ++ digits l.length 2 ++ l ++ List.replicate (500 - 2 - l.length) 0 ++ []) = List.replicate 4 0 ++ secB run l := by
    rw [HX1.out]
    unfold secB
    rw [List.append_nil, show 500 - 2 - l.length = 498 - l.length by omega]
    simp only [List.append_assoc]
  rw [hfull] at HB4
  have hrb : RB w4 w4.heap.size (.slice (some ⟨g, 4, none⟩) 508 508) (secB run l) := by
    have hlen : (List.replicate 4 0 ++ secB run l).length = 512 := by rw [List.length_append, List.length_replicate, secB_len hl]
    have h1 := HB4.out.rb (lo := 4) (m := 508) (c := 508) (by omega) (by omega) (by omega) HB4.out.size
    rw [List.drop_left' (by simp), List.take_of_length_le (by rw [secB_len hl]; omega)] at h1
    exact h1
  have HRB := Lib.hid hrb
  clear hfull hrb
  refine (seal_any _ (secB run l) w4 HRB.out (by rw [secB_len hl]; omega)).mono ?_
  rintro e w5 ⟨v5, rfl, ho5, hb5⟩
  have ho : OB w5 w.heap.size v5 (secL run l) := ho5.base (by have := HW4.out.size; rw [← HG.out]; have := HB4.out.size; omega)
  have hbw : Below w.heap.size w w5 := by
    have h1 := HW4.out.trans (hb5.mono (Nat.le_of_lt HB4.out.size))
    rw [HG.out] at h1; exact h1
  have HO := Lib.hid ho
  have HBW := Lib.hid hbw
  obtain ⟨A5, c5, rfl, -, -, -, -⟩ := ho.rbn.open_
  clear ho5 hb5 ho hbw
  go_wp2_with fail
  go_ret
  exact ⟨_, rfl, HO.out, HBW.out⟩

end Go.Proofs.YtbagmmncjmbboaaGreat

/-
  A log sector read in plain words; the walk of wal's parse.
-/
namespace Go.Proofs.YtbagmmncjmbboaaGreat
open Go.RowKit Go.Maps
set_option linter.unusedVariables false

def runOf (b : List Nat) : Nat := leV ((b.drop 4).take 8)

def usedOf (b : List Nat) : Nat := leV ((b.drop 12).take 2)

/-- Does a log sector's form hold: its run and how much is used are within bounds, its sum is right, what is not used is 0? -/
def isLog (b : List Nat) : Prop := 1 ≤ runOf b ∧ runOf b ≤ 274877906944 ∧ usedOf b ≤ 498 ∧ openOk b = true ∧ ∀ j x, 14 + usedOf b ≤ j → b[j]? = some x → x = 0

def partOf (b : List Nat) : List Nat := (b.drop 14).take (usedOf b)

/-- What parse answers at the sector's slice. -/
def ParseOut (w : World) (b : List Nat) (e : Ending) (w' : World) : Prop := Below w.heap.size w w' ∧
  ((¬ isLog b ∧ e = .returned (.tuple #[.int .i64 0, .slice none 0 0, .bool false])) ∨ (isLog b ∧ ∃ A c, e = .returned (.tuple #[.int .i64 (runOf b : Int), .slice A (usedOf b) c, .bool true]) ∧ RB w' w'.heap.size (.slice A (usedOf b) c) (partOf b)))

theorem openV {w : World} {v : Value} {l : List Nat} (hv : RB w w.heap.size v l) (hl : l.length = 512) {ok : Bool} (hok : openOk l = ok) : Calls Tryz.prog 121 #[v] w fun e w' => (∃ A n c, e = .returned (.tuple #[.slice A n c, .bool ok])) ∧ Below w.heap.size w w' := by
  refine (open_long v l w hv (by omega)).mono ?_
  rintro e w' ⟨v', rfl, ho, hb⟩
  obtain ⟨A, c, rfl, -, -, -, -⟩ := ho.rbn.open_
  exact ⟨⟨A, _, c, by rw [hok]⟩, hb⟩

set_option maxRecDepth 100000 in
set_option maxHeartbeats 1000000 in
theorem parse_low (w : World) (b : Nat) (l : List Nat) (hv : RB w w.heap.size (.slice (some ⟨b, 0, none⟩) 512 512) l) (hl : l.length = 512) (hb : b < w.heap.size) (hyp : runOf l < 1) :
    Calls Tryz.prog 104 #[.slice (some ⟨b, 0, none⟩) 512 512] w (ParseOut w l) := by
  have HV := Lib.hid hv
  obtain ⟨r, hr⟩ : ∃ r, r = runOf l := ⟨_, rfl⟩
  obtain ⟨u, hu⟩ : ∃ u, u = usedOf l := ⟨_, rfl⟩
  have R1 : Hid (RB w w.heap.size (.slice (some ⟨b, 4, none⟩) 8 508) ((l.drop 4).take 8)) := by
    have h := hv.sub (lo := 4) (m := 8) (c' := 508) (by omega) (by omega) (by omega)
    rw [Nat.zero_add] at h; exact h
  have R2 : Hid (RB w w.heap.size (.slice (some ⟨b, 12, none⟩) 2 500) ((l.drop 12).take 2)) := by
    have h := hv.sub (lo := 12) (m := 2) (c' := 500) (by omega) (by omega) (by omega)
    rw [Nat.zero_add] at h; exact h
  have l1 : ((l.drop 4).take 8).length ≤ 8 := by rw [List.length_take]; omega
  have l2 : ((l.drop 12).take 2).length ≤ 8 := by rw [List.length_take]; omega
  have E1 : Hid (leV ((l.drop 4).take 8) = r) := Lib.hid hr.symm
  have E2 : Hid (leV ((l.drop 12).take 2) = u) := Lib.hid hu.symm
  have hu16 : u < 65536 := by
    have h := leV_lt ((l.drop 12).take 2) (fun x hx => hv.1 x (List.mem_of_mem_drop (List.mem_of_mem_take hx)))
    have h2 : ((l.drop 12).take 2).length = 2 := by rw [List.length_take, List.length_drop]; omega
    rw [h2] at h
    have h3 : u = leV ((l.drop 12).take 2) := hu
    omega
  rw [← hr] at hyp
  have HR := Lib.hid hr
  have HU := Lib.hid hu
  have g1 : decide ((r : Int) < 1) = true := by simp; omega
  have g1b : (r : Int) < 1 := by omega
  clear hv hr hu
  go_enter Tryz.func104, Tryz.ntmps104
  go_wp2_with fail
  go_quiet (first
    | (go_at_call 72; with_reducible exact Calls.quiet_of_same (leGet_v (R1.out.drewN _) l1 E1.out))
    | (go_at_call 72; with_reducible exact Calls.quiet_of_same (leGet_v (R2.out.drewN _) l2 E2.out)))
  go_wp2_with fail
  go_ret3
  exact ⟨below_drewN (Below.refl _ _) nq, .inl ⟨fun h => by have := HR.out; have := h.1; omega, by first | rfl | trivial⟩⟩

set_option maxRecDepth 100000 in
set_option maxHeartbeats 1000000 in
theorem parse_high (w : World) (b : Nat) (l : List Nat) (hv : RB w w.heap.size (.slice (some ⟨b, 0, none⟩) 512 512) l) (hl : l.length = 512) (hb : b < w.heap.size) (hyp : 274877906944 < runOf l) :
    Calls Tryz.prog 104 #[.slice (some ⟨b, 0, none⟩) 512 512] w (ParseOut w l) := by
  have HV := Lib.hid hv
  obtain ⟨r, hr⟩ : ∃ r, r = runOf l := ⟨_, rfl⟩
  obtain ⟨u, hu⟩ : ∃ u, u = usedOf l := ⟨_, rfl⟩
  have R1 : Hid (RB w w.heap.size (.slice (some ⟨b, 4, none⟩) 8 508) ((l.drop 4).take 8)) := by
    have h := hv.sub (lo := 4) (m := 8) (c' := 508) (by omega) (by omega) (by omega)
    rw [Nat.zero_add] at h; exact h
  have R2 : Hid (RB w w.heap.size (.slice (some ⟨b, 12, none⟩) 2 500) ((l.drop 12).take 2)) := by
    have h := hv.sub (lo := 12) (m := 2) (c' := 500) (by omega) (by omega) (by omega)
    rw [Nat.zero_add] at h; exact h
  have l1 : ((l.drop 4).take 8).length ≤ 8 := by rw [List.length_take]; omega
  have l2 : ((l.drop 12).take 2).length ≤ 8 := by rw [List.length_take]; omega
  have E1 : Hid (leV ((l.drop 4).take 8) = r) := Lib.hid hr.symm
  have E2 : Hid (leV ((l.drop 12).take 2) = u) := Lib.hid hu.symm
  have hu16 : u < 65536 := by
    have h := leV_lt ((l.drop 12).take 2) (fun x hx => hv.1 x (List.mem_of_mem_drop (List.mem_of_mem_take hx)))
    have h2 : ((l.drop 12).take 2).length = 2 := by rw [List.length_take, List.length_drop]; omega
    rw [h2] at h
    have h3 : u = leV ((l.drop 12).take 2) := hu
    omega
  rw [← hr] at hyp
  have HR := Lib.hid hr
  have HU := Lib.hid hu
  have g1 : ¬ (r : Int) < 1 := by omega
  have g2 : (274877906944 : Int) < (r : Int) := by omega
  clear hv hr hu
  go_enter Tryz.func104, Tryz.ntmps104
  go_wp2_with fail
  go_quiet (first
    | (go_at_call 72; with_reducible exact Calls.quiet_of_same (leGet_v (R1.out.drewN _) l1 E1.out))
    | (go_at_call 72; with_reducible exact Calls.quiet_of_same (leGet_v (R2.out.drewN _) l2 E2.out)))
  go_wp2_with fail
  go_ret3
  exact ⟨below_drewN (Below.refl _ _) nq, .inl ⟨fun h => by have := HR.out; have := h.2.1; omega, by first | rfl | trivial⟩⟩

set_option maxRecDepth 100000 in
set_option maxHeartbeats 1000000 in
theorem parse_long (w : World) (b : Nat) (l : List Nat) (hv : RB w w.heap.size (.slice (some ⟨b, 0, none⟩) 512 512) l) (hl : l.length = 512) (hb : b < w.heap.size) (hyp : 1 ≤ runOf l ∧ runOf l ≤ 274877906944 ∧ 498 < usedOf l) :
    Calls Tryz.prog 104 #[.slice (some ⟨b, 0, none⟩) 512 512] w (ParseOut w l) := by
  have HV := Lib.hid hv
  obtain ⟨r, hr⟩ : ∃ r, r = runOf l := ⟨_, rfl⟩
  obtain ⟨u, hu⟩ : ∃ u, u = usedOf l := ⟨_, rfl⟩
  have R1 : Hid (RB w w.heap.size (.slice (some ⟨b, 4, none⟩) 8 508) ((l.drop 4).take 8)) := by
    have h := hv.sub (lo := 4) (m := 8) (c' := 508) (by omega) (by omega) (by omega)
    rw [Nat.zero_add] at h; exact h
  have R2 : Hid (RB w w.heap.size (.slice (some ⟨b, 12, none⟩) 2 500) ((l.drop 12).take 2)) := by
    have h := hv.sub (lo := 12) (m := 2) (c' := 500) (by omega) (by omega) (by omega)
    rw [Nat.zero_add] at h; exact h
  have l1 : ((l.drop 4).take 8).length ≤ 8 := by rw [List.length_take]; omega
  have l2 : ((l.drop 12).take 2).length ≤ 8 := by rw [List.length_take]; omega
  have E1 : Hid (leV ((l.drop 4).take 8) = r) := Lib.hid hr.symm
  have E2 : Hid (leV ((l.drop 12).take 2) = u) := Lib.hid hu.symm
  have hu16 : u < 65536 := by
    have h := leV_lt ((l.drop 12).take 2) (fun x hx => hv.1 x (List.mem_of_mem_drop (List.mem_of_mem_take hx)))
    have h2 : ((l.drop 12).take 2).length = 2 := by rw [List.length_take, List.length_drop]; omega
    rw [h2] at h
    have h3 : u = leV ((l.drop 12).take 2) := hu
    omega
  rw [← hr] at hyp
  rw [← hu] at hyp
  have HR := Lib.hid hr
  have HU := Lib.hid hu
  have g1 : ¬ (r : Int) < 1 := by omega
  have g2 : ¬ (274877906944 : Int) < (r : Int) := by omega
  have g3 : (498 : Int) < (u : Int) := by omega
  clear hv hr hu
  go_enter Tryz.func104, Tryz.ntmps104
  go_wp2_with fail
  go_quiet (first
    | (go_at_call 72; with_reducible exact Calls.quiet_of_same (leGet_v (R1.out.drewN _) l1 E1.out))
    | (go_at_call 72; with_reducible exact Calls.quiet_of_same (leGet_v (R2.out.drewN _) l2 E2.out)))
  go_wp2_with fail
  go_ret3
  exact ⟨below_drewN (Below.refl _ _) nq, .inl ⟨fun h => by have := HU.out; have := h.2.2.1; omega, by first | rfl | trivial⟩⟩

set_option maxRecDepth 100000 in
set_option maxHeartbeats 1000000 in
theorem log_parse_sum (w : World) (b : Nat) (l : List Nat) (hv : RB w w.heap.size (.slice (some ⟨b, 0, none⟩) 512 512) l) (hl : l.length = 512) (hb : b < w.heap.size) (hyp : 1 ≤ runOf l ∧ runOf l ≤ 274877906944 ∧ usedOf l ≤ 498 ∧ openOk l = false) :
    Calls Tryz.prog 104 #[.slice (some ⟨b, 0, none⟩) 512 512] w (ParseOut w l) := by
  have HV := Lib.hid hv
  obtain ⟨r, hr⟩ : ∃ r, r = runOf l := ⟨_, rfl⟩
  obtain ⟨u, hu⟩ : ∃ u, u = usedOf l := ⟨_, rfl⟩
  have R1 : Hid (RB w w.heap.size (.slice (some ⟨b, 4, none⟩) 8 508) ((l.drop 4).take 8)) := by
    have h := hv.sub (lo := 4) (m := 8) (c' := 508) (by omega) (by omega) (by omega)
    rw [Nat.zero_add] at h; exact h
  have R2 : Hid (RB w w.heap.size (.slice (some ⟨b, 12, none⟩) 2 500) ((l.drop 12).take 2)) := by
    have h := hv.sub (lo := 12) (m := 2) (c' := 500) (by omega) (by omega) (by omega)
    rw [Nat.zero_add] at h; exact h
  have l1 : ((l.drop 4).take 8).length ≤ 8 := by rw [List.length_take]; omega
  have l2 : ((l.drop 12).take 2).length ≤ 8 := by rw [List.length_take]; omega
  have E1 : Hid (leV ((l.drop 4).take 8) = r) := Lib.hid hr.symm
  have E2 : Hid (leV ((l.drop 12).take 2) = u) := Lib.hid hu.symm
  have hu16 : u < 65536 := by
    have h := leV_lt ((l.drop 12).take 2) (fun x hx => hv.1 x (List.mem_of_mem_drop (List.mem_of_mem_take hx)))
    have h2 : ((l.drop 12).take 2).length = 2 := by rw [List.length_take, List.length_drop]; omega
    rw [h2] at h
    have h3 : u = leV ((l.drop 12).take 2) := hu
    omega
  rw [← hr] at hyp
  rw [← hu] at hyp
  have HR := Lib.hid hr
  have HU := Lib.hid hu
  have g1 : ¬ (r : Int) < 1 := by omega
  have g2 : ¬ (274877906944 : Int) < (r : Int) := by omega
  have g3 : ¬ (498 : Int) < (u : Int) := by omega
  have HOK : Hid (openOk l = false) := Lib.hid hyp.2.2.2
  have HL := Lib.hid hl
  clear hv hr hu
  go_enter Tryz.func104, Tryz.ntmps104
  go_wp2_with fail
  go_quiet (first
    | (go_at_call 72; with_reducible exact Calls.quiet_of_same (leGet_v (R1.out.drewN _) l1 E1.out))
    | (go_at_call 72; with_reducible exact Calls.quiet_of_same (leGet_v (R2.out.drewN _) l2 E2.out)))
  go_wp2_with fail
  refine (openV (HV.out.drewN nq) HL.out HOK.out).mono ?_
  rintro e w1 ⟨⟨A1, n1, c1, rfl⟩, hb1⟩
  have HB1 : Hid (Below w.heap.size w w1) := (below_drewN (Below.refl _ _) nq).trans hb1
  clear hb1
  go_wp2_with fail
  go_ret3
  exact ⟨HB1.out, .inl ⟨(fun h => by have h1 := h.2.2.2.1; rw [HOK.out] at h1; cases h1), by first | rfl | trivial⟩⟩

set_option maxRecDepth 100000 in
set_option maxHeartbeats 1000000 in
theorem parse_yes_z (w : World) (b : Nat) (l : List Nat) (hv : RB w w.heap.size (.slice (some ⟨b, 0, none⟩) 512 512) l) (hl : l.length = 512) (hb : b < w.heap.size) (hyp : 1 ≤ runOf l ∧ runOf l ≤ 274877906944 ∧ usedOf l ≤ 498 ∧ openOk l = true ∧ usedOf l = 498 ∧ isLog l) :
    Calls Tryz.prog 104 #[.slice (some ⟨b, 0, none⟩) 512 512] w (ParseOut w l) := by
  have HV := Lib.hid hv
  obtain ⟨r, hr⟩ : ∃ r, r = runOf l := ⟨_, rfl⟩
  obtain ⟨u, hu⟩ : ∃ u, u = usedOf l := ⟨_, rfl⟩
  have R1 : Hid (RB w w.heap.size (.slice (some ⟨b, 4, none⟩) 8 508) ((l.drop 4).take 8)) := by
    have h := hv.sub (lo := 4) (m := 8) (c' := 508) (by omega) (by omega) (by omega)
    rw [Nat.zero_add] at h; exact h
  have R2 : Hid (RB w w.heap.size (.slice (some ⟨b, 12, none⟩) 2 500) ((l.drop 12).take 2)) := by
    have h := hv.sub (lo := 12) (m := 2) (c' := 500) (by omega) (by omega) (by omega)
    rw [Nat.zero_add] at h; exact h
  have l1 : ((l.drop 4).take 8).length ≤ 8 := by rw [List.length_take]; omega
  have l2 : ((l.drop 12).take 2).length ≤ 8 := by rw [List.length_take]; omega
  have E1 : Hid (leV ((l.drop 4).take 8) = r) := Lib.hid hr.symm
  have E2 : Hid (leV ((l.drop 12).take 2) = u) := Lib.hid hu.symm
  have hu16 : u < 65536 := by
    have h := leV_lt ((l.drop 12).take 2) (fun x hx => hv.1 x (List.mem_of_mem_drop (List.mem_of_mem_take hx)))
    have h2 : ((l.drop 12).take 2).length = 2 := by rw [List.length_take, List.length_drop]; omega
    rw [h2] at h
    have h3 : u = leV ((l.drop 12).take 2) := hu
    omega
  rw [← hr] at hyp
  rw [← hu] at hyp
  have HR := Lib.hid hr
  have HU := Lib.hid hu
  have g1 : ¬ (r : Int) < 1 := by omega
  have g2 : ¬ (274877906944 : Int) < (r : Int) := by omega
  have g3 : ¬ (498 : Int) < (u : Int) := by omega
  have HOK : Hid (openOk l = true) := Lib.hid hyp.2.2.2.1
  have hwu : IntKind.u64.wrap (14 + (u : Int)) = 14 + (u : Int) := by rw [IntKind.wrap_u64]; omega
  have htn : (14 + (u : Int)).toNat = 14 + u := by omega
  have hwr : IntKind.i64.wrap (r : Int) = (r : Int) := by rw [IntKind.wrap_i64]; omega
  have hb0 : (14 : Int) ≤ 14 + (u : Int) := by omega
  have hb2 : 14 + (u : Int) ≤ 512 := by omega
  have hb3 : (0 : Int) ≤ 14 + (u : Int) := by omega
  have hu498 : u = 498 := hyp.2.2.2.2.1
  have HLG : Hid (isLog l) := Lib.hid hyp.2.2.2.2.2
  have hpt : RB w w.heap.size (.slice (some ⟨b, 14, none⟩) 498 498) (partOf l) := by
    have h := hv.sub (lo := 14) (m := 498) (c' := 498) (by omega) (by omega) (by omega)
    rw [Nat.zero_add] at h
    unfold partOf
    rw [← hu, hu498]; exact h
  have HPT := Lib.hid hpt
  subst hu498
  clear hyp hpt htn hwu hb0 hb2 hb3
  have HL := Lib.hid hl
  clear hv hr hu
  go_enter Tryz.func104, Tryz.ntmps104
  go_wp2_with fail
  go_quiet (first
    | (go_at_call 72; with_reducible exact Calls.quiet_of_same (leGet_v (R1.out.drewN _) l1 E1.out))
    | (go_at_call 72; with_reducible exact Calls.quiet_of_same (leGet_v (R2.out.drewN _) l2 E2.out)))
  go_wp2_with fail
  refine (openV (HV.out.drewN nq) HL.out HOK.out).mono ?_
  rintro e w1 ⟨⟨A1, n1, c1, rfl⟩, hb1⟩
  have HB1 : Hid (Below w.heap.size w w1) := (below_drewN (Below.refl _ _) nq).trans hb1
  clear hb1
  go_wp2_with fail
  go_quiet (fail)
  go_wp2_with fail
  go_loopw [46] (fun i wr => i = .int .i64 0 ∧ wr = w1.drewN nq) (fun i wr => 0)
  case atStart => exact ⟨rfl, rfl⟩
  case round =>
    obtain ⟨rfl, rfl⟩ := hrel
    go_wp2_with fail
    go_ret3
    have hbw := below_drewN HB1.out nq
    exact ⟨hbw, .inr ⟨HLG.out, _, _, by rw [← HR.out, ← HU.out]; rfl, by rw [← HU.out]; exact (HPT.out.below hbw).more hbw.size⟩⟩

set_option maxRecDepth 100000 in
set_option maxHeartbeats 1000000 in
theorem parse_yes (w : World) (b : Nat) (l : List Nat) (hv : RB w w.heap.size (.slice (some ⟨b, 0, none⟩) 512 512) l) (hl : l.length = 512) (hb : b < w.heap.size) (hyp : 1 ≤ runOf l ∧ runOf l ≤ 274877906944 ∧ usedOf l ≤ 498 ∧ openOk l = true ∧ usedOf l < 498 ∧ isLog l) :
    Calls Tryz.prog 104 #[.slice (some ⟨b, 0, none⟩) 512 512] w (ParseOut w l) := by
  have HV := Lib.hid hv
  obtain ⟨r, hr⟩ : ∃ r, r = runOf l := ⟨_, rfl⟩
  obtain ⟨u, hu⟩ : ∃ u, u = usedOf l := ⟨_, rfl⟩
  have R1 : Hid (RB w w.heap.size (.slice (some ⟨b, 4, none⟩) 8 508) ((l.drop 4).take 8)) := by
    have h := hv.sub (lo := 4) (m := 8) (c' := 508) (by omega) (by omega) (by omega)
    rw [Nat.zero_add] at h; exact h
  have R2 : Hid (RB w w.heap.size (.slice (some ⟨b, 12, none⟩) 2 500) ((l.drop 12).take 2)) := by
    have h := hv.sub (lo := 12) (m := 2) (c' := 500) (by omega) (by omega) (by omega)
    rw [Nat.zero_add] at h; exact h
  have l1 : ((l.drop 4).take 8).length ≤ 8 := by rw [List.length_take]; omega
  have l2 : ((l.drop 12).take 2).length ≤ 8 := by rw [List.length_take]; omega
  have E1 : Hid (leV ((l.drop 4).take 8) = r) := Lib.hid hr.symm
  have E2 : Hid (leV ((l.drop 12).take 2) = u) := Lib.hid hu.symm
  have hu16 : u < 65536 := by
    have h := leV_lt ((l.drop 12).take 2) (fun x hx => hv.1 x (List.mem_of_mem_drop (List.mem_of_mem_take hx)))
    have h2 : ((l.drop 12).take 2).length = 2 := by rw [List.length_take, List.length_drop]; omega
    rw [h2] at h
    have h3 : u = leV ((l.drop 12).take 2) := hu
    omega
  rw [← hr] at hyp
  rw [← hu] at hyp
  have HR := Lib.hid hr
  have HU := Lib.hid hu
  have g1 : ¬ (r : Int) < 1 := by omega
  have g2 : ¬ (274877906944 : Int) < (r : Int) := by omega
  have g3 : ¬ (498 : Int) < (u : Int) := by omega
  have HOK : Hid (openOk l = true) := Lib.hid hyp.2.2.2.1
  have hwu : IntKind.u64.wrap (14 + (u : Int)) = 14 + (u : Int) := by rw [IntKind.wrap_u64]; omega
  have htn : (14 + (u : Int)).toNat = 14 + u := by omega
  have hwr : IntKind.i64.wrap (r : Int) = (r : Int) := by rw [IntKind.wrap_i64]; omega
  have hb0 : (14 : Int) ≤ 14 + (u : Int) := by omega
  have hb2 : 14 + (u : Int) ≤ 512 := by omega
  have hb3 : (0 : Int) ≤ 14 + (u : Int) := by omega
  have hlt498 : u < 498 := hyp.2.2.2.2.1
  have hne : ¬ 512 = 14 + u := by omega
  have hne2 : ¬ 14 + u = 512 := by omega
  obtain ⟨z, hz⟩ : ∃ z, 512 - (14 + u) = z := ⟨_, rfl⟩
  have hpt : RB w w.heap.size (.slice (some ⟨b, 14, none⟩) u 498) (partOf l) := by
    have h := hv.sub (lo := 14) (m := u) (c' := 498) (by omega) (by omega) (by omega)
    rw [Nat.zero_add] at h
    unfold partOf
    rw [← hu]; exact h
  have HPT := Lib.hid hpt
  have HLG : Hid (isLog l) := Lib.hid hyp.2.2.2.2.2
  have hcell : ∀ j x : Nat, l[j]? = some x → w.cell? ⟨b, j, none⟩ = some (.int .u8 (x : Int)) := fun j x hx => by
    obtain ⟨_, _, A, c0, e, _, _, h5⟩ := hv
    injection e with e _ _
    rcases h5 with h5 | ⟨b', off, e', _, hx'⟩
    · rw [h5] at hx; cases hx
    · rw [← e] at e'
      injection e' with e'
      injection e' with e4 e5
      subst e4 e5
      have := hx' j x hx
      rw [Nat.zero_add] at this; exact this
  have HGAP : Hid (∀ j, j < z → w.cell? ⟨b, 14 + u + j, none⟩ = some (.int .u8 0)) := Lib.hid fun j hj => by
    have hx : (14 + u + j) < l.length := by omega
    have h0 := hyp.2.2.2.2.2.2.2.2.2 (14 + u + j) l[14 + u + j] (by rw [← hu]; omega) (List.getElem?_eq_getElem hx)
    have h1 := hcell _ _ (List.getElem?_eq_getElem hx)
    rw [h0] at h1
    exact h1
  clear hyp hpt hcell
  have HL := Lib.hid hl
  clear hv hr hu
  go_enter Tryz.func104, Tryz.ntmps104
  go_wp2_with fail
  go_quiet (first
    | (go_at_call 72; with_reducible exact Calls.quiet_of_same (leGet_v (R1.out.drewN _) l1 E1.out))
    | (go_at_call 72; with_reducible exact Calls.quiet_of_same (leGet_v (R2.out.drewN _) l2 E2.out)))
  go_wp2_with fail
  refine (openV (HV.out.drewN nq) HL.out HOK.out).mono ?_
  rintro e w1 ⟨⟨A1, n1, c1, rfl⟩, hb1⟩
  have HB1 : Hid (Below w.heap.size w w1) := (below_drewN (Below.refl _ _) nq).trans hb1
  clear hb1
  go_wp2_with fail
  go_quiet (fail)
  go_wp2_with fail
  go_loopw [46] (fun i wr => ∃ j : Nat, j ≤ z ∧ i = .int .i64 j ∧ wr = w1.drewN nq) (fun i wr => z - (intOf i).toNat)
  case atStart => exact ⟨0, Nat.zero_le _, rfl, rfl⟩
  case round =>
    obtain ⟨j, hj, rfl, rfl⟩ := hrel
    by_cases hjz : j < z
    · have hcj : (w1.drewN nq).cell? ⟨b, 14 + u + j, none⟩ = some (.int .u8 0) := ((below_drewN HB1.out nq).cell (p := ⟨b, 14 + u + j, none⟩) hb).trans (HGAP.out j hjz)
      have hcj2 : w1.cell? ⟨b, 14 + u + j, none⟩ = some (.int .u8 0) := (HB1.out.cell (p := ⟨b, 14 + u + j, none⟩) hb).trans (HGAP.out j hjz)
      have hji : (j : Int) < (z : Int) := by omega
      go_wp2_with fail
      go_roundw
      case rel => exact ⟨j + 1, by omega, by go_num, by first | rfl | trivial⟩
      case measure => simp [intOf]; omega
    · obtain rfl : j = z := by omega
      go_wp2_with fail
      go_ret3
      have hbw := below_drewN HB1.out nq
      exact ⟨hbw, .inr ⟨HLG.out, _, _, by rw [← HR.out, ← HU.out]; rfl, by rw [← HU.out]; exact (HPT.out.below hbw).more hbw.size⟩⟩

set_option maxRecDepth 100000 in
set_option maxHeartbeats 1000000 in
theorem parse_gap (w : World) (b : Nat) (l : List Nat) (hv : RB w w.heap.size (.slice (some ⟨b, 0, none⟩) 512 512) l) (hl : l.length = 512) (hb : b < w.heap.size) (hyp : 1 ≤ runOf l ∧ runOf l ≤ 274877906944 ∧ usedOf l ≤ 498 ∧ openOk l = true ∧ usedOf l < 498 ∧ ¬ isLog l ∧ ∃ j0 x, 14 + usedOf l + j0 < 512 ∧ l[14 + usedOf l + j0]? = some x ∧ x ≠ 0 ∧ ∀ j, j < j0 → l[14 + usedOf l + j]? = some 0) :
    Calls Tryz.prog 104 #[.slice (some ⟨b, 0, none⟩) 512 512] w (ParseOut w l) := by
  have HV := Lib.hid hv
  obtain ⟨r, hr⟩ : ∃ r, r = runOf l := ⟨_, rfl⟩
  obtain ⟨u, hu⟩ : ∃ u, u = usedOf l := ⟨_, rfl⟩
  have R1 : Hid (RB w w.heap.size (.slice (some ⟨b, 4, none⟩) 8 508) ((l.drop 4).take 8)) := by
    have h := hv.sub (lo := 4) (m := 8) (c' := 508) (by omega) (by omega) (by omega)
    rw [Nat.zero_add] at h; exact h
  have R2 : Hid (RB w w.heap.size (.slice (some ⟨b, 12, none⟩) 2 500) ((l.drop 12).take 2)) := by
    have h := hv.sub (lo := 12) (m := 2) (c' := 500) (by omega) (by omega) (by omega)
    rw [Nat.zero_add] at h; exact h
  have l1 : ((l.drop 4).take 8).length ≤ 8 := by rw [List.length_take]; omega
  have l2 : ((l.drop 12).take 2).length ≤ 8 := by rw [List.length_take]; omega
  have E1 : Hid (leV ((l.drop 4).take 8) = r) := Lib.hid hr.symm
  have E2 : Hid (leV ((l.drop 12).take 2) = u) := Lib.hid hu.symm
  have hu16 : u < 65536 := by
    have h := leV_lt ((l.drop 12).take 2) (fun x hx => hv.1 x (List.mem_of_mem_drop (List.mem_of_mem_take hx)))
    have h2 : ((l.drop 12).take 2).length = 2 := by rw [List.length_take, List.length_drop]; omega
    rw [h2] at h
    have h3 : u = leV ((l.drop 12).take 2) := hu
    omega
  rw [← hr] at hyp
  rw [← hu] at hyp
  have HR := Lib.hid hr
  have HU := Lib.hid hu
  have g1 : ¬ (r : Int) < 1 := by omega
  have g2 : ¬ (274877906944 : Int) < (r : Int) := by omega
  have g3 : ¬ (498 : Int) < (u : Int) := by omega
  have HOK : Hid (openOk l = true) := Lib.hid hyp.2.2.2.1
  have hwu : IntKind.u64.wrap (14 + (u : Int)) = 14 + (u : Int) := by rw [IntKind.wrap_u64]; omega
  have htn : (14 + (u : Int)).toNat = 14 + u := by omega
  have hwr : IntKind.i64.wrap (r : Int) = (r : Int) := by rw [IntKind.wrap_i64]; omega
  have hb0 : (14 : Int) ≤ 14 + (u : Int) := by omega
  have hb2 : 14 + (u : Int) ≤ 512 := by omega
  have hb3 : (0 : Int) ≤ 14 + (u : Int) := by omega
  have hlt498 : u < 498 := hyp.2.2.2.2.1
  have hne : ¬ 512 = 14 + u := by omega
  have hne2 : ¬ 14 + u = 512 := by omega
  obtain ⟨z, hz⟩ : ∃ z, 512 - (14 + u) = z := ⟨_, rfl⟩
  have hpt : RB w w.heap.size (.slice (some ⟨b, 14, none⟩) u 498) (partOf l) := by
    have h := hv.sub (lo := 14) (m := u) (c' := 498) (by omega) (by omega) (by omega)
    rw [Nat.zero_add] at h
    unfold partOf
    rw [← hu]; exact h
  have HPT := Lib.hid hpt
  have HLG : Hid (¬ isLog l) := Lib.hid hyp.2.2.2.2.2.1
  have hcell : ∀ j x : Nat, l[j]? = some x → w.cell? ⟨b, j, none⟩ = some (.int .u8 (x : Int)) := fun j x hx => by
    obtain ⟨_, _, A, c0, e, _, _, h5⟩ := hv
    injection e with e _ _
    rcases h5 with h5 | ⟨b', off, e', _, hx'⟩
    · rw [h5] at hx; cases hx
    · rw [← e] at e'
      injection e' with e'
      injection e' with e4 e5
      subst e4 e5
      have := hx' j x hx
      rw [Nat.zero_add] at this; exact this
  obtain ⟨j0, x0, hj0, hx0, hxn, hbefore⟩ := hyp.2.2.2.2.2.2
  have HG0 : Hid (w.cell? ⟨b, 14 + u + j0, none⟩ = some (.int .u8 (x0 : Int))) := Lib.hid (hcell _ _ hx0)
  have HGAP : Hid (∀ j, j < j0 → w.cell? ⟨b, 14 + u + j, none⟩ = some (.int .u8 0)) := Lib.hid fun j hj => hcell _ 0 (hbefore j hj)
  have hj0z : j0 < z := by omega
  have hxn2 : ¬ (x0 : Int) = 0 := by omega
  have hxn3 : ((x0 : Int) == 0) = false := by simp; omega
  clear hyp hpt hcell hx0 hbefore
  have HL := Lib.hid hl
  clear hv hr hu
  go_enter Tryz.func104, Tryz.ntmps104
  go_wp2_with fail
  go_quiet (first
    | (go_at_call 72; with_reducible exact Calls.quiet_of_same (leGet_v (R1.out.drewN _) l1 E1.out))
    | (go_at_call 72; with_reducible exact Calls.quiet_of_same (leGet_v (R2.out.drewN _) l2 E2.out)))
  go_wp2_with fail
  refine (openV (HV.out.drewN nq) HL.out HOK.out).mono ?_
  rintro e w1 ⟨⟨A1, n1, c1, rfl⟩, hb1⟩
  have HB1 : Hid (Below w.heap.size w w1) := (below_drewN (Below.refl _ _) nq).trans hb1
  clear hb1
  go_wp2_with fail
  go_quiet (fail)
  go_wp2_with fail
  go_loopw [46] (fun i wr => ∃ j : Nat, j ≤ j0 ∧ i = .int .i64 j ∧ wr = w1.drewN nq) (fun i wr => z - (intOf i).toNat)
  case atStart => exact ⟨0, Nat.zero_le _, rfl, rfl⟩
  case round =>
    obtain ⟨j, hj, rfl, rfl⟩ := hrel
    by_cases hjz : j < j0
    · have hcj : (w1.drewN nq).cell? ⟨b, 14 + u + j, none⟩ = some (.int .u8 0) := ((below_drewN HB1.out nq).cell (p := ⟨b, 14 + u + j, none⟩) hb).trans (HGAP.out j hjz)
      have hcj2 : w1.cell? ⟨b, 14 + u + j, none⟩ = some (.int .u8 0) := (HB1.out.cell (p := ⟨b, 14 + u + j, none⟩) hb).trans (HGAP.out j hjz)
      have hji : (j : Int) < (z : Int) := by omega
      have hji2 : j < z := by omega
      go_wp2_with fail
      go_roundw
      case rel => exact ⟨j + 1, by omega, by go_num, by first | rfl | trivial⟩
      case measure => simp [intOf]; omega
    · obtain rfl : j = j0 := by omega
      have hcj : (w1.drewN nq).cell? ⟨b, 14 + u + j, none⟩ = some (.int .u8 (x0 : Int)) := ((below_drewN HB1.out nq).cell (p := ⟨b, 14 + u + j, none⟩) hb).trans HG0.out
      have hcj2 : w1.cell? ⟨b, 14 + u + j, none⟩ = some (.int .u8 (x0 : Int)) := (HB1.out.cell (p := ⟨b, 14 + u + j, none⟩) hb).trans HG0.out
      have hji : (j : Int) < (z : Int) := by omega
      go_wp2_with fail
      go_ret3
      exact ⟨below_drewN HB1.out nq, .inl ⟨HLG.out, by first | rfl | trivial⟩⟩

theorem least_not {P : Nat → Prop} : ∀ n, (∃ j, j < n ∧ ¬ P j) → ∃ j, j < n ∧ ¬ P j ∧ ∀ i, i < j → P i
  | 0, ⟨j, h, _⟩ => by omega
  | n + 1, ⟨j, h, hj⟩ => by
    by_cases hn : ∃ j, j < n ∧ ¬ P j
    · obtain ⟨i, h1, h2, h3⟩ := least_not n hn
      exact ⟨i, by omega, h2, h3⟩
    · refine ⟨j, h, hj, fun i hi => ?_⟩
      by_cases hp : P i
      · exact hp
      · exact absurd ⟨i, by omega, hp⟩ hn

theorem parse_any (w : World) (b : Nat) (l : List Nat) (hv : RB w w.heap.size (.slice (some ⟨b, 0, none⟩) 512 512) l) (hl : l.length = 512) (hb : b < w.heap.size) :
    Calls Tryz.prog 104 #[.slice (some ⟨b, 0, none⟩) 512 512] w (ParseOut w l) := by
  by_cases h1 : runOf l < 1
  · exact parse_low w b l hv hl hb h1
  by_cases h2 : 274877906944 < runOf l
  · exact parse_high w b l hv hl hb h2
  by_cases h3 : 498 < usedOf l
  · exact parse_long w b l hv hl hb ⟨by omega, by omega, h3⟩
  cases h4 : openOk l with
  | false => exact log_parse_sum w b l hv hl hb ⟨by omega, by omega, by omega, h4⟩
  | true =>
    by_cases h5 : usedOf l = 498
    · refine parse_yes_z w b l hv hl hb ⟨by omega, by omega, by omega, h4, h5, by omega, by omega, by omega, h4, fun j x hj hx => ?_⟩
      have := (List.getElem?_eq_some_iff.1 hx).1
      omega
    · by_cases h6 : ∃ j, j < 512 - (14 + usedOf l) ∧ ¬ l[14 + usedOf l + j]? = some 0
      · obtain ⟨j0, hj, hn, hbf⟩ := least_not _ h6
        have hlt : 14 + usedOf l + j0 < l.length := by omega
        have hx := List.getElem?_eq_getElem hlt
        have hne : l[14 + usedOf l + j0] ≠ 0 := fun e => hn (by rw [hx, e])
        refine parse_gap w b l hv hl hb ⟨by omega, by omega, by omega, h4, by omega, fun hlog => hne (hlog.2.2.2.2 _ _ (by omega) hx), j0, _, by omega, hx, hne, hbf⟩
      · refine parse_yes w b l hv hl hb ⟨by omega, by omega, by omega, h4, by omega, by omega, by omega, by omega, h4, fun j x hj hx => ?_⟩
        have hjl := (List.getElem?_eq_some_iff.1 hx).1
        have h7 : l[14 + usedOf l + (j - (14 + usedOf l))]? = some 0 := by
          by_cases hp : l[14 + usedOf l + (j - (14 + usedOf l))]? = some 0
          · exact hp
          · exact absurd ⟨_, by omega, hp⟩ h6
        rw [show 14 + usedOf l + (j - (14 + usedOf l)) = j by omega, hx] at h7
        exact Option.some.inj h7

end Go.Proofs.YtbagmmncjmbboaaGreat

/-
  The log's small functions on the disk: areThere, save, Format.
-/
namespace Go.Proofs.YtbagmmncjmbboaaGreat
open Go.RowKit Go.Maps
set_option linter.unusedVariables false

def thereB (n : Nat) (first count : Int) : Bool := decide (0 ≤ first) && (decide (1 ≤ count) && decide (count ≤ n - first))

theorem areThere_any (w : World) (p sb mb : Nat) (pl : Option Nat) (s : DS) (first count : Int) (h : DiskAt w p sb mb pl s) (hi : I64 first) :
    Calls Tryz.prog 75 #[.pointer (some ⟨p, 0, none⟩), .int .i64 first, .int .i64 count] w fun e w' => e = .returned (.bool (thereB s.safe.length first count)) ∧ w = w' := by
  have hn := h.ok.num
  have H := Lib.hid h
  obtain ⟨hi1, hi2⟩ := hi
  clear h
  by_cases h0 : 0 ≤ first
  · have hw : IntKind.i64.wrap ((s.safe.length : Int) - first) = (s.safe.length : Int) - first := by rw [IntKind.wrap_i64]; omega
    by_cases h1 : 1 ≤ count
    · go_enter Tryz.func75, Tryz.ntmps75
      go_wp2_with fail
      refine (Size_any w p sb mb pl s H.out).mono ?_
      rintro e w1 ⟨rfl, rfl⟩
      go_wp2_with fail
      go_ret
      refine ⟨?_, rfl⟩
      unfold thereB
      simp [h0, h1]
    · have hE : Hid (thereB s.safe.length first count = false) := Lib.hid (by unfold thereB; simp [h1])
      go_enter Tryz.func75, Tryz.ntmps75
      go_wp2_with fail
      go_ret
      exact ⟨by rw [hE.out]; rfl, rfl⟩
  · have hE : Hid (thereB s.safe.length first count = false) := Lib.hid (by unfold thereB; simp [h0])
    go_enter Tryz.func75, Tryz.ntmps75
    go_wp2_with fail
    go_ret
    exact ⟨by rw [hE.out]; rfl, rfl⟩

/-- The i-th sector of a stream. -/
def sect (run : Nat) (st : List Nat) (i : Nat) : List Nat := secL run ((st.drop (i * 498)).take 498)

/-- save from the i-th sector on, n sectors at most: the disk behind it, and what it answers. -/
def DS.save (run : Nat) (first : Int) (st : List Nat) : Nat → Nat → DS → DS × Int
  | 0, _, s => (s, 0)
  | n + 1, i, s =>
    if s.writeE (first + i) (sect run st i) = 0 then
      if st.length ≤ (i + 1) * 498 then ((s.write (first + i) (sect run st i)).sync, (s.write (first + i) (sect run st i)).syncE)
      else DS.save run first st n (i + 1) (s.write (first + i) (sect run st i))
    else (s.write (first + i) (sect run st i), s.writeE (first + i) (sect run st i))

theorem save_fail {run n i : Nat} {first : Int} {st : List Nat} {s : DS} (h : ¬ s.writeE (first + i) (sect run st i) = 0) : DS.save run first st (n + 1) i s = (s.write (first + i) (sect run st i), s.writeE (first + i) (sect run st i)) := by
  simp only [DS.save]; rw [if_neg h]

theorem save_last {run n i : Nat} {first : Int} {st : List Nat} {s : DS} (h : s.writeE (first + i) (sect run st i) = 0) (h2 : st.length ≤ (i + 1) * 498) : DS.save run first st (n + 1) i s = ((s.write (first + i) (sect run st i)).sync, (s.write (first + i) (sect run st i)).syncE) := by
  simp only [DS.save]; rw [if_pos h, if_pos h2]

theorem save_next {run n i : Nat} {first : Int} {st : List Nat} {s : DS} (h : s.writeE (first + i) (sect run st i) = 0) (h2 : ¬ st.length ≤ (i + 1) * 498) : DS.save run first st (n + 1) i s = DS.save run first st n (i + 1) (s.write (first + i) (sect run st i)) := by
  simp only [DS.save]; rw [if_pos h, if_neg h2]

theorem write_steps5 (s : DS) (i : Int) (l : List Nat) : (s.write i l).steps ≤ s.steps + 1 := by
  unfold DS.write DS.step DS.tick DS.put
  repeat' split
  all_goals simp

theorem take_piece (st : List Nat) (k e : Nat) (h : e = min ((k + 1) * 498) st.length) : (st.drop (k * 498)).take (e - k * 498) = (st.drop (k * 498)).take 498 := by
  subst h
  by_cases h1 : (k + 1) * 498 ≤ st.length
  · rw [Nat.min_eq_left h1, show (k + 1) * 498 - k * 498 = 498 by omega]
  · rw [Nat.min_eq_right (by omega), List.take_of_length_le (by rw [List.length_drop]; omega), List.take_of_length_le (by rw [List.length_drop]; omega)]

theorem off_new {w : World} {B p : Nat} {v : Value} {l : List Nat} (h : OB w B v l) (hp : p < B) : Off (fun k => k = p) v l := .inr fun b hb e => by
  have := (h.lt b hb).1
  dsimp only at e
  omega

end Go.Proofs.YtbagmmncjmbboaaGreat

/-
  The walk of wal's save.
-/
namespace Go.Proofs.YtbagmmncjmbboaaGreat
open Go.RowKit Go.Maps
set_option linter.unusedVariables false

set_option maxRecDepth 100000 in
set_option maxHeartbeats 1000000 in
theorem save_some (w : World) (p sb mb b o n0 c : Nat) (pl : Option Nat) (s : DS) (first : Int) (run : Nat) (st : List Nat) (n at0 : Nat) (h : DiskAt w p sb mb pl s) (hst : s.steps < 1000000000000000) (hv : RB w w.heap.size (.slice (some ⟨b, o, none⟩) n0 c) st) (hvo : Off (Own p sb mb) (.slice (some ⟨b, o, none⟩) n0 c) st)
    (hn0 : n0 = st.length) (hb : ¬ Own p sb mb b) (hf : 0 ≤ first ∧ first ≤ 1000000) (hr : run < 9223372036854775808) (hlen : st.length ≤ 4000000) (h1 : at0 * 498 < st.length) (h2 : st.length ≤ (at0 + n) * 498) (hn : n ≤ 4000000) :
    Calls Tryz.prog 76 #[.pointer (some ⟨p, 0, none⟩), .int .i64 first, .int .i64 (run : Int), .slice (some ⟨b, o, none⟩) n0 c, .int .i64 (at0 : Int)] w fun e w' => e = .returned (.int .i64 (DS.save run first st n at0 s).2) ∧ DiskAt w' p sb mb pl (DS.save run first st n at0 s).1 ∧ Mod (Own p sb mb) w w' := by
  have HV := Lib.hid hv
  have HVO := Lib.hid hvo
  have H := Lib.hid h
  have HST := Lib.hid hst
  have HBO := Lib.hid hb
  have hplt := h.lt
  obtain ⟨hv1, hv2, hv3⟩ : st.length ≤ c ∧ c ≤ 9223372036854775807 ∧ True := by
    obtain ⟨_, _, A, c0, e, h3, h4, _⟩ := hv
    injection e with e1 e2 e3
    subst e3
    exact ⟨h3, h4, trivial⟩
  obtain ⟨T, hT⟩ : ∃ T, T = DS.save run first st n at0 s := ⟨_, rfl⟩
  have HT := Lib.hid hT
  obtain ⟨q, hq⟩ : ∃ q, q = st.length := ⟨_, rfl⟩
  rw [← hT]
  rw [← hq] at hn0 h1 h2 hlen hv1
  subst hn0
  have HQ := Lib.hid hq
  clear hv hvo h hst hb hT hq
  go_enter Tryz.func76, Tryz.ntmps76
  go_wp2_with fail
  go_loopw [11] (fun i wr => ∃ (k : Nat) (s' : DS), i = .int .i64 k ∧ at0 ≤ k ∧ k < at0 + n ∧ k * 498 < n0 ∧ Hid (DiskAt wr p sb mb pl s') ∧ Hid (s'.steps ≤ s.steps + (k - at0)) ∧ Hid (DS.save run first st (at0 + n - k) k s' = T) ∧ Hid (Mod (Own p sb mb) w wr)) (fun i wr => at0 + n - (intOf i).toNat)
  case atStart => exact ⟨at0, s, rfl, Nat.le_refl _, by omega, h1, H, Lib.hid (by omega), Lib.hid (by rw [show at0 + n - at0 = n by omega]; exact HT.out.symm), Lib.hid (Mod.refl _ _)⟩
  case round =>
    obtain ⟨k, s', rfl, hk1, hk2, hk3, HD, HS, HE, HM⟩ := hrel
    obtain ⟨e, he⟩ : ∃ e, e = min ((k + 1) * 498) n0 := ⟨_, rfl⟩
    have hmin : ∀ W ty, (Builtin.min_ #[3, 3] ty #[.int .i64 (((k : Int) + 1) * 498), .int .i64 (n0 : Int)]).run Tryz.prog W = .ok (.int .i64 (e : Int)) W := by
      intro W ty
      simp [Builtin.min_, Builtin.min2, List.foldlM]
      split <;> omega
    have he1 : k * 498 ≤ e := by omega
    have he2 : e ≤ n0 := by omega
    have he3 : e - k * 498 ≤ 498 := by omega
    have HEQ := Lib.hid he
    clear he
    have hRV : Hid (RB wr wr.heap.size (.slice (some ⟨b, o, none⟩) n0 c) st) := Lib.hid (HV.out.mod HM.out HVO.out)
    have hpart : Hid (RB wr wr.heap.size (.slice (some ⟨b, o + k * 498, none⟩) (e - k * 498) (c - k * 498)) ((st.drop (k * 498)).take 498)) := Lib.hid (by
      have h := hRV.out.sub (lo := k * 498) (m := e - k * 498) (c' := c - k * 498) (by rw [← HQ.out]; omega) (by omega) (by omega)
      rw [take_piece st k e (by rw [HEQ.out, HQ.out])] at h
      exact h)
    have hpl : Hid (((st.drop (k * 498)).take 498).length ≤ 498) := Lib.hid (by rw [List.length_take]; omega)
    have hfi : IntKind.i64.wrap (first + (k : Int)) = first + (k : Int) := by rw [IntKind.wrap_i64]; omega
    have hwz := HM.out.size
    go_wp2_with fail
    refine (sectorOf_any wr run _ _ hr hpart.out hpl.out).mono ?_
    rintro e1 w1 ⟨v1, rfl, ho1, hb1⟩
    have HD1 : Hid (DiskAt w1 p sb mb pl s') := Lib.hid (HD.out.below hb1)
    have HO1 := Lib.hid ho1
    have HB1 := Lib.hid hb1
    have hoff : Hid (Off (fun k => k = p) v1 (sect run st k)) := Lib.hid (off_new ho1 (by omega))
    obtain ⟨A1, c1, rfl, -, -, -, -⟩ := ho1.rbn.open_
    clear ho1 hb1
    go_wp2_with fail
    refine (Write_any w1 p sb mb pl s' (first + k) _ (sect run st k) HD1.out (by have := HS.out; have := HST.out; omega) HO1.out.rbn hoff.out).mono ?_
    rintro e2 w2 ⟨rfl, hd2, hm2⟩
    have HD2 := Lib.hid hd2
    have HM2 : Hid (Mod (Own p sb mb) w w2) := Lib.hid ((HM.out.trans' (Mod.of_below HB1.out (Own p sb mb))).trans' hm2)
    have HS2 : Hid ((s'.write (first + k) (sect run st k)).steps ≤ s.steps + (k - at0) + 1) := Lib.hid (by have := write_steps5 s' (first + k) (sect run st k); have := HS.out; omega)
    clear hd2 hm2
    obtain ⟨m, hm⟩ : ∃ m, at0 + n - k = m + 1 := ⟨at0 + n - k - 1, by omega⟩
    by_cases hwE : s'.writeE (first + k) (sect run st k) = 0
    · by_cases hend : n0 ≤ (k + 1) * 498
      · have heq : e = n0 := by have := HEQ.out; omega
        have HT2 : Hid (((s'.write (first + k) (sect run st k)).sync, (s'.write (first + k) (sect run st k)).syncE) = T) := Lib.hid (by rw [← HE.out, hm, save_last hwE (by rw [← HQ.out]; exact hend)])
        subst heq
        go_wp2_with fail
        refine (Sync_any w2 p sb mb pl _ HD2.out (by have := HS2.out; have := HST.out; omega)).mono ?_
        rintro e3 w3 ⟨rfl, hd3, hm3⟩
        have HD3 := Lib.hid hd3
        have HM3 := Lib.hid (HM2.out.trans' hm3)
        clear hd3 hm3
        go_wp2_with fail
        go_ret
        exact ⟨by rw [← HT2.out]; rfl, by rw [← HT2.out]; exact HD3.out, HM3.out⟩
      · have hne : ¬ e = n0 := by have := HEQ.out; omega
        have hnei : ¬ (e : Int) = (n0 : Int) := by omega
        have HT2 : Hid (DS.save run first st m (k + 1) (s'.write (first + k) (sect run st k)) = T) := Lib.hid (by rw [← HE.out, hm, save_next hwE (by rw [← HQ.out]; exact hend)])
        go_wp2_with fail
        go_roundw
        case rel => exact ⟨k + 1, _, by go_num, by omega, by omega, by omega, HD2, Lib.hid (by have := HS2.out; omega), Lib.hid (by rw [show at0 + n - (k + 1) = m by omega]; exact HT2.out), HM2⟩
        case measure => simp [intOf]; omega
    · have HT2 : Hid ((s'.write (first + k) (sect run st k), s'.writeE (first + k) (sect run st k)) = T) := Lib.hid (by rw [← HE.out, hm, save_fail hwE])
      go_wp2_with fail
      go_ret
      exact ⟨by rw [← HT2.out]; rfl, by rw [← HT2.out]; exact HD2.out, HM2.out⟩

set_option maxRecDepth 100000 in
set_option maxHeartbeats 1000000 in
theorem save_nil (w : World) (p sb mb : Nat) (pl : Option Nat) (s : DS) (first : Int) (run : Nat) (h : DiskAt w p sb mb pl s) (hst : s.steps < 1000000000000000) (hf : 0 ≤ first ∧ first ≤ 1000000) (hr : run < 9223372036854775808) :
    Calls Tryz.prog 76 #[.pointer (some ⟨p, 0, none⟩), .int .i64 first, .int .i64 (run : Int), .slice none 0 0, .int .i64 0] w fun e w' => e = .returned (.int .i64 (DS.save run first [] 1 0 s).2) ∧ DiskAt w' p sb mb pl (DS.save run first [] 1 0 s).1 ∧ Mod (Own p sb mb) w w' := by
  have H := Lib.hid h
  have HST := Lib.hid hst
  have hplt := h.lt
  obtain ⟨T, hT⟩ : ∃ T, T = DS.save run first [] 1 0 s := ⟨_, rfl⟩
  have HT := Lib.hid hT
  rw [← hT]
  clear h hst hT
  have hmin : ∀ W ty, (Builtin.min_ #[3, 3] ty #[.int .i64 498, .int .i64 0]).run Tryz.prog W = .ok (.int .i64 0) W := by
    intro W ty
    simp [Builtin.min_, Builtin.min2, List.foldlM]
  have hpart : Hid (RB w w.heap.size (.slice none 0 0) []) := Lib.hid (RB.nil _ _)
  have hfi : IntKind.i64.wrap (first + ((0 : Nat) : Int)) = first + ((0 : Nat) : Int) := by rw [IntKind.wrap_i64]; omega
  have hfi2 : IntKind.i64.wrap first = first := by rw [IntKind.wrap_i64]; omega
  have hse : Hid (secL run [] = sect run [] 0) := Lib.hid (by unfold sect; rfl)
  go_enter Tryz.func76, Tryz.ntmps76
  go_wp2_with fail
  go_loopw [11] (fun i wr => i = .int .i64 0 ∧ wr = w) (fun i wr => 0)
  case atStart => exact ⟨rfl, rfl⟩
  case round =>
    obtain ⟨rfl, rfl⟩ := hrel
    go_wp2_with fail
    refine (sectorOf_any wr run _ _ hr hpart.out (by simp)).mono ?_
    rw [hse.out]
    rintro e1 w1 ⟨v1, rfl, ho1, hb1⟩
    have HD1 : Hid (DiskAt w1 p sb mb pl s) := Lib.hid (H.out.below hb1)
    have HO1 := Lib.hid ho1
    have HB1 := Lib.hid hb1
    have hoff : Hid (Off (fun k => k = p) v1 (sect run [] 0)) := Lib.hid (off_new ho1 (by omega))
    obtain ⟨A1, c1, rfl, -, -, -, -⟩ := ho1.rbn.open_
    clear ho1 hb1
    go_wp2_with fail
    refine (Write_any w1 p sb mb pl s first _ (sect run [] 0) HD1.out (by have := HST.out; omega) HO1.out.rbn hoff.out).mono ?_
    rintro e2 w2 ⟨rfl, hd2, hm2⟩
    have HD2 := Lib.hid hd2
    have HM2 : Hid (Mod (Own p sb mb) wr w2) := Lib.hid ((Mod.of_below HB1.out (Own p sb mb)).trans' hm2)
    have HS2 : Hid ((s.write first (sect run [] 0)).steps ≤ s.steps + 1) := Lib.hid (write_steps5 s first (sect run [] 0))
    clear hd2 hm2
    have hz : first + ((0 : Nat) : Int) = first := by omega
    by_cases hwE : s.writeE first (sect run [] 0) = 0
    · have HT2 : Hid (((s.write first (sect run [] 0)).sync, (s.write first (sect run [] 0)).syncE) = T) := Lib.hid (by rw [HT.out, save_last (by rw [hz]; exact hwE) (by simp), hz])
      clear hz
      go_wp2_with fail
      refine (Sync_any w2 p sb mb pl _ HD2.out (by have := HS2.out; have := HST.out; omega)).mono ?_
      rintro e3 w3 ⟨rfl, hd3, hm3⟩
      have HD3 := Lib.hid hd3
      have HM3 := Lib.hid (HM2.out.trans' hm3)
      clear hd3 hm3
      go_wp2_with fail
      go_ret
      exact ⟨by rw [← HT2.out]; rfl, by rw [← HT2.out]; exact HD3.out, HM3.out⟩
    · have HT2 : Hid ((s.write first (sect run [] 0), s.writeE first (sect run [] 0)) = T) := Lib.hid (by rw [HT.out, save_fail (by rw [hz]; exact hwE), hz])
      clear hz
      go_wp2_with fail
      go_ret
      exact ⟨by rw [← HT2.out]; rfl, by rw [← HT2.out]; exact HD2.out, HM2.out⟩

/-- Format: the disk behind it, and what it answers. -/
def DS.format (first count : Int) (s : DS) : DS × Int := if thereB s.safe.length first count then DS.save 1 first [] 1 0 s else (s, 1)

set_option maxRecDepth 100000 in
theorem Format_any (w : World) (p sb mb : Nat) (pl : Option Nat) (s : DS) (first count : Int) (h : DiskAt w p sb mb pl s) (hst : s.steps < 1000000000000000) (hi : I64 first) :
    Calls Tryz.prog 40 #[.pointer (some ⟨p, 0, none⟩), .int .i64 first, .int .i64 count] w fun e w' => e = .returned (.int .i64 (DS.format first count s).2) ∧ DiskAt w' p sb mb pl (DS.format first count s).1 ∧ Mod (Own p sb mb) w w' := by
  have H := Lib.hid h
  have HN := Lib.hid h.ok.num
  have HST := Lib.hid hst
  have HI := Lib.hid hi
  clear h hst hi
  cases hb : thereB s.safe.length first count with
  | true =>
    have e1 : Hid (DS.format first count s = DS.save 1 first [] 1 0 s) := Lib.hid (by unfold DS.format; rw [if_pos hb])
    have hf : Hid (0 ≤ first ∧ first ≤ 1000000) := Lib.hid (by
      have := HN.out
      unfold thereB at hb
      simp only [Bool.and_eq_true, decide_eq_true_eq] at hb
      omega)
    have HB := Lib.hid hb
    clear hb
    go_enter Tryz.func40, Tryz.ntmps40
    go_wp2_with fail
    refine (areThere_any w p sb mb pl s first count H.out HI.out).mono ?_
    rw [HB.out]
    rintro e w1 ⟨rfl, rfl⟩
    go_wp2_with fail
    refine (save_nil w p sb mb pl s first 1 H.out HST.out hf.out (by omega)).mono ?_
    rw [← e1.out]
    rintro e w1 ⟨rfl, hd, hm⟩
    have HD := Lib.hid hd
    have HM := Lib.hid hm
    clear hd hm
    go_wp2_with fail
    go_ret
    exact ⟨rfl, HD.out, HM.out⟩
  | false =>
    have e1 : Hid (DS.format first count s = (s, 1)) := Lib.hid (by unfold DS.format; rw [hb]; rfl)
    have HB := Lib.hid hb
    clear hb
    go_enter Tryz.func40, Tryz.ntmps40
    go_wp2_with fail
    refine (areThere_any w p sb mb pl s first count H.out HI.out).mono ?_
    rw [HB.out]
    rintro e w1 ⟨rfl, rfl⟩
    go_wp2_with fail
    go_ret
    exact ⟨by rw [e1.out]; rfl, by rw [e1.out]; exact H.out, Mod.refl _ _⟩

end Go.Proofs.YtbagmmncjmbboaaGreat
