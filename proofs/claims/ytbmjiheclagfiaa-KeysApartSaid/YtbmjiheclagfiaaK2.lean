/-
  The walks of the reference's Name, class, four, value4; of keys.addId and getId.
-/
import Derived.Test.YtbmjiheclagfiaaK1
import Derived.Test.YtbmjiheclagfiaaN6
namespace Go.Proofs.Ytbmjiheclagfiaa
open Go.RowKit
set_option linter.unusedVariables false

set_option maxHeartbeats 400000 in
theorem rname_any (s : ByteArray) (w : World) (hs : s.size ≤ 9223372036854775807) : Calls Try.prog 18 #[.string s] w fun e w' => e = .returned (.bool (nameB s)) ∧ w = w' := by
  by_cases h0 : 1 ≤ s.size
  · by_cases h1 : s.size ≤ 16
    · have d1 : decide ((s.size : Int) < 1) = false := decide_eq_false (by omega)
      have d2 : decide (16 < (s.size : Int)) = false := decide_eq_false (by omega)
      have d1' : decide (s.size < 1) = false := decide_eq_false (by omega)
      have d2' : decide (16 < s.size) = false := decide_eq_false (by omega)
      go_enter Try.func18, Try.ntmps18
      go_wp2
      go_loop [3] (fun i => ∃ k : Nat, k ≤ s.size ∧ i = .int .i64 k ∧ Hid (∀ j (hj : j < s.size), j < k → letterB s[j] = true)) (fun i => s.size - (intOf i).toNat)
      case atStart => exact ⟨0, Nat.zero_le _, rfl, fun j hj h => absurd h (by omega)⟩
      case round =>
        obtain ⟨k, hk, rfl, HK⟩ := hrel
        by_cases hlt : k < s.size
        · have hc : s[k].toNat < 256 := UInt8.toNat_lt _
          by_cases hl : letterB s[k] = true
          · have hl1 : 97 ≤ s[k].toNat := (of_decide_eq_true hl).1
            have hl2 : s[k].toNat ≤ 122 := (of_decide_eq_true hl).2
            have HL := Lib.hid hl
            clear hl
            go_wp2
            go_round
            case rel =>
              refine ⟨k + 1, by omega, by go_num, fun j hj h => ?_⟩
              by_cases e : j = k
              · subst e; exact HL.out
              · exact HK.out j hj (by omega)
            case measure => simp [intOf]; omega
          · have hn : Hid (nameB s = false) := nameB_bad k hlt (by simpa using hl)
            have hl' : ¬ (97 ≤ s[k].toNat ∧ s[k].toNat ≤ 122) := fun h => hl (decide_eq_true h)
            clear hl
            by_cases h3 : s[k].toNat < 97
            · clear hl'
              go_wp2
              go_ret
              exact ⟨ret_bool hn.out.symm, rfl⟩
            · have h4 : 122 < s[k].toNat := by omega
              clear hl'
              go_wp2
              go_ret
              exact ⟨ret_bool hn.out.symm, rfl⟩
        · obtain rfl : k = s.size := by omega
          have hn : Hid (nameB s = true) := nameB_good h0 h1 (fun j hj => HK.out j hj hj)
          go_wp2
          go_ret
          exact ⟨ret_bool hn.out.symm, rfl⟩
    · have hn : Hid (nameB s = false) := nameB_short (by omega)
      have d1 : decide ((s.size : Int) < 1) = false := decide_eq_false (by omega)
      have d2 : decide (16 < (s.size : Int)) = true := decide_eq_true (by omega)
      have d1' : decide (s.size < 1) = false := decide_eq_false (by omega)
      have d2' : decide (16 < s.size) = true := decide_eq_true (by omega)
      go_enter Try.func18, Try.ntmps18
      go_wp2
      go_ret
      exact ⟨ret_bool hn.out.symm, rfl⟩
  · have hn : Hid (nameB s = false) := nameB_short (by omega)
    have d1 : decide ((s.size : Int) < 1) = true := decide_eq_true (by omega)
    have d1' : decide (s.size < 1) = true := decide_eq_true (by omega)
    go_enter Try.func18, Try.ntmps18
    go_wp2
    go_ret
    exact ⟨ret_bool hn.out.symm, rfl⟩

def refV (e : Bool) (n : Int) : Value := .agg #[.bool e, .int .i64 n]
def clsN (e : Bool) : Nat := if e then 1 else 0

set_option maxHeartbeats 400000 in
theorem class_any (e : Bool) (n : Int) (w : World) : Calls Try.prog 41 #[refV e n] w fun r w' => r = .returned (.int .u8 (clsN e : Nat)) ∧ Below w.heap.size w w' := by
  unfold refV
  cases e
  · go_enter Try.func41, Try.ntmps41
    go_wp2
    go_ret
    exact ⟨rfl, by go_grown⟩
  · go_enter Try.func41, Try.ntmps41
    go_wp2
    go_ret
    exact ⟨rfl, by go_grown⟩

def idL (n : Nat) : List Nat := [n / 16777216 % 256, n / 65536 % 256, n / 256 % 256, n % 256]
theorem idL_lt (n : Nat) : ∀ x ∈ idL n, x < 256 := by
  intro x hx
  simp [idL] at hx
  rcases hx with rfl | rfl | rfl | rfl <;> omega

set_option maxHeartbeats 400000 in
theorem four_any (n : Nat) (w : World) (hn : n ≤ 2147483647) : Calls Try.prog 42 #[.int .i64 (n : Int)] w fun e w' => ∃ v', e = .returned v' ∧ RB w' w'.heap.size v' (idL n) ∧ Below w.heap.size w w' := by
  go_enter Try.func42, Try.ntmps42
  go_wp2
  go_ret
  exact ⟨_, rfl, by exact RB.lit _ _ _ _ (idL n) 4 _ (by simp) (by simp [bcell, idL]) (idL_lt n) (by simp [idL]) (by simp [idL]), by go_grown⟩

/-- A literal slice of bytes, new and the call's own. -/
theorem OB.lit (w : World) (B g : Nat) (cs : Array Value) (l : List Nat) (n : Nat) (hg : g = w.heap.size) (h : cs.toList = l.map bcell) (hl : ∀ x ∈ l, x < 256) (hn : n = l.length) (hlen : l.length ≤ 1000) (hB : B ≤ w.heap.size) :
    OB (w.alloc (.cells cs 5)) B (.slice (some ⟨g, 0, none⟩) n n) l := by
  subst hg hn
  exact OB.ofRow (cs := cs.toList) ((heap_alloc_new w (.cells cs 5)).trans (by simp)) h rfl hB hl (by omega)

set_option maxHeartbeats 400000 in
theorem addId_any (v : Value) (l : List Nat) (n : Nat) (w : World) (B : Nat) (hv : OB w B v l) (hB : B ≤ w.heap.size) (hl : l.length ≤ 1000) (hn : n ≤ 2147483647) :
    Calls Try.prog 39 #[v, .int .i64 (n : Int)] w fun e w' => ∃ v', e = .returned v' ∧ OB w' B v' (l ++ idL n) ∧ Below B w w' := by
  have HV := Lib.hid hv
  clear hv
  go_enter Try.func39, Try.ntmps39
  go_wp2_with (at_builtin; go_must (refine wpList_app rfl (.tmp 8) (.tmp 20) rfl B _ l rfl (HV.out.alloc _) _ _ (idL n) rfl (by exact RB.lit _ _ _ _ (idL n) 4 _ (by simp) (by simp [bcell, idL]; omega) (idL_lt n) (by simp [idL]) (by simp [idL])) (by simp; omega) (by simp [idL]; omega) ?_); intro v' w2 ho2 hg2 _; have HO2 := Lib.hid ho2; have HG2 := Lib.hid hg2; clear ho2 hg2)
  go_ret
  exact ⟨_, rfl, HO2.out, ((Below.refl B w).alloc hB _).grown HG2.out (by simp; omega) (fun k hk => (HV.out.lt k hk).1)⟩

/-- The number that four bytes from place p on write. -/
def val4 (l : List Nat) (p : Nat) : Nat := acc ((l.drop p).take 4)
theorem val4_step (l : List Nat) (p k : Nat) (h : p + k < l.length) : acc ((l.drop p).take (k + 1)) = acc ((l.drop p).take k) * 256 + l[p + k] := by
  rw [List.take_succ_eq_append_getElem (by rw [List.length_drop]; omega), acc_snoc, List.getElem_drop]
theorem val4_lt (l : List Nat) (p k : Nat) (hl : ∀ x ∈ l, x < 256) (hk : k ≤ 4) : acc ((l.drop p).take k) < 4294967296 := by
  rw [acc_val]
  have h1 := val_lt ((l.drop p).take k) (fun x hx => hl x (List.mem_of_mem_drop (List.mem_of_mem_take hx)))
  have h2 : 256 ^ ((l.drop p).take k).length ≤ 256 ^ 4 := Nat.pow_le_pow_right (by omega) (by rw [List.length_take]; omega)
  omega

set_option maxHeartbeats 400000 in
theorem value4_any (v : Value) (l : List Nat) (p : Nat) (w : World) (B : Nat) (hv : RB w B v l) (hp : p + 4 ≤ l.length) :
    Calls Try.prog 47 #[v, .int .i64 (p : Int)] w fun e w' => e = .returned (.int .i64 (val4 l p : Nat)) ∧ w = w' := by
  have HL := Lib.hid hv.1
  obtain ⟨A, c, rfl, ha1, ha2, ha3, HA⟩ := hv.open_
  clear hv
  go_enter Try.func47, Try.ntmps47
  go_wp2
  go_loop [5, 6] (fun n i => ∃ k : Nat, k ≤ 4 ∧ i = .int .i64 ((p : Int) + (k : Int)) ∧ n = .int .i64 (acc ((l.drop p).take k) : Nat)) (fun n i => p + 4 - (intOf i).toNat)
  case atStart => exact ⟨0, Nat.zero_le _, by simp, rfl⟩
  case round =>
    obtain ⟨k, hk, rfl, rfl⟩ := hrel
    by_cases hlt : k < 4
    · obtain ⟨b1, o1, rfl, hb, hx, hx2⟩ := HA.out (p + k) (by omega)
      have hs := val4_step l p k (by omega)
      have hb1 := val4_lt l p k HL.out (by omega)
      obtain ⟨x, hx0⟩ : ∃ x, x = l[p + k] := ⟨_, rfl⟩
      rw [← hx0] at hx hx2 hs
      have HS := Lib.hid hs
      clear hs hx0
      generalize acc ((l.drop p).take k) = y at hb1 HS ⊢
      go_wp2
      go_round
      case rel => exact ⟨k + 1, by omega, by go_num, by rw [HS.out]; go_num⟩
      case measure => simp [intOf]; omega
    · obtain rfl : k = 4 := by omega
      go_wp2
      go_ret
      exact ⟨rfl, rfl⟩

theorem i64_or_small (a b : Nat) (ha : a < 4611686018427387904) (hb : b < 4611686018427387904) : bits .or .i64 (a : Int) (b : Int) = ((a ||| b : Nat) : Int) := by
  have hx : a ||| b < 2 ^ 62 := Nat.or_lt_two_pow (by omega) (by omega)
  show IntKind.i64.wrap ((BitVec.ofInt 64 (a : Int) ||| BitVec.ofInt 64 (b : Int)).toNat : Int) = _
  rw [BitVec.toNat_or, ofInt_u64 a (by omega), ofInt_u64 b (by omega), IntKind.wrap_i64]
  omega
theorem shl8 (y x : Nat) (hy : y < 16777216) (hx : x < 256) : bits BinOp.or IntKind.i64 ((y : Int) * 256) (x : Int) = ((y * 256 + x : Nat) : Int) := by
  have h := i64_or_small (y * 256) x (by omega) (by omega)
  rw [show ((y : Int) * 256) = ((y * 256 : Nat) : Int) from by simp, h, nat_join 8 (y * 256) x (by omega) (by omega)]

set_option maxHeartbeats 400000 in
theorem getId_any (v : Value) (l : List Nat) (p : Nat) (w : World) (B : Nat) (hv : RB w B v l) (hp : p + 4 ≤ l.length) :
    Calls Try.prog 46 #[v, .int .i64 (p : Int)] w fun e w' => e = .returned (.int .i64 (val4 l p : Nat)) ∧ w = w' := by
  have HL := Lib.hid hv.1
  obtain ⟨A, c, rfl, ha1, ha2, ha3, HA⟩ := hv.open_
  clear hv
  obtain ⟨b, off, rfl⟩ : ∃ b off, A = some ⟨b, off, none⟩ := by obtain ⟨b, o, h, _⟩ := HA.out p (by omega); exact ⟨b, o, h⟩
  have j1 : (p : Int) + 4 ≤ (c : Int) := by omega
  go_enter Try.func46, Try.ntmps46
  go_wp2
  go_loop [5, 14] (fun n i => ∃ k : Nat, k ≤ 4 ∧ i = .int .i64 (k : Int) ∧ n = .int .i64 (acc ((l.drop p).take k) : Nat)) (fun n i => 4 - (intOf i).toNat)
  case atStart => exact ⟨0, Nat.zero_le _, by simp, rfl⟩
  case round =>
    obtain ⟨k, hk, rfl, rfl⟩ := hrel
    by_cases hlt : k < 4
    · obtain ⟨b1, o1, he, hb, hx, hx2⟩ := HA.out (p + k) (by omega)
      injection he with he
      injection he with e1 e2
      subst e1 e2
      have hs := val4_step l p k (by omega)
      have hb1 : acc ((l.drop p).take k) < 16777216 := by
        rw [acc_val]
        have h1 := val_lt ((l.drop p).take k) (fun x hx => HL.out x (List.mem_of_mem_drop (List.mem_of_mem_take hx)))
        have h2 : 256 ^ ((l.drop p).take k).length ≤ 256 ^ 3 := Nat.pow_le_pow_right (by omega) (by rw [List.length_take]; omega)
        omega
      obtain ⟨x, hx0⟩ : ∃ x, x = l[p + k] := ⟨_, rfl⟩
      rw [← hx0] at hx hx2 hs
      have HS := Lib.hid hs
      clear hs hx0
      generalize acc ((l.drop p).take k) = y at hb1 HS ⊢
      have hor := shl8 y x hb1 hx2
      have hx' : w.cell? ⟨b, off + p + k, none⟩ = some (.int .u8 (x : Int)) := by rw [Nat.add_assoc]; exact hx
      go_wp2
      go_round
      case rel => exact ⟨k + 1, by omega, by go_num, by rw [HS.out]; go_num⟩
      case measure => simp [intOf]; omega
    · obtain rfl : k = 4 := by omega
      go_wp2
      go_ret
      exact ⟨rfl, rfl⟩
end Go.Proofs.Ytbmjiheclagfiaa
