/-
  The walk of skeinlaw02.CrcAdds.
-/
import Derived.Test.YtbmjiheclagfiaaL8
import Derived.Deep.RegionLaw
namespace Go.Proofs.Ytbmjiheclagfiaa
open Go.RowKit
set_option linter.unusedVariables false

theorem RB.first' {w : World} {B : Nat} {A : Option Addr} {n c k : Nat} {l : List Nat} (h : RB w B (.slice A n c) l) (hk : k ≤ l.length) : RB w B (.slice A k c) (l.take k) := by
  have e : l.take k ++ l.drop k = l := List.take_append_drop k l
  rw [← e] at h
  have := h.pre
  rwa [List.length_take, Nat.min_eq_left hk] at this
theorem RP.one' {w : World} {B p : Nat} {u : Value} {l : List Nat} (h1 : w.cell? ⟨p, 0, none⟩ = some u) (hu : RB w B u l) : RP w B p 0 [l] := by
  intro i hi
  match i, hi with
  | 0, _ => exact ⟨u, h1, hu⟩
theorem xorL_len (l m : List Nat) (h : l.length = m.length) : (xorL l m).length = l.length := by unfold xorL; rw [List.length_zipWith]; omega
theorem xor3_get (l1 l2 l3 : List Nat) (n k : Nat) (h1 : n ≤ l1.length) (h2 : n ≤ l2.length) (h3 : n ≤ l3.length) (hk : k < n) :
    (xorL (xorL (l1.take n) (l2.take n)) (l3.take n))[k]? = some ((l1[k] ^^^ l2[k]) ^^^ l3[k]) := by
  unfold xorL
  have e1 : (l1.take n)[k]? = some l1[k] := by rw [List.getElem?_take, if_pos hk, List.getElem?_eq_getElem]
  have e2 : (l2.take n)[k]? = some l2[k] := by rw [List.getElem?_take, if_pos hk, List.getElem?_eq_getElem]
  have e3 : (l3.take n)[k]? = some l3[k] := by rw [List.getElem?_take, if_pos hk, List.getElem?_eq_getElem]
  rw [List.getElem?_zipWith, List.getElem?_zipWith, e1, e2, e3]

theorem step_app1 {w w0 : World} {ops : Array Oper} {o : Oper} {a : Act} {K : Act → World → Prop} {Q : Exit → Act → World → Prop} {E : Prop} (hgd : o.guard = none) (s x : Operand)
    (ho : o.op = .call { callee := .builtin .append, args := #[s, x], argTypes := #[22, 22] })
    (B : Nat) (v : Value) (pre : List Nat) (hs : a.eval s = v) (hown : OB w B v pre) (hbel : Below B w0 w) (hB : B ≤ w0.heap.size)
    (i : Int) (y : Nat) (hi : i = (y : Int)) (hy : y < 256) (hx : a.eval x = .slice (some ⟨w.heap.size, 0, none⟩) 1 1) (hlen : pre.length + 1 ≤ 140737488355328)
    (h : ∀ v' w', OB w' B v' (pre ++ [y]) → Below B w0 w' → K (a.put o.dst v') w') :
    if Region.wanted o (yielded ops a.tmps) = true then Oper.wp Try.prog o a (w.alloc (.cells #[.int .u8 i] 5)) K Q else E := by
  have hsz := hbel.size
  refine step_app hgd s x ho B v pre hs (hown.alloc _) (w.heap.size + 1) _ [y] hx (RB.new1 w _ i y 5 hi hy (by omega)) (by simp; omega) (by simpa using hlen) ?_
  intro v' w' h1 h2 _
  exact h v' w' h1 ((hbel.alloc (by omega) _).grown h2 (by simp; omega) (fun k hk => (hown.lt k hk).1))
theorem min3 (a b c : Nat) : ∃ n : Nat, (if (c : Int) < (if (b : Int) < (a : Int) then (b : Int) else (a : Int)) then (c : Int) else (if (b : Int) < (a : Int) then (b : Int) else (a : Int))) = (n : Int) ∧ n ≤ a ∧ n ≤ b ∧ n ≤ c := by
  by_cases h : (b : Int) < (a : Int)
  · rw [if_pos h]
    by_cases h2 : (c : Int) < (b : Int)
    · rw [if_pos h2]; exact ⟨c, rfl, by omega, by omega, by omega⟩
    · rw [if_neg h2]; exact ⟨b, rfl, by omega, by omega, by omega⟩
  · rw [if_neg h]
    by_cases h2 : (c : Int) < (a : Int)
    · rw [if_pos h2]; exact ⟨c, rfl, by omega, by omega, by omega⟩
    · rw [if_neg h2]; exact ⟨a, rfl, by omega, by omega, by omega⟩
def S9 (wr : World) (A1 A2 A3 A4 : Option Addr) (c1 c2 c3 c4 k s1 s2 s3 s4 t : Nat) (l1 l2 l3 q qA qB qC : List Nat) (i : Nat) (v : Value) (w : World) : Prop := match i with
  | 0 => v = .slice A4 q.length c4
  | 1 => ∃ p, v = .slice (some ⟨p, 0, none⟩) 1 1 ∧ p < w.heap.size ∧ RP w wr.heap.size p 0 [q]
  | 2 => v = .int .u32 (s1 : Int)
  | 3 => v = .slice A1 l1.length c1
  | 4 => v = .int .i64 (k : Int)
  | 5 => v = .slice A1 k c1
  | 6 => ∃ p, v = .slice (some ⟨p, 0, none⟩) 1 1 ∧ p < w.heap.size ∧ RP w wr.heap.size p 0 [qA]
  | 7 => v = .int .u32 (s2 : Int)
  | 8 => v = .slice A2 l2.length c2
  | 9 => v = .int .i64 (k : Int)
  | 10 => v = .slice A2 k c2
  | 11 => ∃ p, v = .slice (some ⟨p, 0, none⟩) 1 1 ∧ p < w.heap.size ∧ RP w wr.heap.size p 0 [qB]
  | 12 => v = .int .u32 (s3 : Int)
  | 13 => v = .int .u32 (t : Int)
  | 14 => v = .slice A3 l3.length c3
  | 15 => v = .int .i64 (k : Int)
  | 16 => v = .slice A3 k c3
  | 17 => ∃ p, v = .slice (some ⟨p, 0, none⟩) 1 1 ∧ p < w.heap.size ∧ RP w wr.heap.size p 0 [qC]
  | 18 => v = .int .u32 (s4 : Int)
  | 19 => v = .int .u32 (s1 : Int)
  | 20 => v = .bool true
  | 21 => v = .bool true
  | _ => True

theorem S9_below {wr : World} {A1 A2 A3 A4 : Option Addr} {c1 c2 c3 c4 k s1 s2 s3 s4 t : Nat} {l1 l2 l3 q qA qB qC : List Nat} {w w' : World} (i : Nat) (v : Value) (hb : Below w.heap.size w w') (hB : wr.heap.size ≤ w.heap.size)
    (h : S9 wr A1 A2 A3 A4 c1 c2 c3 c4 k s1 s2 s3 s4 t l1 l2 l3 q qA qB qC i v w) : S9 wr A1 A2 A3 A4 c1 c2 c3 c4 k s1 s2 s3 s4 t l1 l2 l3 q qA qB qC i v w' := by
  have key : ∀ (p : Nat) (ps : List (List Nat)), p < w.heap.size → RP w wr.heap.size p 0 ps → RP w' wr.heap.size p 0 ps := by
    intro p ps hp hr j hj
    obtain ⟨u, h1, h2⟩ := hr j hj
    exact ⟨u, (hb.cell (p := ⟨p, 0 + j, none⟩) hp).trans h1, h2.below (hb.mono hB)⟩
  unfold S9 at h ⊢
  split at h
  all_goals first
    | exact h
    | (obtain ⟨p, h1, h2, h3⟩ := h; exact ⟨p, h1, Nat.lt_of_lt_of_le h2 hb.size, key _ _ h2 h3⟩)

theorem RP.one1 {W : World} {u : Value} {t : List Nat} {g B : Nat} (hg : g = W.heap.size) (hu : RB W B u t) (hB : B ≤ W.heap.size) : RP (W.alloc (.cells #[u] 22)) B g 0 [t] := by
  intro i hi
  subst hg
  match i, hi with
  | 0, _ => exact ⟨u, by simp, hu.alloc hB _⟩
theorem run_one {a : Act} {x : Tmp} {A1 : Option Addr} {n1 c1 : Nat} {ty : TypeId} {pos : String} {d : Option Tmp} {af : Array Edge} {g : Option (Nat × Bool)} (w : World) (hx : a.tmps.getD x undef = .slice A1 n1 c1) :
    (execOp a.eval { dst := d, op := .buildSlice 56 1 #[(0, .tmp x)], type := ty, pos := pos, after := af, guard := g }).run Try.prog w = .ok (.value (.slice (some ⟨w.heap.size, 0, none⟩) 1 1)) (w.alloc (.cells #[.slice A1 n1 c1] 22)) := by
  simp only [execOp, Act.eval, hx, List.map_toArray, List.map]
  go_simp

set_option maxRecDepth 100000 in
set_option maxHeartbeats 20000000 in
theorem crcAdds_mid (a b c : Value) (l1 l2 l3 : List Nat) (w : World) (h1 : RB w w.heap.size a l1) (h2 : RB w w.heap.size b l2) (h3 : RB w w.heap.size c l3) :
    Calls Try.prog 3 #[a, b, c] w fun e w' => e = .returned (.bool true) ∧ Below w.heap.size w w' := by
  have HA := Lib.hid h1
  have HB := Lib.hid h2
  have HC := Lib.hid h3
  obtain ⟨A1, c1, rfl, ha1, ha2, ha3, _⟩ := h1.open_
  obtain ⟨A2, c2, rfl, hb1, hb2, hb3, _⟩ := h2.open_
  obtain ⟨A3, c3, rfl, hc1, hc2, hc3, _⟩ := h3.open_
  clear h1 h2 h3
  go_enter Try.func3, Try.ntmps3
  go_wp2_with fail
  refine (alive2 w).mono ?_
  rintro e w1 ⟨rfl, hb⟩
  have HA1 := Lib.hid (RBn HA.out hb)
  have HB1 := Lib.hid (RBn HB.out hb)
  have HC1 := Lib.hid (RBn HC.out hb)
  have HX1 := Lib.hid hb
  clear hb HA HB HC
  obtain ⟨n, hn, hn1, hn2, hn3⟩ : ∃ n : Nat, (if (l3.length : Int) < (if (l2.length : Int) < (l1.length : Int) then (l2.length : Int) else (l1.length : Int)) then (l3.length : Int) else (if (l2.length : Int) < (l1.length : Int) then (l2.length : Int) else (l1.length : Int))) = (n : Int) ∧ n ≤ l1.length ∧ n ≤ l2.length ∧ n ≤ l3.length := min3 _ _ _
  have r1 : ∀ (ts : Array TypeId) (t : TypeId) (W : World), (Builtin.min_ ts t #[.int .i64 (l1.length : Int), .int .i64 (l2.length : Int), .int .i64 (l3.length : Int)]).run Try.prog W = .ok (.int .i64 (n : Int)) W := fun ts t W => by rw [run_min_int3, hn]
  have HQ : Hid (∀ k (hk : k < n), (xorL (xorL (l1.take n) (l2.take n)) (l3.take n))[k]? = some ((l1[k] ^^^ l2[k]) ^^^ l3[k])) := fun k hk => xor3_get l1 l2 l3 n k hn1 hn2 hn3 hk
  obtain ⟨q, hq⟩ : ∃ q, q = xorL (xorL (l1.take n) (l2.take n)) (l3.take n) := ⟨_, rfl⟩
  rw [← hq] at HQ
  have HL : Hid (q.length = n) := by
    show _ = _
    rw [hq, xorL_len _ _ (by rw [xorL_len _ _ (by rw [List.length_take, List.length_take]; omega), List.length_take, List.length_take]; omega), xorL_len _ _ (by rw [List.length_take, List.length_take]; omega), List.length_take]
    omega
  have HEQ := Lib.hid hq
  clear hq
  go_wp2_with fail
  go_loopw [8, 9] (fun v i wr => ∃ k : Nat, k ≤ n ∧ i = .int .i64 k ∧ Hid (OB wr w1.heap.size v (q.take k)) ∧ Hid (Below w1.heap.size w1 wr)) (fun v i wr => n - (intOf i).toNat)
  case atStart => exact ⟨0, Nat.zero_le _, rfl, OB.made w1 w1.heap.size _ 0 (Nat.le_refl _) (by omega) rfl, (Below.refl _ _).alloc (Nat.le_refl _) _⟩
  case round =>
    obtain ⟨k, hk, rfl, HO, HB⟩ := hrel
    by_cases hlt : k < n
    · obtain ⟨A1', c1', hv1, _, _, _, HA2⟩ := HA1.out.open_
      obtain ⟨A2', c2', hv2, _, _, _, HB2⟩ := HB1.out.open_
      obtain ⟨A3', c3', hv3, _, _, _, HC2⟩ := HC1.out.open_
      injection hv1 with e1 _ f1
      injection hv2 with e2 _ f2
      injection hv3 with e3 _ f3
      obtain ⟨p1, o1, rfl, hp1, hx, hx2⟩ := HA2.out k (by omega)
      obtain ⟨p2, o2, rfl, hp2, hy, hy2⟩ := HB2.out k (by omega)
      obtain ⟨p3, o3, rfl, hp3, hz, hz2⟩ := HC2.out k (by omega)
      subst e1 e2 e3 f1 f2 f3
      have hx' := (HB.out.cell (p := ⟨p1, o1 + k, none⟩) hp1).trans hx
      have hy' := (HB.out.cell (p := ⟨p2, o2 + k, none⟩) hp2).trans hy
      have hz' := (HB.out.cell (p := ⟨p3, o3 + k, none⟩) hp3).trans hz
      have hqk := HQ.out k hlt
      generalize l1[k] = x at hx' hx2 hqk
      generalize l2[k] = y at hy' hy2 hqk
      generalize l3[k] = z at hz' hz2 hqk
      have X1 : bits BinOp.xor IntKind.u8 (x : Int) (y : Int) = ((x ^^^ y : Nat) : Int) := u8_xor_nat x y hx2 hy2
      have hxy : x ^^^ y < 256 := Nat.xor_lt_two_pow (n := 8) hx2 hy2
      obtain ⟨xy, hxy0⟩ : ∃ xy, xy = x ^^^ y := ⟨_, rfl⟩
      rw [← hxy0] at X1 hxy hqk
      have X2 : bits BinOp.xor IntKind.u8 (xy : Int) (z : Int) = ((xy ^^^ z : Nat) : Int) := u8_xor_nat xy z hxy hz2
      have hxyz : xy ^^^ z < 256 := Nat.xor_lt_two_pow (n := 8) hxy hz2
      obtain ⟨d, hd0⟩ : ∃ d, d = xy ^^^ z := ⟨_, rfl⟩
      rw [← hd0] at X2 hxyz hqk
      have HQK := Lib.hid hqk
      have j1 : (k : Int) < (l1.length : Int) := by omega
      have j2 : (k : Int) < (l2.length : Int) := by omega
      have j3 : (k : Int) < (l3.length : Int) := by omega
      clear hx hy hz hqk hxy0 hd0 HA2 HB2 HC2
      go_wp2_with fail
      go_region_law (refine step_app1 (w0 := w1) (by rfl) (.tmp 25) (.tmp 40) (by rfl) w1.heap.size _ (q.take k) (by first | rfl | simp [Act.eval, Act.put]) HO.out.drew (Below.drew HB.out) (Nat.le_refl _) _ d (by rfl) hxyz (by first | rfl | simp [Act.eval, Act.put]) (by rw [List.length_take]; omega) ?_; intro v' w2 ho1 hb1; have HO1 := Lib.hid ho1; have HB2 := Lib.hid hb1; clear ho1 hb1)
      all_goals
        go_wp2
        go_roundw
        case rel => exact ⟨k + 1, by omega, by go_num, by rw [List.take_add_one, HQK.out]; exact HO1, HB2⟩
        case measure => simp [intOf]; omega
    · obtain rfl : k = n := by omega
      rw [List.take_of_length_le (by rw [HL.out]; omega)] at HO
      have HV := Lib.hid (HO.out.rb (B' := wr.heap.size) (Nat.le_refl _))
      obtain ⟨A4, c4, hv4, _, _, _, _⟩ := HV.out.open_
      subst hv4
      have PA := Lib.hid ((RBn HA1.out HB.out).first' (k := k) (by omega))
      have PB := Lib.hid ((RBn HB1.out HB.out).first' (k := k) (by omega))
      have PC := Lib.hid ((RBn HC1.out HB.out).first' (k := k) (by omega))
      have HX := Lib.hid (HX1.out.trans (HB.out.mono HX1.out.size))
      have hq : q = xorL (xorL (l1.take k) (l2.take k)) (l3.take k) := HEQ.out
      obtain ⟨qA, hqA⟩ : ∃ q, q = l1.take k := ⟨_, rfl⟩
      obtain ⟨qB, hqB⟩ : ∃ q, q = l2.take k := ⟨_, rfl⟩
      obtain ⟨qC, hqC⟩ : ∃ q, q = l3.take k := ⟨_, rfl⟩
      have hAB : qA.length = qB.length := by rw [hqA, hqB, List.length_take, List.length_take]; omega
      have hAC : qA.length = qC.length := by rw [hqA, hqC, List.length_take, List.length_take]; omega
      rw [← hqA, ← hqB, ← hqC] at hq
      rw [← hqA] at PA
      rw [← hqB] at PB
      rw [← hqC] at PC
      clear hqA hqB hqC
      have hs := sumsAdd qA qB qC hAB hAC
      rw [← hq] at hs
      obtain ⟨s1, h1⟩ : ∃ s, crcSum [q].flatten = s := ⟨_, rfl⟩
      obtain ⟨s2, h2⟩ : ∃ s, crcSum [qA].flatten = s := ⟨_, rfl⟩
      obtain ⟨s3, h3⟩ : ∃ s, crcSum [qB].flatten = s := ⟨_, rfl⟩
      obtain ⟨s4, h4⟩ : ∃ s, crcSum [qC].flatten = s := ⟨_, rfl⟩
      have b2 : s2 < 4294967296 := by rw [← h2]; exact crcSum_lt _ (by simpa using PA.out.1)
      have b3 : s3 < 4294967296 := by rw [← h3]; exact crcSum_lt _ (by simpa using PB.out.1)
      have b4 : s4 < 4294967296 := by rw [← h4]; exact crcSum_lt _ (by simpa using PC.out.1)
      have S1 := Lib.hid h1
      have S2 := Lib.hid h2
      have S3 := Lib.hid h3
      have S4 := Lib.hid h4
      have e1 : s1 = s2 ^^^ s3 ^^^ s4 := by
        rw [← h1, ← h2, ← h3, ← h4]
        simpa using hs
      obtain ⟨t, ht⟩ : ∃ t, t = s2 ^^^ s3 := ⟨_, rfl⟩
      have bt : t < 4294967296 := by rw [ht]; exact xor32_lt _ _ b2 b3
      rw [← ht] at e1
      have X1 : bits BinOp.xor IntKind.u32 (s2 : Int) (s3 : Int) = (t : Int) := by rw [u32xor _ _ b2 b3, ht]
      have X2 : bits BinOp.xor IntKind.u32 (t : Int) (s4 : Int) = (s1 : Int) := by rw [u32xor _ _ bt b4, e1]
      have i1 : (0 : Int) ≤ (k : Int) := by omega
      have j1 : (k : Int) ≤ (c1 : Int) := by omega
      have j2 : (k : Int) ≤ (c2 : Int) := by omega
      have j3 : (k : Int) ≤ (c3 : Int) := by omega
      clear ht e1 b2 b3 b4 bt h1 h2 h3 h4 hs hq hAB hAC HA1 HB1 HC1 HX1 r1 hn HQ HL HEQ HO HB
      go_wp2_with fail
      rename_i K _ hK
      refine wp_region_slots (S9 wr A1 A2 A3 A4 c1 c2 c3 c4 k s1 s2 s3 s4 t l1 l2 l3 q qA qB qC) (fun w => Below wr.heap.size wr w) (by kernel_rfl) (by kernel_rfl) (by kernel_rfl) ((Below.refl _ _).drew) ?_ ?_
      · intro L a w i o h ho hd
        revert L a w
        revert i o
        refine each_array ?_
        refine ⟨?_, ?_, ?_, ?_, ?_, ?_, ?_, ?_, ?_, ?_, ?_, ?_, ?_, ?_, ?_, ?_, ?_, ?_, ?_, ?_, ?_, ?_, trivial⟩
        · intro L a w h hd
          exact h.val rfl rfl (run_move (h.still 8 (by kernel_rfl))) rfl
        · intro L a w h hd
          exact h.mem rfl rfl (run_one w (h.ran 0 _ 42 rfl rfl (hd ⟨0, .data⟩ (by simp) rfl))) (fun k v hk => (S9_below k v (by exact (Below.refl _ _).alloc (Nat.le_refl _) _) h.world.size hk)) (h.world.alloc h.world.size _) ⟨_, rfl, by simp, RP.one1 rfl (HV.out.below h.world) h.world.size⟩
        · intro L a w h hd
          obtain ⟨p, hp, hlt, hrp⟩ := h.ran 1 _ 43 rfl rfl (hd ⟨1, .data⟩ (by simp) rfl)
          refine h.call rfl rfl (run_call1 w hp) ((crcSum_any p 0 1 wr.heap.size [q] w hrp (by simp)).mono ?_)
          rintro e w' ⟨rfl, rfl⟩
          exact ⟨_, rfl, fun _ _ h => h, h.world, by rw [S1.out]; rfl⟩
        · intro L a w h hd
          exact h.val rfl rfl (run_move (h.still 0 (by kernel_rfl))) rfl
        · intro L a w h hd
          exact h.val rfl rfl (run_move (h.still 7 (by kernel_rfl))) rfl
        · intro L a w h hd
          exact h.val rfl rfl (run_cut w (h.ran 3 _ 45 rfl rfl (hd ⟨3, .data⟩ (by simp) rfl)) (h.ran 4 _ 46 rfl rfl (hd ⟨4, .data⟩ (by simp) rfl)) (by omega) (by omega)) rfl
        · intro L a w h hd
          exact h.mem rfl rfl (run_one w (h.ran 5 _ 47 rfl rfl (hd ⟨5, .data⟩ (by simp) rfl))) (fun k v hk => (S9_below k v (by exact (Below.refl _ _).alloc (Nat.le_refl _) _) h.world.size hk)) (h.world.alloc h.world.size _) ⟨_, rfl, by simp, RP.one1 rfl (PA.out.below h.world) h.world.size⟩
        · intro L a w h hd
          obtain ⟨p, hp, hlt, hrp⟩ := h.ran 6 _ 48 rfl rfl (hd ⟨6, .data⟩ (by simp) rfl)
          refine h.call rfl rfl (run_call1 w hp) ((crcSum_any p 0 1 wr.heap.size [qA] w hrp (by simp)).mono ?_)
          rintro e w' ⟨rfl, rfl⟩
          exact ⟨_, rfl, fun _ _ h => h, h.world, by rw [S2.out]; rfl⟩
        · intro L a w h hd
          exact h.val rfl rfl (run_move (h.still 1 (by kernel_rfl))) rfl
        · intro L a w h hd
          exact h.val rfl rfl (run_move (h.still 7 (by kernel_rfl))) rfl
        · intro L a w h hd
          exact h.val rfl rfl (run_cut w (h.ran 8 _ 50 rfl rfl (hd ⟨8, .data⟩ (by simp) rfl)) (h.ran 9 _ 51 rfl rfl (hd ⟨9, .data⟩ (by simp) rfl)) (by omega) (by omega)) rfl
        · intro L a w h hd
          exact h.mem rfl rfl (run_one w (h.ran 10 _ 52 rfl rfl (hd ⟨10, .data⟩ (by simp) rfl))) (fun k v hk => (S9_below k v (by exact (Below.refl _ _).alloc (Nat.le_refl _) _) h.world.size hk)) (h.world.alloc h.world.size _) ⟨_, rfl, by simp, RP.one1 rfl (PB.out.below h.world) h.world.size⟩
        · intro L a w h hd
          obtain ⟨p, hp, hlt, hrp⟩ := h.ran 11 _ 53 rfl rfl (hd ⟨11, .data⟩ (by simp) rfl)
          refine h.call rfl rfl (run_call1 w hp) ((crcSum_any p 0 1 wr.heap.size [qB] w hrp (by simp)).mono ?_)
          rintro e w' ⟨rfl, rfl⟩
          exact ⟨_, rfl, fun _ _ h => h, h.world, by rw [S3.out]; rfl⟩
        · intro L a w h hd
          exact h.val rfl rfl (run_xor w (h.ran 7 _ 49 rfl rfl (hd ⟨7, .data⟩ (by simp) rfl)) (h.ran 12 _ 54 rfl rfl (hd ⟨12, .data⟩ (by simp) rfl)) X1) rfl
        · intro L a w h hd
          exact h.val rfl rfl (run_move (h.still 2 (by kernel_rfl))) rfl
        · intro L a w h hd
          exact h.val rfl rfl (run_move (h.still 7 (by kernel_rfl))) rfl
        · intro L a w h hd
          exact h.val rfl rfl (run_cut w (h.ran 14 _ 56 rfl rfl (hd ⟨14, .data⟩ (by simp) rfl)) (h.ran 15 _ 57 rfl rfl (hd ⟨15, .data⟩ (by simp) rfl)) (by omega) (by omega)) rfl
        · intro L a w h hd
          exact h.mem rfl rfl (run_one w (h.ran 16 _ 58 rfl rfl (hd ⟨16, .data⟩ (by simp) rfl))) (fun k v hk => (S9_below k v (by exact (Below.refl _ _).alloc (Nat.le_refl _) _) h.world.size hk)) (h.world.alloc h.world.size _) ⟨_, rfl, by simp, RP.one1 rfl (PC.out.below h.world) h.world.size⟩
        · intro L a w h hd
          obtain ⟨p, hp, hlt, hrp⟩ := h.ran 17 _ 59 rfl rfl (hd ⟨17, .data⟩ (by simp) rfl)
          refine h.call rfl rfl (run_call1 w hp) ((crcSum_any p 0 1 wr.heap.size [qC] w hrp (by simp)).mono ?_)
          rintro e w' ⟨rfl, rfl⟩
          exact ⟨_, rfl, fun _ _ h => h, h.world, by rw [S4.out]; rfl⟩
        · intro L a w h hd
          exact h.val rfl rfl (run_xor w (h.ran 13 _ 55 rfl rfl (hd ⟨13, .data⟩ (by simp) rfl)) (h.ran 18 _ 60 rfl rfl (hd ⟨18, .data⟩ (by simp) rfl)) X2) rfl
        · intro L a w h hd
          exact h.val rfl rfl (run_eq w (h.ran 2 _ 44 rfl rfl (hd ⟨2, .data⟩ (by simp) rfl)) (h.ran 19 _ 61 rfl rfl (hd ⟨19, .data⟩ (by simp) rfl))) rfl
        · intro L a w h hd
          exact h.val rfl rfl (run_assign w (h.ran 20 _ 62 rfl rfl (hd ⟨20, .data⟩ (by simp) rfl))) rfl
      · intro a w hdf hsz hw hother hall
        refine hK _ _ ?_
        refine wp_ret ?_
        have h8 : a.tmps.getD 6 undef = .bool true := hall 21 _ 6 rfl rfl
        exact bodyPost_ret (v := .bool true) ((results_tmp (t := 6) rfl _ _ _).trans (by rw [h8])) hdf ⟨rfl, HX.out.trans (hw.mono HX.out.size)⟩

theorem crcAdds_walk (a : Value) (l1 : List Nat) (b : Value) (l2 : List Nat) (c : Value) (l3 : List Nat) (w : World) (h1 : RB w w.heap.size a l1) (b1 : l1.length ≤ 140737488351232)
    (h2 : RB w w.heap.size b l2) (b2 : l2.length ≤ 140737488351232) (h3 : RB w w.heap.size c l3) (b3 : l3.length ≤ 140737488351232) :
    Calls Try.prog 3 #[a, b, c] w fun e w' => e = .returned (.bool true) ∧ Below w.heap.size w w' := crcAdds_mid a b c l1 l2 l3 w h1 h2 h3
end Go.Proofs.Ytbmjiheclagfiaa
