/-
  A block of 512 bytes of a call's own: its making, copies into it.
-/
import Derived.Test.YtdghanhpeekbhaaV1
namespace Go.Proofs.Ytdghanhpeekbhaa
open Go.RowKit Go.Maps
set_option linter.unusedVariables false

theorem zeroArr (w : World) : (zeroValue 74).run Try.prog w = .ok secZ w := by kernel_rfl
theorem BB.new (w : World) : BB (w.alloc (.cells secZ.cells 74)) w.heap.size 74 sec0 :=
  ⟨by rw [secZ_cells]; exact Blk.new _ _ _, sec0_ok.2, by rw [sec0_ok.1]; omega⟩
section
variable {ops : Array Oper} {rest : List Oper} {o : Oper} {a : Act} {Q : Exit → Act → World → Prop} {w : World} {d : Option Tmp} {ty : TypeId} {pos : String} {af : Array Edge}
theorem wpList_allocA_ (hg : o.guard = none) (hop : o.op = .alloc 74) (n : Nat) (hn : w.heap.size = n)
    (h : ∀ w', BB w' n 74 sec0 → Below w.heap.size w w' → w'.heap.size = w.heap.size + 1 → wpList Try.prog ops Q rest (a.put o.dst (.pointer (some ⟨n, 0, none⟩))) w') : wpList Try.prog ops Q (o :: rest) a w := by
  subst hn
  refine wpList_plain hg fun K' hK' => ?_
  have hrun : (Instr.alloc 74 true (.tuple #[])).run Try.prog w = .ok (.pointer (some ⟨w.heap.size, 0, none⟩)) (w.alloc (.cells secZ.cells 74)) := by
    unfold Instr.alloc
    rw [Sem.run_bind, zeroArr, Result.andThen_ok]
    simp [newVar, newRow]
  unfold Oper.wp
  simp only [execOp, hop, Sem.run_bind, hrun, Result.andThen_ok, Sem.run_pure]
  exact hK' _ _ (h _ (BB.new w) ((Below.refl _ _).alloc (Nat.le_refl _) _) (by simp))
theorem wpList_allocA (n : Nat) (hn : w.heap.size = n)
    (h : ∀ w', BB w' n 74 sec0 → Below w.heap.size w w' → w'.heap.size = w.heap.size + 1 → wpList Try.prog ops Q rest (a.put d (.pointer (some ⟨n, 0, none⟩))) w') : wpList Try.prog ops Q ({ dst := d, op := .alloc 74, type := ty, pos := pos, after := af, guard := none } :: rest) a w :=
  wpList_allocA_ rfl rfl n hn h
end
theorem BB.copied {w : World} {g B off : Nat} {t : TypeId} {L l : List Nat} {v : Value} (h : BB w g t L) (hv : RB w B v l) (hfit : off + l.length ≤ L.length) (dl dc : Nat) (hdl : l.length ≤ dl) (ty : TypeId) :
    ∃ w' u, (Builtin.copy_ #[22, 22] ty #[.slice (some ⟨g, off, none⟩) dl dc, v]).run Try.prog w = .ok u w' ∧ BB w' g t (putAt L off l) ∧ Mod (fun k => k = g) w w' ∧ w'.heap.size = w.heap.size := by
  obtain ⟨r1, r2, A, c, rfl, r3, r4, r5⟩ := hv
  rcases Nat.eq_zero_or_pos l.length with hz | hz
  · have hl : l = [] := List.eq_nil_of_length_eq_zero hz
    subst hl
    obtain ⟨i0, hi0, hz0, hz1, hz2⟩ := info_parts info5
    refine ⟨w, goInt 0, ?_, by rw [putAt_nil]; exact h, Mod.refl _ _, rfl⟩
    cases A with
    | none => simp [Builtin.copy_, run_underlying Try.underlying22, Builtin.lenOf, Builtin.firstCells, sizeOf, typeInfo, hi0, storeCells]
    | some ad => simp [Builtin.copy_, run_underlying Try.underlying22, Builtin.lenOf, Builtin.firstCells, sizeOf, typeInfo, hi0, storeCells, loadCells, loadCellsFrom]
  · rcases r5 with rfl | ⟨b', off', rfl, hb, hc⟩
    · simp at hz
    have hmin : (l.map bcell).length = Nat.min l.length dl := by rw [List.length_map]; exact (Nat.min_eq_left hdl).symm
    have hrun := run_copy_row (P := Try.prog) w 22 22 ty 5 g off dl dc ⟨b', off', none⟩ l.length c (L.map bcell).toArray t (l.map bcell) Try.underlying22 (by kernel_rfl) h.blk hmin
      (fun j u hu => bcells_at hc j u hu) (by rw [List.length_map, List.size_toArray, List.length_map]; exact hfit) (by intro u hu; simp [bcell] at hu; obtain ⟨x, _, rfl⟩ := hu; rfl)
    refine ⟨_, _, hrun, ⟨?_, putAt_mem h.lt r1, by rw [putAt_len hfit]; exact h.len⟩, (Mod.refl (fun k => k = g) w).setRow (fun _ => rfl) _, by simp⟩
    have e : ((L.map bcell).toArray.toList.take off ++ l.map bcell ++ (L.map bcell).toArray.toList.drop (off + (l.map bcell).length)).toArray = ((putAt L off l).map bcell).toArray := by
      unfold putAt
      simp
    rw [e]
    exact setRow_heap w g _ _ _ _ h.blk
section
variable {ops : Array Oper} {rest : List Oper} {o : Oper} {a : Act} {Q : Exit → Act → World → Prop} {w : World}
theorem wpList_copyB (hgd : o.guard = none) (x y : Operand) (hop : o.op = .call { callee := .builtin .copy, args := #[x, y], argTypes := #[22, 22] }) (g B off dl dc : Nat) (t : TypeId) (L l : List Nat) (v : Value)
    (hx : a.eval x = .slice (some ⟨g, off, none⟩) dl dc) (hy : a.eval y = v) (hB : BB w g t L) (hv : RB w B v l) (hfit : off + l.length ≤ L.length) (hdl : l.length ≤ dl)
    (h : ∀ w' u, BB w' g t (putAt L off l) → Mod (fun k => k = g) w w' → w'.heap.size = w.heap.size → wpList Try.prog ops Q rest (a.put o.dst u) w') : wpList Try.prog ops Q (o :: rest) a w := by
  refine wpList_plain hgd fun K' hK' => ?_
  obtain ⟨w', u, hrun, h1, h2, h3⟩ := hB.copied hv hfit dl dc hdl o.type
  unfold Oper.wp
  simp only [execOp, hop, resolve, invoke, builtin, Sem.run_bind, Sem.run_pure, Result.andThen_ok, List.map_toArray, List.map_cons, List.map_nil, hx, hy, hrun]
  exact hK' _ _ (h w' u h1 h2 h3)
end
/-! ### Lists -/
theorem putAt_mid {P M T d : List Nat} (hd : d.length = M.length) : putAt (P ++ M ++ T) P.length d = P ++ d ++ T := by
  unfold putAt
  have h1 : (P ++ M ++ T).take P.length = P := by rw [List.append_assoc, List.take_left]
  rw [h1, hd, List.drop_left' (by simp)]
theorem zeros_split (a b : Nat) : List.replicate (a + b) (0 : Nat) = List.replicate a 0 ++ List.replicate b 0 := (List.replicate_append_replicate).symm
theorem putAt_zeros {X d T : List Nat} {z : Nat} (hd : d.length ≤ z) : putAt (X ++ List.replicate z 0 ++ T) X.length d = X ++ d ++ List.replicate (z - d.length) 0 ++ T := by
  obtain ⟨r, rfl⟩ : ∃ r, z = d.length + r := ⟨z - d.length, by omega⟩
  rw [zeros_split, show X ++ (List.replicate d.length 0 ++ List.replicate r 0) ++ T = X ++ List.replicate d.length 0 ++ (List.replicate r 0 ++ T) by simp only [List.append_assoc], putAt_mid (by simp), Nat.add_sub_cancel_left]
  simp only [List.append_assoc]
theorem putAt_zeros_end {X d T : List Nat} {z : Nat} (hd : d.length ≤ z) : putAt (X ++ List.replicate z 0 ++ T) (X.length + (z - d.length)) d = X ++ List.replicate (z - d.length) 0 ++ (d ++ T) := by
  obtain ⟨r, rfl⟩ : ∃ r, z = r + d.length := ⟨z - d.length, by omega⟩
  rw [zeros_split, Nat.add_sub_cancel]
  have h1 : X.length + r = (X ++ List.replicate r 0).length := by simp
  rw [h1, ← List.append_assoc, putAt_mid (by simp)]
  simp
theorem set_zeros {X T : List Nat} {z y : Nat} (hz : 1 ≤ z) : (X ++ List.replicate z 0 ++ T).set X.length y = X ++ [y] ++ List.replicate (z - 1) 0 ++ T := by
  obtain ⟨r, rfl⟩ : ∃ r, z = r + 1 := ⟨z - 1, by omega⟩
  rw [List.append_assoc, List.set_append_right _ _ (Nat.le_refl _), Nat.sub_self, List.replicate_succ, List.cons_append, List.set_cons_zero]
  simp

/-! ### Small words -/
theorem lePut_at {w : World} {g off m c n : Nat} {t : TypeId} {L : List Nat} (h : BB w g t L) (hm : off + m ≤ L.length) (hc : m ≤ c) (hc2 : c ≤ 9223372036854775807) (h8 : m ≤ 8) (hn : n < 18446744073709551616) :
    Calls Try.prog 37 #[.slice (some ⟨g, off, none⟩) m c, .int .u64 (n : Int)] w fun e w' => e = .returned (.tuple #[]) ∧ BB w' g t (putAt L off (digits n m)) ∧ Mod (fun k => k = g) w w' ∧ w'.heap.size = w.heap.size :=
  lePut_any w g off m c n t L h hm hc hc2 h8 hn
theorem size5 (W : World) : (sizeOf 5).run Try.prog W = .ok 1 W := by kernel_rfl
set_option maxRecDepth 100000 in
theorem sl512_l (g e : Nat) (he : e ≤ 512) (W : World) : (Instr.sliceAt 74 (.pointer (some ⟨g, 0, none⟩)) (some (.int .i64 (e : Int))) none none).run Try.prog W = .ok (.slice (some ⟨g, if 512 = e then 0 else e, none⟩) (512 - e) (512 - e)) W := by
  rw [run_sliceAt_array_l W 74 _ Try.underlying74 .i64 (e : Int) (by omega) (by show (e : Int) ≤ ((512 : Nat) : Int); omega)]
  show ((sizeOf 5).run Try.prog W).andThen _ = _
  rw [size5, Result.andThen_ok]
  show Result.ok (slicedAt ⟨g, 0, none⟩ (e : Int).toNat 512 512 1) W = _
  unfold slicedAt
  rw [Int.toNat_natCast, Nat.mul_one, add_none, Nat.zero_add]
  split <;> rfl
set_option maxRecDepth 100000 in
theorem sl512_lh (g l h : Nat) (i j : Int) (hi : i = (l : Int)) (hj : j = (h : Int)) (h1 : l ≤ h) (h2 : h ≤ 512) (h3 : l < 512) (W : World) : (Instr.sliceAt 74 (.pointer (some ⟨g, 0, none⟩)) (some (.int .i64 i)) (some (.int .i64 j)) none).run Try.prog W = .ok (.slice (some ⟨g, l, none⟩) (h - l) (512 - l)) W := by
  subst hi hj
  rw [run_sliceAt_array_lh W 74 _ Try.underlying74 .i64 .i64 (l : Int) (h : Int) (by omega) (by omega) (by show (h : Int) ≤ ((512 : Nat) : Int); omega)]
  show ((sizeOf 5).run Try.prog W).andThen _ = _
  rw [size5, Result.andThen_ok]
  show Result.ok (slicedAt ⟨g, 0, none⟩ (l : Int).toNat (h : Int).toNat 512 1) W = _
  unfold slicedAt
  rw [Int.toNat_natCast, Int.toNat_natCast, Nat.mul_one, add_none, Nat.zero_add, if_neg (by omega)]
/-- crc.Sum of one text. -/
theorem sum_one {W : World} {h B : Nat} {l : List Nat} (hp : RP W B h 0 [l]) {cs : Nat} (hcs : cs = crcSum l) : Calls Try.prog 28 #[.slice (some ⟨h, 0, none⟩) 1 1] W fun e w' => e = .returned (.int .u32 (cs : Int)) ∧ w' = W := by
  refine (crcSum_any h 0 1 B [l] W hp (by simp)).mono ?_
  rintro e w' ⟨rfl, rfl⟩
  rw [hcs]
  simp only [List.flatten_cons, List.flatten_nil, List.append_nil]
  exact ⟨by first | rfl | trivial, by first | rfl | trivial⟩
theorem BB.alloc {w : World} {g : Nat} {t : TypeId} {L : List Nat} (h : BB w g t L) (o : Obj) : BB (w.alloc o) g t L := ⟨h.blk.alloc o, h.lt, h.len⟩
theorem below_mod {g : Nat} {w W W' : World} (hb : Below g w W) (hg : g ≤ W.heap.size) (hm : Mod (fun k => k = g) W W') : Below g w W' := hb.trans (hm.below hg (fun k e => Nat.le_of_eq e.symm))
theorem BB.drew {w : World} {g : Nat} {t : TypeId} {L : List Nat} (h : BB w g t L) : BB w.drew g t L := ⟨h.blk.drew, h.lt, h.len⟩
theorem BB.size {w : World} {g : Nat} {t : TypeId} {L : List Nat} (h : BB w g t L) : g < w.heap.size := h.blk.lt
theorem mod_set {w : World} {g i : Nat} {u : Value} : Mod (fun k => k = g) w (w.setCell ⟨g, i, none⟩ u) := (Mod.refl (fun k => k = g) w).setCell (p := ⟨g, i, none⟩) (fun _ => rfl) _
theorem leV_digits (n : Nat) : ∀ k, leV (digits n k) = n % 256 ^ k
  | 0 => by simp [digits, leV, Nat.mod_one]
  | k + 1 => by
    rw [digits_succ, leV_snoc, digits_len, leV_digits n k, Nat.pow_succ, Nat.mod_mul, Nat.mul_comm]
theorem leV_digits_of {n k : Nat} (h : n < 256 ^ k) : leV (digits n k) = n := by rw [leV_digits, Nat.mod_eq_of_lt h]
theorem seg_mid {P M T : List Nat} {lo m : Nat} (h1 : P.length = lo) (h2 : M.length = m) : ((P ++ M ++ T).drop lo).take m = M := by
  subst h1 h2
  rw [List.append_assoc, List.drop_left, List.take_left]
theorem RB.sub {w : World} {B b o n c : Nat} {l : List Nat} (h : RB w B (.slice (some ⟨b, o, none⟩) n c) l) {lo m c' : Nat} (hm : lo + m ≤ l.length) (hc : m ≤ c') (hc2 : c' ≤ 9223372036854775807) : RB w B (.slice (some ⟨b, o + lo, none⟩) m c') ((l.drop lo).take m) := by
  obtain ⟨h1, h2, A, c0, e, h3, h4, h5⟩ := h
  injection e with e1 e2 e3
  have hl : ((l.drop lo).take m).length = m := by rw [List.length_take, List.length_drop]; omega
  refine ⟨fun x hx => h1 x (List.mem_of_mem_drop (List.mem_of_mem_take hx)), by omega, some ⟨b, o + lo, none⟩, c', by rw [hl], by omega, hc2, ?_⟩
  rcases h5 with rfl | ⟨b', off, e', hb, hx⟩
  · left
    rw [List.drop_nil, List.take_nil]
  · rw [← e1] at e'
    injection e' with e'
    injection e' with e4 e5
    subst e4 e5
    refine .inr ⟨b, o + lo, rfl, hb, fun j x hj => ?_⟩
    rw [List.getElem?_take] at hj
    split at hj
    · rw [List.getElem?_drop] at hj
      rw [Nat.add_assoc]; exact hx _ x hj
    · cases hj
theorem leGet_v {w : World} {B : Nat} {v : Value} {l : List Nat} (hv : RB w B v l) (hl : l.length ≤ 8) {n : Nat} (hn : leV l = n) :
    Calls Try.prog 27 #[v] w fun e w' => e = .returned (.int .u64 (n : Int)) ∧ w' = w := by
  rw [← hn]; exact (leGet_any w B v l hv hl).mono fun _ _ h => ⟨h.1, h.2.symm⟩
set_option maxRecDepth 100000 in
theorem slB_lh {b o n cap lo hi : Nat} {i j : Int} (hi1 : i = (lo : Int)) (hj : j = (hi : Int)) (h1 : lo ≤ hi) (h2 : hi ≤ cap) (W : World) : (Instr.slice 22 (.slice (some ⟨b, o, none⟩) n cap) (some (.int .i64 i)) (some (.int .i64 j)) none).run Try.prog W = .ok (.slice (some ⟨b, if cap = lo then o else o + lo, none⟩) (hi - lo) (cap - lo)) W := by
  subst hi1 hj
  rw [run_slice_lh W 22 (some ⟨b, o, none⟩) n cap Try.underlying22 .i64 .i64 (lo : Int) (hi : Int) (by omega) (by omega) (by omega)]
  show ((sizeOf 5).run Try.prog W).andThen _ = _
  rw [size5, Result.andThen_ok]
  show Result.ok (sliced (some ⟨b, o, none⟩) (lo : Int).toNat (hi : Int).toNat cap 1) W = _
  unfold sliced
  rw [Int.toNat_natCast, Int.toNat_natCast, Nat.mul_one]
  split
  · rfl
  · show Result.ok (Value.slice (some ((⟨b, o, none⟩ : Addr).add lo)) _ _) W = _
    rw [add_none]
theorem same_b {w : World} {B : Nat} {u v : Value} {a b : List Nat} (hu : RB w B u a) (hv : RB w B v b) : Calls Try.prog 12 #[u, v] w fun e w' => e = .returned (.bool (sameB a b)) ∧ Below w.heap.size w w' :=
  (same_any u v a b w B hu hv).mono fun _ _ ⟨h1, n, h2⟩ => ⟨h1, by rw [h2]; exact below_drewN (Below.refl _ _) n⟩
theorem intact_b {w : World} {B : Nat} {u v : Value} {b : List Nat} (hu : RB w B u (b ++ marks)) (hv : RB w B v b) : Calls Try.prog 9 #[u, v] w fun e w' => e = .returned (.bool true) ∧ Below w.heap.size w w' :=
  (intact_yes u v b w B hu hv).mono fun _ _ ⟨h1, n, h2⟩ => ⟨h1, by rw [h2]; exact below_drewN (Below.refl _ _) n⟩
theorem BB.row512 {w : World} {g : Nat} {t : TypeId} {L : List Nat} (h : BB w g t L) (hl : L.length = 512) : RB w w.heap.size (.slice (some ⟨g, 0, none⟩) 512 512) L := by
  have h1 := h.rb (lo := 0) (m := 512) (c := 512) (by omega) (by omega) (by omega) h.size
  rw [List.drop_zero, List.take_of_length_le (by omega)] at h1
  exact h1
theorem sameB_self (l : List Nat) : sameB l l = true := by simp [sameB]
end Go.Proofs.Ytdghanhpeekbhaa
