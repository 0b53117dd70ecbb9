/-
  A block of 512 bytes of a call's own: its making, copies into it.
-/
import Derived.Test.YtknhlbbgjfcjaaaV1
namespace Go.Proofs.Ytknhlbbgjfcjaaa
open Go.RowKit Go.Maps
set_option linter.unusedVariables false

theorem zeroArr (w : World) : (zeroValue 114).run Try.prog w = .ok secZ w := by kernel_rfl
theorem BB.new (w : World) : BB (w.alloc (.cells secZ.cells 114)) w.heap.size 114 sec0 :=
  ⟨by rw [secZ_cells]; exact Blk.new _ _ _, sec0_ok.2, by rw [sec0_ok.1]; omega⟩
section
variable {ops : Array Oper} {rest : List Oper} {o : Oper} {a : Act} {Q : Exit → Act → World → Prop} {w : World} {d : Option Tmp} {ty : TypeId} {pos : String} {af : Array Edge}
theorem wpList_allocA_ (hg : o.guard = none) (hop : o.op = .alloc 114) (n : Nat) (hn : w.heap.size = n)
    (h : ∀ w', BB w' n 114 sec0 → Below w.heap.size w w' → w'.heap.size = w.heap.size + 1 → wpList Try.prog ops Q rest (a.put o.dst (.pointer (some ⟨n, 0, none⟩))) w') : wpList Try.prog ops Q (o :: rest) a w := by
  subst hn
  refine wpList_plain hg fun K' hK' => ?_
  have hrun : (Instr.alloc 114 true (.tuple #[])).run Try.prog w = .ok (.pointer (some ⟨w.heap.size, 0, none⟩)) (w.alloc (.cells secZ.cells 114)) := by
    unfold Instr.alloc
    rw [Sem.run_bind, zeroArr, Result.andThen_ok]
    simp [newVar, newRow]
  unfold Oper.wp
  simp only [execOp, hop, Sem.run_bind, hrun, Result.andThen_ok, Sem.run_pure]
  exact hK' _ _ (h _ (BB.new w) ((Below.refl _ _).alloc (Nat.le_refl _) _) (by simp))
theorem wpList_allocA (n : Nat) (hn : w.heap.size = n)
    (h : ∀ w', BB w' n 114 sec0 → Below w.heap.size w w' → w'.heap.size = w.heap.size + 1 → wpList Try.prog ops Q rest (a.put d (.pointer (some ⟨n, 0, none⟩))) w') : wpList Try.prog ops Q ({ dst := d, op := .alloc 114, type := ty, pos := pos, after := af, guard := none } :: rest) a w :=
  wpList_allocA_ rfl rfl n hn h
end
theorem BB.copied {w : World} {g B off : Nat} {t : TypeId} {L l : List Nat} {v : Value} (h : BB w g t L) (hv : RB w B v l) (hfit : off + l.length ≤ L.length) (dl dc : Nat) (hdl : l.length ≤ dl) (ty : TypeId) :
    ∃ w' u, (Builtin.copy_ #[22, 22] ty #[.slice (some ⟨g, off, none⟩) dl dc, v]).run Try.prog w = .ok u w' ∧ BB w' g t (putAt L off l) ∧ Mod (fun k => k = g) w w' ∧ w'.heap.size = w.heap.size := by
  obtain ⟨r1, r2, A, c, rfl, r3, r4, r5⟩ := hv
  rcases Nat.eq_zero_or_pos l.length with hz | hz
  · have hl : l = [] := List.eq_nil_of_length_eq_zero hz
    subst hl
    obtain ⟨i0, hi0, hz0, hz1, hz2⟩ := info_parts info5
    refine ⟨w, goInt 0, ?_, by rw [putAt_nil]; exact h, Mod.refl _ _, rfl⟩
    cases A with
    | none => simp [Builtin.copy_, run_underlying Try.underlying22, Builtin.lenOf, Builtin.firstCells, sizeOf, typeInfo, hi0, storeCells]
    | some ad => simp [Builtin.copy_, run_underlying Try.underlying22, Builtin.lenOf, Builtin.firstCells, sizeOf, typeInfo, hi0, storeCells, loadCells, loadCellsFrom]
  · rcases r5 with rfl | ⟨b', off', rfl, hb, hc⟩
    · simp at hz
    have hmin : (l.map bcell).length = Nat.min l.length dl := by rw [List.length_map]; exact (Nat.min_eq_left hdl).symm
    have hrun := run_copy_row (P := Try.prog) w 22 22 ty 5 g off dl dc ⟨b', off', none⟩ l.length c (L.map bcell).toArray t (l.map bcell) Try.underlying22 (by kernel_rfl) h.blk hmin
      (fun j u hu => bcells_at hc j u hu) (by rw [List.length_map, List.size_toArray, List.length_map]; exact hfit) (by intro u hu; simp [bcell] at hu; obtain ⟨x, _, rfl⟩ := hu; rfl)
    refine ⟨_, _, hrun, ⟨?_, putAt_mem h.lt r1, by rw [putAt_len hfit]; exact h.len⟩, (Mod.refl (fun k => k = g) w).setRow (fun _ => rfl) _, by simp⟩
    have e : ((L.map bcell).toArray.toList.take off ++ l.map bcell ++ (L.map bcell).toArray.toList.drop (off + (l.map bcell).length)).toArray = ((putAt L off l).map bcell).toArray := by
      unfold putAt
      simp
    rw [e]
    exact setRow_heap w g _ _ _ _ h.blk
section
variable {ops : Array Oper} {rest : List Oper} {o : Oper} {a : Act} {Q : Exit → Act → World → Prop} {w : World}
theorem wpList_copyB (hgd : o.guard = none) (x y : Operand) (hop : o.op = .call { callee := .builtin .copy, args := #[x, y], argTypes := #[22, 22] }) (g B off dl dc : Nat) (t : TypeId) (L l : List Nat) (v : Value)
    (hx : a.eval x = .slice (some ⟨g, off, none⟩) dl dc) (hy : a.eval y = v) (hB : BB w g t L) (hv : RB w B v l) (hfit : off + l.length ≤ L.length) (hdl : l.length ≤ dl)
    (h : ∀ w' u, BB w' g t (putAt L off l) → Mod (fun k => k = g) w w' → w'.heap.size = w.heap.size → wpList Try.prog ops Q rest (a.put o.dst u) w') : wpList Try.prog ops Q (o :: rest) a w := by
  refine wpList_plain hgd fun K' hK' => ?_
  obtain ⟨w', u, hrun, h1, h2, h3⟩ := hB.copied hv hfit dl dc hdl o.type
  unfold Oper.wp
  simp only [execOp, hop, resolve, invoke, builtin, Sem.run_bind, Sem.run_pure, Result.andThen_ok, List.map_toArray, List.map_cons, List.map_nil, hx, hy, hrun]
  exact hK' _ _ (h w' u h1 h2 h3)
end
/-! ### Lists -/
theorem putAt_mid {P M T d : List Nat} (hd : d.length = M.length) : putAt (P ++ M ++ T) P.length d = P ++ d ++ T := by
  unfold putAt
  have h1 : (P ++ M ++ T).take P.length = P := by rw [List.append_assoc, List.take_left]
  rw [h1, hd, List.drop_left' (by simp)]
theorem zeros_split (a b : Nat) : List.replicate (a + b) (0 : Nat) = List.replicate a 0 ++ List.replicate b 0 := (List.replicate_append_replicate).symm
theorem putAt_zeros {X d T : List Nat} {z : Nat} (hd : d.length ≤ z) : putAt (X ++ List.replicate z 0 ++ T) X.length d = X ++ d ++ List.replicate (z - d.length) 0 ++ T := by
  obtain ⟨r, rfl⟩ : ∃ r, z = d.length + r := ⟨z - d.length, by omega⟩
  rw [zeros_split, show X ++ (List.replicate d.length 0 ++ List.replicate r 0) ++ T = X ++ List.replicate d.length 0 ++ (List.replicate r 0 ++ T) by simp only [List.append_assoc], putAt_mid (by simp), Nat.add_sub_cancel_left]
  simp only [List.append_assoc]
theorem putAt_zeros_end {X d T : List Nat} {z : Nat} (hd : d.length ≤ z) : putAt (X ++ List.replicate z 0 ++ T) (X.length + (z - d.length)) d = X ++ List.replicate (z - d.length) 0 ++ (d ++ T) := by
  obtain ⟨r, rfl⟩ : ∃ r, z = r + d.length := ⟨z - d.length, by omega⟩
  rw [zeros_split, Nat.add_sub_cancel]
  have h1 : X.length + r = (X ++ List.replicate r 0).length := by simp
  rw [h1, ← List.append_assoc, putAt_mid (by simp)]
  simp
theorem set_zeros {X T : List Nat} {z y : Nat} (hz : 1 ≤ z) : (X ++ List.replicate z 0 ++ T).set X.length y = X ++ [y] ++ List.replicate (z - 1) 0 ++ T := by
  obtain ⟨r, rfl⟩ : ∃ r, z = r + 1 := ⟨z - 1, by omega⟩
  rw [List.append_assoc, List.set_append_right _ _ (Nat.le_refl _), Nat.sub_self, List.replicate_succ, List.cons_append, List.set_cons_zero]
  simp
end Go.Proofs.Ytknhlbbgjfcjaaa
