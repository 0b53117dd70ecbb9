/-
  Bytes copied into a sector; one step more, the power off, in memory. The walks of Write's closure and of Sync's.
-/
import Derived.Test.YtbagmmncjmbboaaGreatD3
namespace Go.Proofs.YtbagmmncjmbboaaGreat
open Go.RowKit Go.Maps
set_option linter.unusedVariables false

theorem still_tail_at {P : Program} {id : Nat} {Q : Exit → Act → World → Prop} {a : Act} {w : World} {l : List Oper} (n : Nat) (W2 : World) (hW : W2 = w.drew) (hm : P.follows .mixedOrders = true) (hB : Region.lexTailB .any l.toArray n = true)
    (h : wpStill P l.toArray W2 (fun a' => wpList P l.toArray Q (l.drop n) a' W2) (l.take n) a) : (Code.region id l.toArray true).wp P Q a w := by
  subst hW; exact wp_region_still_tail n hm hB h

theorem drop_past {α : Type} {A X : List α} {n m : Nat} (h : n = A.length + m) : (A ++ X).drop n = X.drop m := by
  subst h; simp [List.drop_append]

theorem flat_mid : ∀ (L : List (List Nat)) (i : Nat) (l0 : List Nat) (k : Nat), (∀ x ∈ L, x.length = 512) → L[i]? = some l0 → k ≤ 512 →
    (L.flatMap secC).drop (i * 512 + k) = secC (l0.drop k) ++ (L.flatMap secC).drop (i * 512 + 512)
  | [], i, l0, k, _, h, _ => by simp at h
  | a :: r, 0, l0, k, hL, h, hk => by
    simp at h; subst h
    have ha : (secC a).length = 512 := by rw [secC_len]; exact hL a (by simp)
    simp only [Nat.zero_mul, Nat.zero_add, List.flatMap_cons]
    rw [List.drop_append_of_le_length (by omega), List.drop_append_of_le_length (by omega), List.drop_eq_nil_of_le (Nat.le_of_eq ha), List.nil_append]
    congr 1
    unfold secC
    rw [List.map_drop]
  | a :: r, i + 1, l0, k, hL, h, hk => by
    have ha : (secC a).length = 512 := by rw [secC_len]; exact hL a (by simp)
    have h1 := flat_mid r i l0 k (fun x hx => hL x (by simp [hx])) (by simpa using h) hk
    simp only [List.flatMap_cons]
    rw [drop_past (m := i * 512 + k) (by omega), drop_past (m := i * 512 + 512) (by omega)]
    exact h1

/-- A sector behind a copy into it. -/
def over (l l0 : List Nat) : List Nat := l.take 512 ++ l0.drop (l.take 512).length

theorem over_ok {l l0 : List Nat} (h : ∀ x ∈ l, x < 256) (h0 : SecOk l0) : SecOk (over l l0) := by
  have := h0.1
  refine ⟨by unfold over; rw [List.length_append, List.length_drop, List.length_take]; omega, fun x hx => ?_⟩
  unfold over at hx
  rcases List.mem_append.1 hx with hx | hx
  · exact h x (List.mem_of_mem_take hx)
  · exact h0.2 x (List.mem_of_mem_drop hx)

theorem over_sec0 (l : List Nat) : over l sec0 = pad (l.take 512) := by
  unfold over pad sec0
  rw [List.drop_replicate]

theorem Mod.setRow {S : Nat → Prop} {w w1 : World} (h : Mod S w w1) {b : Nat} (hb : b < w.heap.size → S b) (cs : Array Value) : Mod S w (w1.setRow b cs) :=
  h.trans (S' := fun k => k = b) ⟨rfl, rfl, rfl, by simp, fun k hk hn => setRow_other w1 b k cs hn⟩ fun k hk e => by subst e; exact hb hk

theorem Secs.copied {w : World} {b B : Nat} {L : List (List Nat)} {i : Nat} {l0 l : List Nat} {v : Value} (h : Secs w b L) (hi : L[i]? = some l0) (hv : RB w B v l) (ty : TypeId) :
    ∃ w' u, (Builtin.copy_ #[22, 22] ty #[.slice (some ⟨b, i * 512, none⟩) 512 512, v]).run Tryz.prog w = .ok u w' ∧ Secs w' b (L.set i (over l l0)) ∧ Mod (fun k => k = b) w w' ∧ w'.heap.size = w.heap.size := by
  have hil := (List.getElem?_eq_some_iff.1 hi).1
  have h0 : SecOk l0 := h.ok l0 (List.mem_of_getElem? hi)
  have hov : SecOk (over l l0) := over_ok hv.1 h0
  have hok : ∀ x ∈ L.set i (over l l0), SecOk x := fun x hx => by
    rcases List.mem_or_eq_of_mem_set hx with hx | hx
    · exact h.ok x hx
    · rw [hx]; exact hov
  obtain ⟨r1, r2, A, c, rfl, r3, r4, r5⟩ := hv
  have hnil : l = [] → Secs w b (L.set i (over l l0)) := by
    rintro rfl
    have : over [] l0 = l0 := by simp [over]
    rw [this]
    have e : L.set i l0 = L := by
      apply List.ext_getElem?
      intro k
      rw [List.getElem?_set]
      split
      · rename_i e; subst e; exact hi.symm
      · rfl
    rw [e]; exact h
  rcases Nat.eq_zero_or_pos l.length with hz | hz
  · have hl : l = [] := List.eq_nil_of_length_eq_zero hz
    have h1 := hnil hl
    subst hl
    obtain ⟨i0, hi0, hz0, hz1, hz2⟩ := info_parts info5
    refine ⟨w, goInt 0, ?_, h1, Mod.refl _ _, rfl⟩
    cases A with
    | none => simp [Builtin.copy_, run_underlying Tryz.underlying22, Builtin.lenOf, Builtin.firstCells, sizeOf, typeInfo, hi0, storeCells]
    | some ad => simp [Builtin.copy_, run_underlying Tryz.underlying22, Builtin.lenOf, Builtin.firstCells, sizeOf, typeInfo, hi0, storeCells, loadCells, loadCellsFrom]
  · rcases r5 with rfl | ⟨b', off, rfl, hb, hc⟩
    · simp at hz
    have hsz := h.size
    have hmin : (secC (l.take 512)).length = Nat.min l.length 512 := by rw [secC_len, List.length_take]; exact Nat.min_comm _ _
    have hrun := run_copy_row (P := Tryz.prog) w 22 22 ty 5 b (i * 512) 512 512 ⟨b', off, none⟩ l.length c (flat L) 129 (secC (l.take 512)) Tryz.underlying22 (by kernel_rfl) h.blk hmin
      (fun j u hu => bcells_at hc j u (by
        unfold secC at hu
        rw [List.map_take, List.getElem?_take] at hu
        split at hu
        · exact hu
        · cases hu)) (by rw [secC_len, List.length_take, hsz]; have := Nat.mul_le_mul_right 512 (Nat.succ_le_of_lt hil); omega) (secC_one _)
    refine ⟨_, _, hrun, ⟨?_, hok⟩, (Mod.refl (fun k => k = b) w).setRow (fun _ => rfl) _, by simp⟩
    have hk : (l.take 512).length ≤ 512 := by rw [List.length_take]; omega
    have e : ((flat L).toList.take (i * 512) ++ secC (l.take 512) ++ (flat L).toList.drop (i * 512 + (secC (l.take 512)).length)).toArray = flat (L.set i (over l l0)) := by
      rw [← flat_set h.lens hil hov.1]
      unfold flat
      dsimp only
      rw [secC_len, secC_len, hov.1, flat_mid L i l0 _ h.lens hi hk]
      unfold over
      have e2 : ∀ x y : List Nat, secC (x ++ y) = secC x ++ secC y := fun x y => List.map_append
      rw [e2]
      simp only [List.append_assoc]
    rw [e]
    exact setRow_heap w b _ _ _ _ h.blk

section

variable {ops : Array Oper} {rest : List Oper} {o : Oper} {a : Act} {Q : Exit → Act → World → Prop} {w : World}

theorem wpList_copyS_ (hg : o.guard = none) (x y : Operand) (hop : o.op = .call { callee := .builtin .copy, args := #[x, y], argTypes := #[22, 22] }) (b B : Nat) (L : List (List Nat)) (i : Nat) (l0 l : List Nat) (v : Value)
    (hx : a.eval x = .slice (some ⟨b, i * 512, none⟩) 512 512) (hy : a.eval y = v) (hS : Secs w b L) (hi : L[i]? = some l0) (hv : RB w B v l)
    (h : ∀ w' u, Secs w' b (L.set i (over l l0)) → Mod (fun k => k = b) w w' → w'.heap.size = w.heap.size → wpList Tryz.prog ops Q rest (a.put o.dst u) w') : wpList Tryz.prog ops Q (o :: rest) a w := by
  refine wpList_plain hg fun K' hK' => ?_
  obtain ⟨w', u, hrun, h1, h2, h3⟩ := hS.copied hi hv o.type
  unfold Oper.wp
  simp only [execOp, hop, resolve, invoke, builtin, Sem.run_bind, Sem.run_pure, Result.andThen_ok, List.map_toArray, List.map_cons, List.map_nil, hx, hy, hrun]
  exact hK' _ _ (h w' u h1 h2 h3)

end

section

variable {P : Program} {ops : Array Oper} {rest : List Oper} {o : Oper} {a : Act} {w : World} {Q : Act → Prop}

/-- An operation that yields a value and leaves the world, in a region whose order is drawn. -/
theorem still_val (hg : o.guard = none) {v : Value} (hrun : (execOp a.eval o).run P w = .ok (.value v) w) (h : wpStill P ops w Q rest (a.put o.dst v)) : wpStill P ops w Q (o :: rest) a := by
  have hw : Region.wanted o (yielded ops a.tmps) = true := by simp [Region.wanted, hg]
  unfold wpStill
  rw [if_pos hw]
  unfold Oper.still Oper.stillUpon
  rw [hrun]
  exact ⟨rfl, h⟩

theorem still_loadS (hg : o.guard = none) (x : Operand) (hop : o.op = .load 129 x) (b : Nat) (L : List (List Nat)) (i : Nat) (l : List Nat) (hx : a.eval x = .pointer (some ⟨b, i * 512, none⟩)) (hS : Secs w b L) (hi : L[i]? = some l)
    (h : wpStill Tryz.prog ops w Q rest (a.put o.dst (secV l))) : wpStill Tryz.prog ops w Q (o :: rest) a := by
  refine still_val hg (v := secV l) ?_ h
  have h1 := hS.loadAt hi
  simp only [execOp, hop, hx]
  simp [h1, Result.andThen]

theorem still_lookI (hg : o.guard = none) (m x : Operand) (t : TypeId) (c : Bool) (hop : o.op = Op.lookup t m x c) (u mv xv : Value) (hm : a.eval m = mv) (hx : a.eval x = xv) (hrun : (Instr.lookup t mv xv c).run P w = .ok u w)
    (h : wpStill P ops w Q rest (a.put o.dst u)) : wpStill P ops w Q (o :: rest) a := by
  refine still_val hg (v := u) ?_ h
  simp only [execOp, hop, hm, hx]
  simp [hrun, Result.andThen]

end

section

variable {w : World} {p sb mb : Nat} {pl : Option Nat} {s : DS}

theorem DiskAt.tick (h : DiskAt w p sb mb pl s) : DiskAt (w.setCell ⟨p, 3, none⟩ (.int .i64 ((s.steps : Int) + 1))) p sb mb pl s.tick := by
  obtain ⟨n1, n2, n3, n4⟩ := h.ne
  have hm : Mod (fun k => k = p) w (w.setCell ⟨p, 3, none⟩ (.int .i64 ((s.steps : Int) + 1))) := (Mod.refl (fun k => k = p) w).setCell (p := ⟨p, 3, none⟩) (fun _ => rfl) _
  refine ⟨⟨h.ok.num, h.ok.safe, h.ok.pend⟩, h.blk.set_ 3 _, h.rows.mod hm n1.symm, ?_, ?_⟩
  · obtain ⟨n, hp⟩ := h.pend
    exact ⟨n, hp.mod hm n2.symm⟩
  · rcases h.plan with hp | ⟨b, n, g, e, hne, hg, hk⟩
    · exact .inl hp
    · exact .inr ⟨b, n, g, e, hne, hg.mod hm (n4 b e).1, hk⟩

theorem DiskAt.power (h : DiskAt w p sb mb pl s) (y : Bool) : DiskAt (w.setCell ⟨p, 4, none⟩ (.bool y)) p sb mb pl { s with off := y } := by
  obtain ⟨n1, n2, n3, n4⟩ := h.ne
  have hm : Mod (fun k => k = p) w (w.setCell ⟨p, 4, none⟩ (.bool y)) := (Mod.refl (fun k => k = p) w).setCell (p := ⟨p, 4, none⟩) (fun _ => rfl) _
  refine ⟨⟨h.ok.num, h.ok.safe, h.ok.pend⟩, h.blk.set_ 4 _, h.rows.mod hm n1.symm, ?_, ?_⟩
  · obtain ⟨n, hp⟩ := h.pend
    exact ⟨n, hp.mod hm n2.symm⟩
  · rcases h.plan with hp | ⟨b, n, g, e, hne, hg, hk⟩
    · exact .inl hp
    · exact .inr ⟨b, n, g, e, hne, hg.mod hm (n4 b e).1, hk⟩

theorem DiskAt.look (h : DiskAt w p sb mb pl s) (k : Int) (hk : I64 k) : (Instr.lookup 133 (.map pl) (.int .i64 k) false).run Tryz.prog w = .ok (.int .i64 (s.plan k)) w := by
  rcases h.plan with ⟨rfl, hp⟩ | ⟨b, n, g, rfl, hne, hg, hp⟩
  · have := Maps.look_nil (w := w) false keyed3 Tryz.underlying133 (z := .int .i64 0) (by kernel_rfl) (key3 hk)
    rw [hp]; exact this
  · have := hg.look Tryz.underlying133 (z := .int .i64 0) (by kernel_rfl) ⟨0, rfl⟩ hk
    rw [this, hp]
    cases g k <;> rfl

end

end Go.Proofs.YtbagmmncjmbboaaGreat
