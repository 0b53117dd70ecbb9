/-
  A disk in memory: its block, its sectors' block, its maps. The walks of New, Size, Steps, Power, isSector.
-/
import Derived.Test.YtbagmmncjmbboaaGreatD1
import Derived.RegionTactic
import Derived.Laws.ResultCell
import Derived.Laws.MakeOwn
import Derived.Laws.CopyRow
import Derived.Outline
namespace Go.Proofs.YtbagmmncjmbboaaGreat
open Go.RowKit Go.Maps
set_option linter.unusedVariables false

theorem size_alloc2_ (w : World) (o o' : Obj) : ((w.alloc o).alloc o').heap.size = w.heap.size + 2 := by simp

theorem size_alloc3_ (w : World) (o o' o2 : Obj) : (((w.alloc o).alloc o').alloc o2).heap.size = w.heap.size + 3 := by simp

theorem size_alloc_ (w : World) (o : Obj) : (w.alloc o).heap.size = w.heap.size + 1 := by simp

def secC (l : List Nat) : List Value := l.map Proofs.YtbagmmncjmbboaaGreat.bcell

def secV (l : List Nat) : Value := .agg (secC l).toArray

theorem secC_len (l : List Nat) : (secC l).length = l.length := by simp [secC]

theorem secC_one (l : List Nat) : ∀ v ∈ secC l, v.oneCell' = true := by
  intro v hv
  unfold secC at hv
  obtain ⟨x, _, rfl⟩ := List.mem_map.1 hv
  rfl

theorem bcell_inj {a b : Nat} (h : Proofs.YtbagmmncjmbboaaGreat.bcell a = Proofs.YtbagmmncjmbboaaGreat.bcell b) : a = b := by
  unfold Proofs.YtbagmmncjmbboaaGreat.bcell at h
  injection h with _ h
  omega

theorem secC_inj : ∀ {a b : List Nat}, secC a = secC b → a = b
  | [], [], _ => rfl
  | [], _ :: _, h => by simp [secC] at h
  | _ :: _, [], h => by simp [secC] at h
  | x :: r, y :: t, h => by
    simp only [secC, List.map_cons, List.cons.injEq] at h
    rw [bcell_inj h.1, secC_inj (a := r) (b := t) h.2]

theorem secV_inj {a b : List Nat} (h : secV a = secV b) : a = b := by
  unfold secV at h
  injection h with h
  exact secC_inj (by simpa using h)

def isSecV (v : Value) : Prop := ∃ l, SecOk l ∧ v = secV l

theorem isSecV_mk {l : List Nat} (h : SecOk l) : isSecV (secV l) := ⟨l, h, rfl⟩

theorem isSecV_inv {l : List Nat} (h : isSecV (secV l)) : SecOk l := by
  obtain ⟨l', h1, h2⟩ := h
  rw [secV_inj h2]; exact h1

def isIntV (v : Value) : Prop := ∃ a : Int, v = .int .i64 a

def secZ : Value := secV sec0

theorem zero94 (w : World) : (zeroValue 129).run Tryz.prog w = .ok secZ w := by kernel_rfl

theorem info94 : (Tryz.prog.info? 129).map (fun i => (i.zero, i.size, i.bytes)) = some (some secZ, 512, 512) := by kernel_rfl

theorem size94 : (Tryz.prog.info? 129).map (·.size) = some 512 := by kernel_rfl

theorem secZ_cells : secZ.cells = (secC sec0).toArray := rfl

/-- The cells of many sectors. -/
def flat (L : List (List Nat)) : Array Value := (L.flatMap secC).toArray

theorem flat_len' {L : List (List Nat)} (h : ∀ l ∈ L, l.length = 512) : (L.flatMap secC).length = L.length * 512 := by
  induction L with
  | nil => rfl
  | cons l r ih =>
    rw [List.flatMap_cons, List.length_append, secC_len, h l (by simp), ih (fun x hx => h x (by simp [hx])), List.length_cons]
    omega

theorem flat_at {L : List (List Nat)} (h : ∀ l ∈ L, l.length = 512) : ∀ (i : Nat) l, L[i]? = some l → ∀ j u, (secC l)[j]? = some u → (flat L)[i * 512 + j]? = some u := by
  unfold flat
  induction L with
  | nil => intro i l hl; simp at hl
  | cons a r ih =>
    intro i l hl j u hu
    have ha : a.length = 512 := h a (by simp)
    have hj := (List.getElem?_eq_some_iff.1 hu).1
    match i, hl with
    | 0, hl =>
      simp at hl; subst hl
      rw [List.flatMap_cons, Nat.zero_mul, Nat.zero_add]
      simp only [List.getElem?_toArray]
      rw [List.getElem?_append_left hj]; exact hu
    | i + 1, hl =>
      have := ih (fun x hx => h x (by simp [hx])) i l (by simpa using hl) j u hu
      simp only [List.getElem?_toArray] at this ⊢
      rw [List.flatMap_cons, List.getElem?_append_right (by rw [secC_len, ha]; omega), secC_len, ha, show (i + 1) * 512 + j - 512 = i * 512 + j by omega]
      exact this

theorem made_flat (n : Nat) : madeCells secZ.cells (n * 512) = flat (List.replicate n sec0) := by
  have hlen : ∀ l ∈ List.replicate n sec0, l.length = 512 := fun l hl => by rw [(List.mem_replicate.1 hl).2]; exact sec0_ok.1
  have hz : secZ.cells.size = 512 := by rw [secZ_cells, List.size_toArray, secC_len]; exact sec0_ok.1
  apply Array.ext
  · rw [size_madeCells]; unfold flat; rw [List.size_toArray, flat_len' hlen, List.length_replicate]
  · intro i h1 h2
    rw [size_madeCells] at h1
    have h512 : 0 < 512 := by omega
    have e : i = i / 512 * 512 + i % 512 := by omega
    have hi : i / 512 < n := by omega
    have hm : i % 512 < 512 := Nat.mod_lt _ (by omega)
    have h3 : (secC sec0)[i % 512]? = some (.int .u8 0) := by
      unfold secC sec0
      rw [List.getElem?_map, List.getElem?_replicate, if_pos hm]
      rfl
    have h4 := flat_at hlen (i / 512) sec0 (by rw [List.getElem?_replicate, if_pos hi]) (i % 512) _ h3
    rw [← e] at h4
    rw [Array.getElem?_eq_getElem h2] at h4
    injection h4 with h4
    rw [h4]
    have h5 : (madeCells secZ.cells (n * 512))[i] = secZ.cells[i % secZ.cells.size]! := by simp [madeCells]
    rw [h5, hz, secZ_cells]
    have h6 : (secC sec0).toArray[i % 512]? = some (.int .u8 0) := by rw [List.getElem?_toArray]; exact h3
    rw [getElem!_def, h6]

/-- Sectors that lie in a block, one behind the other. -/
structure Secs (w : World) (b : Nat) (L : List (List Nat)) : Prop where
  blk : Blk w b 129 (flat L)
  ok : ∀ l ∈ L, SecOk l

section

variable {w w' : World} {b : Nat} {L : List (List Nat)}

theorem Secs.lens (h : Secs w b L) : ∀ l ∈ L, l.length = 512 := fun l hl => (h.ok l hl).1

theorem Secs.lt (h : Secs w b L) : b < w.heap.size := h.blk.lt

theorem Secs.mod {S : Nat → Prop} (h : Secs w b L) (hm : Mod S w w') (hn : ¬ S b) : Secs w' b L := ⟨h.blk.mod hm hn, h.ok⟩

theorem Secs.below {B : Nat} (h : Secs w b L) (hb : Below B w w') (hB : b < B) : Secs w' b L := ⟨h.blk.below hb hB, h.ok⟩

theorem Secs.alloc (h : Secs w b L) (o : Obj) : Secs (w.alloc o) b L := ⟨h.blk.alloc o, h.ok⟩

theorem Secs.size (h : Secs w b L) : (flat L).size = L.length * 512 := by unfold flat; rw [List.size_toArray, flat_len' h.lens]

theorem Secs.range (h : Secs w b L) {i : Nat} {l : List Nat} (hi : L[i]? = some l) : w.rangeAt b (i * 512) (secC l) := by
  intro j v hv
  rw [h.blk.cell]
  exact flat_at h.lens i l hi j v hv

theorem Secs.there (h : Secs w b L) {i : Nat} (hi : i < L.length) : w.there b (i * 512) 512 := by
  intro j hj
  refine ⟨?_, h.blk.frozen _⟩
  have : i * 512 + j < (flat L).size := by rw [h.size]; omega
  rw [h.blk.cell, Array.getElem?_eq_getElem this]
  rfl

theorem size_setCells_ (b : Nat) : ∀ (vs : List Value) (o : Nat) (w : World), (w.setCells b o vs).heap.size = w.heap.size
  | [], _, _ => rfl
  | v :: r, o, w => by unfold World.setCells; rw [size_setCells_ b r]; simp

theorem blk_setCells : ∀ (vs : List Value) (o : Nat) (w : World) (cs : Array Value) (t : TypeId), Blk w b t cs → o + vs.length ≤ cs.size →
    Blk (w.setCells b o vs) b t (cs.toList.take o ++ vs ++ cs.toList.drop (o + vs.length)).toArray
  | [], o, w, cs, t, h, _ => by
    simp only [World.setCells, List.append_nil, List.length_nil, Nat.add_zero, List.take_append_drop, Array.toArray_toList]
    exact h
  | v :: r, o, w, cs, t, h, hl => by
    simp only [List.length_cons] at hl
    have h1 := blk_setCells r (o + 1) (w.setCell ⟨b, o, none⟩ v) _ t (h.set_ o v) (by simp; omega)
    unfold World.setCells
    rw [Array.toList_setIfInBounds, list_seg_step _ _ _ _ (by simp; omega)] at h1
    simpa [List.length_cons] using h1

theorem flat_set_list {l : List Nat} (hl : l.length = 512) : ∀ (L : List (List Nat)) (i : Nat), (∀ x ∈ L, x.length = 512) → i < L.length →
    (L.flatMap secC).take (i * 512) ++ secC l ++ (L.flatMap secC).drop (i * 512 + 512) = (L.set i l).flatMap secC
  | [], i, _, hi => by simp at hi
  | a :: r, 0, hL, _ => by
    have ha : (secC a).length = 512 := by rw [secC_len]; exact hL a (by simp)
    simp only [Nat.zero_mul, List.take_zero, List.nil_append, Nat.zero_add, List.set_cons_zero, List.flatMap_cons]
    rw [List.drop_append_of_le_length (by omega), List.drop_eq_nil_of_le (by omega), List.nil_append]
  | a :: r, i + 1, hL, hi => by
    have ha : (secC a).length = 512 := by rw [secC_len]; exact hL a (by simp)
    have h1 := flat_set_list hl r i (fun x hx => hL x (by simp [hx])) (by simpa using hi)
    simp only [List.set_cons_succ, List.flatMap_cons]
    rw [← h1, List.take_append, List.drop_append, List.take_of_length_le (by omega), List.drop_eq_nil_of_le (by omega), ha,
      show (i + 1) * 512 - 512 = i * 512 by omega, show (i + 1) * 512 + 512 - 512 = i * 512 + 512 by omega, List.nil_append]
    simp only [List.append_assoc]

theorem flat_set {i : Nat} {l : List Nat} (hL : ∀ x ∈ L, x.length = 512) (hi : i < L.length) (hl : l.length = 512) :
    ((flat L).toList.take (i * 512) ++ secC l ++ (flat L).toList.drop (i * 512 + (secC l).length)).toArray = flat (L.set i l) := by
  unfold flat
  rw [secC_len, hl, flat_set_list hl L i hL hi]

theorem Secs.store (h : Secs w b L) {i : Nat} {l : List Nat} (hi : i < L.length) (hl : SecOk l) : Secs (w.setCells b (i * 512) (secC l)) b (L.set i l) := by
  refine ⟨?_, fun x hx => ?_⟩
  · have := blk_setCells (secC l) (i * 512) w _ _ h.blk (by rw [h.size, secC_len, hl.1]; omega)
    rw [flat_set h.lens hi hl.1] at this
    exact this
  · rcases List.mem_or_eq_of_mem_set hx with hx | hx
    · exact h.ok x hx
    · rw [hx]; exact hl

theorem Secs.load (h : Secs w b L) {i : Nat} {l : List Nat} (hi : L[i]? = some l) : (loadVar 129 ⟨b, i * 512, none⟩).run Tryz.prog w = .ok (secV l) w :=
  run_loadVar_mid w b (i * 512) 129 (secC l) _ (h.range hi) Tryz.underlying129 rfl (by rw [size94, secC_len, h.lens l (List.mem_of_getElem? hi)])

theorem Secs.loadAt (h : Secs w b L) {i : Nat} {l : List Nat} (hi : L[i]? = some l) : (Instr.loadAt 129 (.pointer (some ⟨b, i * 512, none⟩))).run Tryz.prog w = .ok (secV l) w :=
  run_loadAt_mid w b (i * 512) 129 (secC l) _ (h.range hi) Tryz.underlying129 rfl (by rw [size94, secC_len, h.lens l (List.mem_of_getElem? hi)])

theorem Secs.new (w : World) : Secs (w.alloc (.cells (flat [sec0]) 129)) w.heap.size [sec0] := ⟨Blk.new _ _ _, fun l hl => by rw [List.mem_singleton.1 hl]; exact sec0_ok⟩

section

variable {ops : Array Oper} {rest : List Oper} {o : Oper} {a : Act} {Q : Exit → Act → World → Prop} {d : Option Tmp} {ty : TypeId} {pos : String} {af : Array Edge}

theorem wpList_allocS_ (hg : o.guard = none) (hop : o.op = .alloc 129) (n : Nat) (hn : w.heap.size = n)
    (h : wpList Tryz.prog ops Q rest (a.put o.dst (.pointer (some ⟨n, 0, none⟩))) (w.alloc (.cells (flat [sec0]) 129))) : wpList Tryz.prog ops Q (o :: rest) a w := by
  subst hn
  refine wpList_plain hg fun K' hK' => ?_
  have hrun : (Instr.alloc 129 true (.tuple #[])).run Tryz.prog w = .ok (.pointer (some ⟨w.heap.size, 0, none⟩)) (w.alloc (.cells (flat [sec0]) 129)) := by
    have e : secZ.cells = flat [sec0] := by unfold flat; rw [secZ_cells]; simp
    unfold Instr.alloc
    rw [Sem.run_bind, zero94, Result.andThen_ok]
    simp [newVar, newRow, e]
  unfold Oper.wp
  simp only [execOp, hop, Sem.run_bind, hrun, Result.andThen_ok, Sem.run_pure]
  exact hK' _ _ h

theorem wpList_loadS_ (hg : o.guard = none) (x : Operand) (hop : o.op = .load 129 x) (b : Nat) (L : List (List Nat)) (i : Nat) (l : List Nat) (hx : a.eval x = .pointer (some ⟨b, i * 512, none⟩)) (hS : Secs w b L) (hi : L[i]? = some l)
    (h : wpList Tryz.prog ops Q rest (a.put o.dst (secV l)) w) : wpList Tryz.prog ops Q (o :: rest) a w :=
  wpList_load_mid hg 129 x hop b (i * 512) hx (secC l) _ (hS.range hi) Tryz.underlying129 rfl (by rw [size94, secC_len, hS.lens l (List.mem_of_getElem? hi)]) h

theorem wpList_storeS_ (hg : o.guard = none) (x y : Operand) (hop : o.op = .store 129 x y) (b : Nat) (L : List (List Nat)) (i : Nat) (l : List Nat) (hx : a.eval x = .pointer (some ⟨b, i * 512, none⟩)) (hy : a.eval y = secV l) (hS : Secs w b L) (hi : i < L.length) (hl : SecOk l)
    (h : ∀ w', Secs w' b (L.set i l) → Mod (fun k => k = b) w w' → w'.heap.size = w.heap.size → wpList Tryz.prog ops Q rest (a.put o.dst undef) w') : wpList Tryz.prog ops Q (o :: rest) a w := by
  refine wpList_store_mid hg 129 x y hop b (i * 512) (secC l).toArray hx hy (by simpa [secC_len, hl.1] using hS.there hi) (by rw [size94, List.size_toArray, secC_len, hl.1]) (all_oneCell_toArray (secC_one l)) ?_
  refine h _ (hS.store hi hl) ((Mod.refl (fun k => k = b) w).setCells (fun _ => rfl) _ _) (size_setCells_ _ _ _ _)

theorem wpList_allocS (n : Nat) (hn : w.heap.size = n)
    (h : wpList Tryz.prog ops Q rest (a.put d (.pointer (some ⟨n, 0, none⟩))) (w.alloc (.cells (flat [sec0]) 129))) : wpList Tryz.prog ops Q ({ dst := d, op := .alloc 129, type := ty, pos := pos, after := af, guard := none } :: rest) a w :=
  wpList_allocS_ rfl rfl n hn h

theorem wpList_loadS {x : Operand} (b : Nat) (L : List (List Nat)) (i : Nat) (l : List Nat) (hx : a.eval x = .pointer (some ⟨b, i * 512, none⟩)) (hS : Secs w b L) (hi : L[i]? = some l)
    (h : wpList Tryz.prog ops Q rest (a.put d (secV l)) w) : wpList Tryz.prog ops Q ({ dst := d, op := .load 129 x, type := ty, pos := pos, after := af, guard := none } :: rest) a w :=
  wpList_loadS_ rfl x rfl b L i l hx hS hi h

theorem wpList_storeS {x y : Operand} (b : Nat) (L : List (List Nat)) (i : Nat) (l : List Nat) (hx : a.eval x = .pointer (some ⟨b, i * 512, none⟩)) (hy : a.eval y = secV l) (hS : Secs w b L) (hi : i < L.length) (hl : SecOk l)
    (h : ∀ w', Secs w' b (L.set i l) → Mod (fun k => k = b) w w' → w'.heap.size = w.heap.size → wpList Tryz.prog ops Q rest (a.put d undef) w') : wpList Tryz.prog ops Q ({ dst := d, op := .store 129 x y, type := ty, pos := pos, after := af, guard := none } :: rest) a w :=
  wpList_storeS_ rfl x y rfl b L i l hx hy hS hi hl h

end

end

/-- The disk s in memory: p its block, sb its sectors', mb that of what is pending, pl that of the plan. -/
structure DiskAt (w : World) (p sb mb : Nat) (pl : Option Nat) (s : DS) : Prop where
  ok : s.Ok
  blk : Blk w p 135 #[.slice (some ⟨sb, 0, none⟩) s.safe.length s.safe.length, .map (some mb), .map pl, .int .i64 s.steps, .bool s.off]
  rows : Secs w sb s.safe
  pend : ∃ n, MapI isSecV w mb n (fun i => (s.pend i).map secV)
  plan : (pl = none ∧ ∀ k, s.plan k = 0) ∨ ∃ (b n : Nat) (g : Int → Option Int), pl = some b ∧ b ≠ mb ∧ MapI isIntV w b n (fun i => (g i).map (Value.int .i64)) ∧ ∀ k, s.plan k = (g k).getD 0

section

variable {w w' : World} {p sb mb : Nat} {pl : Option Nat} {s : DS}

theorem DiskAt.lt (h : DiskAt w p sb mb pl s) : p < w.heap.size ∧ sb < w.heap.size ∧ mb < w.heap.size ∧ ∀ b, pl = some b → b < w.heap.size := by
  refine ⟨h.blk.lt, h.rows.lt, ?_, fun b hb => ?_⟩
  · obtain ⟨n, hm⟩ := h.pend; exact hm.lt
  · rcases h.plan with ⟨h1, _⟩ | ⟨b', n, g, h1, h2, h3, _⟩
    · rw [h1] at hb; cases hb
    · rw [h1] at hb; injection hb with hb; subst hb; exact h3.lt

theorem MapI.cells_ne {q : Value → Prop} {b n g : Nat} {f : Int → Option Value} {t : TypeId} {cs : Array Value} (h : MapI q w b n f) (hb : Blk w g t cs) : b ≠ g := by
  rintro rfl
  obtain ⟨D, ⟨es, clock, h1, _⟩, _⟩ := h
  unfold Blk at hb
  rw [hb] at h1
  cases h1

theorem DiskAt.ne (h : DiskAt w p sb mb pl s) : p ≠ sb ∧ p ≠ mb ∧ sb ≠ mb ∧ ∀ b, pl = some b → b ≠ p ∧ b ≠ sb ∧ b ≠ mb := by
  obtain ⟨n, hm⟩ := h.pend
  refine ⟨h.blk.ne_ h.rows.blk (by decide), (hm.cells_ne h.blk).symm, (hm.cells_ne h.rows.blk).symm, fun b hb => ?_⟩
  rcases h.plan with ⟨h1, _⟩ | ⟨b', n, g, h1, h2, h3, _⟩
  · rw [h1] at hb; cases hb
  · rw [h1] at hb; injection hb with hb; subst hb
    exact ⟨h3.cells_ne h.blk, h3.cells_ne h.rows.blk, h2⟩

theorem DiskAt.mod {S : Nat → Prop} (h : DiskAt w p sb mb pl s) (hm : Mod S w w') (h1 : ¬ S p) (h2 : ¬ S sb) (h3 : ¬ S mb) (h4 : ∀ b, pl = some b → ¬ S b) : DiskAt w' p sb mb pl s := by
  refine ⟨h.ok, h.blk.mod hm h1, h.rows.mod hm h2, ?_, ?_⟩
  · obtain ⟨n, hp⟩ := h.pend
    exact ⟨n, hp.mod hm h3⟩
  · rcases h.plan with hp | ⟨b, n, g, e, hne, hg, hk⟩
    · exact .inl hp
    · exact .inr ⟨b, n, g, e, hne, hg.mod hm (h4 b e), hk⟩

theorem DiskAt.pendN (h : DiskAt w p sb mb pl s) : MapI isSecV w mb 4096 (fun i => (s.pend i).map secV) := by
  obtain ⟨n, hm⟩ := h.pend
  refine hm.bound 4096 fun i u hu => ?_
  have hn := h.ok.num
  cases hp : s.pend i with
  | none => rw [hp] at hu; cases hu
  | some l => have := h.ok.pend i l hp; omega

theorem DiskAt.below (h : DiskAt w p sb mb pl s) (hb : Below w.heap.size w w') : DiskAt w' p sb mb pl s :=
  h.mod (Mod.of_below hb (fun _ => False)) id id id fun _ _ => id

/-- What the calls on a disk may turn. -/
def Own (p sb mb : Nat) (k : Nat) : Prop := k = p ∨ k = sb ∨ k = mb

end

set_option maxRecDepth 100000 in
theorem New_any (n : Int) (w : World) : Calls Tryz.prog 74 #[.int .i64 n] w fun e w' => e = .returned (.pointer (some ⟨w.heap.size + 2, 0, none⟩)) ∧
    DiskAt w' (w.heap.size + 2) w.heap.size (w.heap.size + 1) none (DS.new n) ∧ w'.heap.size = w.heap.size + 3 ∧ Below w.heap.size w w' := by
  obtain ⟨c, hc⟩ : ∃ c : Nat, c = (min (max n 0) 4096).toNat := ⟨_, rfl⟩
  have hcb : c ≤ 4096 := by omega
  obtain ⟨x1, hx1⟩ : ∃ x1 : Int, x1 = max n 0 := ⟨_, rfl⟩
  have hmax : ∀ W ty, (Builtin.max_ #[3, 3] ty #[.int .i64 n, .int .i64 0]).run Tryz.prog W = .ok (.int .i64 x1) W := by
    intro W ty
    have e : (if 0 > n then 0 else n) = x1 := by rw [hx1]; split <;> omega
    simp [Builtin.max_, Builtin.max2, List.foldlM, hx1]
    omega
  have hmin : ∀ W ty, (Builtin.min_ #[3, 3] ty #[.int .i64 x1, .int .i64 4096]).run Tryz.prog W = .ok (.int .i64 (c : Int)) W := by
    intro W ty
    simp [Builtin.min_, Builtin.min2, List.foldlM]
    omega
  obtain ⟨i0, hi, hz0, hz1, hz2⟩ := info_parts info94
  have hmk : ∀ W : World, (Instr.makeSlice 131 (.int .i64 (c : Int)) (.int .i64 (c : Int))).run Tryz.prog W = .ok (.slice (some ⟨W.heap.size, 0, none⟩) c c) (W.alloc (.cells (flat (List.replicate c sec0)) 129)) := by
    intro W
    have := run_make (P := Tryz.prog) W 131 129 i0 secZ Tryz.underlying131 hi hz0 .i64 .i64 (c : Int) (c : Int) (by omega) (by omega) (by rw [hz2]; omega) (by omega)
    rw [hz1] at this
    simpa [made_flat] using this
  have hmm := @run_makeMap Tryz.prog
  have HC := Lib.hid hc
  clear hc hi hz0 hz1 hz2 hx1
  go_enter Tryz.func74, Tryz.ntmps74
  go_wp2
  go_ret
  have hs : (DS.new n).safe = List.replicate c sec0 := by rw [HC.out]; rfl
  have hl : (DS.new n).safe.length = c := by rw [hs, List.length_replicate]
  have hok : (DS.new n).Ok := ⟨by rw [hl]; exact hcb, fun l hl => by rw [hs] at hl; rw [(List.mem_replicate.1 hl).2]; exact sec0_ok, fun i l h => by cases h⟩
  refine ⟨by simp, ⟨hok, ?_, ?_, ?_, .inl ⟨rfl, fun _ => rfl⟩⟩, by simp, ?_⟩
  · rw [hl]
    have := Blk.new ((w.alloc (.cells (flat (List.replicate c sec0)) 129)).alloc (.map #[] 0)) 135 #[.slice (some ⟨w.heap.size, 0, none⟩) c c, .map (some (w.heap.size + 1)), .map none, .int .i64 0, .bool false]
    simp only [size_alloc_] at this
    exact this
  · rw [hs]
    exact ⟨((Blk.new _ _ _).alloc _).alloc _, fun l hl => by rw [(List.mem_replicate.1 hl).2]; exact sec0_ok⟩
  · refine ⟨0, ?_⟩
    have h1 : MapI isSecV ((w.alloc (.cells (flat (List.replicate c sec0)) 129)).alloc (.map #[] 0)) (w.heap.size + 1) 0 (fun _ => none) := by
      have := MapI.made (p := isSecV) (w.alloc (.cells (flat (List.replicate c sec0)) 129))
      simpa using this
    exact h1.mod ((Mod.refl (fun _ => False) _).alloc _) id
  · exact (((Below.refl _ _).alloc (Nat.le_refl _) _).alloc (by simp) _).alloc (by simp; omega) _

theorem Size_any (w : World) (p sb mb : Nat) (pl : Option Nat) (s : DS) (h : DiskAt w p sb mb pl s) : Calls Tryz.prog 102 #[.pointer (some ⟨p, 0, none⟩)] w fun e w' => e = .returned (.int .i64 (s.safe.length : Int)) ∧ w = w' := by
  have a0 := h.blk.cell 0
  clear h
  go_enter Tryz.func102, Tryz.ntmps102
  go_wp2
  go_ret
  exact ⟨rfl, rfl⟩

theorem Steps_any (w : World) (p sb mb : Nat) (pl : Option Nat) (s : DS) (h : DiskAt w p sb mb pl s) : Calls Tryz.prog 30 #[.pointer (some ⟨p, 0, none⟩)] w fun e w' => e = .returned (.int .i64 (s.steps : Int)) ∧ w = w' := by
  have a0 := h.blk.cell 3
  clear h
  go_enter Tryz.func30, Tryz.ntmps30
  go_wp2
  go_ret
  exact ⟨rfl, rfl⟩

theorem isSector_any (w : World) (p sb mb : Nat) (pl : Option Nat) (s : DS) (h : DiskAt w p sb mb pl s) (i : Int) : Calls Tryz.prog 71 #[.pointer (some ⟨p, 0, none⟩), .int .i64 i] w fun e w' => e = .returned (.bool (s.isSec i)) ∧ w = w' := by
  have a0 := h.blk.cell 0
  unfold DS.isSec
  generalize s.safe.length = n at a0 ⊢
  clear h
  by_cases h0 : 0 ≤ i
  · go_enter Tryz.func71, Tryz.ntmps71
    go_wp2
    go_ret
    exact ⟨by simp [h0], rfl⟩
  · go_enter Tryz.func71, Tryz.ntmps71
    go_wp2
    go_ret
    exact ⟨by simp; omega, rfl⟩

end Go.Proofs.YtbagmmncjmbboaaGreat
