/-
  Walks (closed walks over a rope) in memory, by their own blocks; what of them stays where something else turns. No walk of code.
-/
import Derived.RegionTactic
import Derived.Test.YtlakcldgolpaiaaZEW10
import Derived.Test.YtlakcldgolpaiaaEP35
import Derived.Test.YtlakcldgolpaiaaMV2
import Derived.Test.YtlakcldgolpaiaaAP
namespace Go.Proofs.Ytlakcldgolpaiaa
open Go.RowKit Go.Maps
set_option linter.unusedVariables false

theorem OK.same {α : Type} {enc : α → List Value} {k E : Nat} {w w' : World} {B : Nat} {v : Value} {xs : List α} (h : OK enc k E w B v xs) (hb : ∀ b, v.ownBlock = some b → w'.heap[b]? = w.heap[b]?) : OK enc k E w' B v xs := by
  refine ⟨h.1, h.2.1, ?_⟩
  rcases h.2.2 with h3 | ⟨q, c, cur, e, hq, hh, r⟩
  · exact .inl h3
  · exact .inr ⟨q, c, cur, e, hq, (hb q (by rw [e]; rfl)).trans hh, r⟩

theorem OK.blk {α : Type} {enc : α → List Value} {k E : Nat} {w : World} {B : Nat} {v : Value} {xs : List α} (h : OK enc k E w B v xs) {b : Nat} (hb : v.ownBlock = some b) : ∃ cs, Blk w b E cs := by
  rcases h.2.2 with ⟨e, _⟩ | ⟨q, c, cur, e, hq, hh, r⟩
  · rw [e] at hb; cases hb
  · rw [e] at hb
    injection hb with hb
    subst hb
    exact ⟨cur, hh⟩

section

variable {w w1 w2 w' : World} {g : Nat} {S S1 : Nat → Prop} {M M1 M2 : RM SV}

theorem turn_then (m1 : Mod S w w1) (n1 : ∀ k, S1 k → S k ∨ w.heap.size ≤ k) (h2 : Turn w1 g S1 M2 w2) : Turn w g S M2 w2 := by
  obtain ⟨S2, r2, m2, n2⟩ := h2
  refine ⟨S2, r2, m1.trans m2 (fun k hk hs => (n1 k hs).resolve_right (by omega)), fun k hk => ?_⟩
  rcases n2 k hk with h | h
  · exact n1 k h
  · exact .inr (Nat.le_trans m1.size h)

theorem Rp.types3 (h : Rp w g S M) {k : Nat} (hk : S k) : ∃ cs t fr, w.heap[k]? = some (Obj.cells cs t fr) ∧ (t = 115 ∨ t = 112 ∨ t = 3) := by
  obtain ⟨B, sv, nb, cap, N, ss, h1, h2⟩ := h
  rcases (h2 k).2 hk with rfl | rfl | ⟨e1, e2⟩
  · exact ⟨_, _, _, h1.mem.blk, .inl rfl⟩
  · rcases h1.mem.nodes.2.2 with ⟨e, _⟩ | ⟨q, c, cur, e, hq, hh, r⟩
    · cases e
    · injection e with e
      injection e with e
      injection e with e
      subst e
      exact ⟨_, _, _, hh, .inr (.inl rfl)⟩
  · rcases h1.seeds with ⟨e, _⟩ | h
    · exact absurd e e1
    · rcases h.2.2 with ⟨e, _⟩ | ⟨q, c, cur, e, hq, hh, r⟩
      · rw [e] at e2; cases e2
      · rw [e] at e2
        injection e2 with e2
        subst e2
        exact ⟨_, _, _, hh, .inr (.inr rfl)⟩

/-- A block of another type is none of the rope's. -/
theorem Rp.other (h : Rp w g S M) {q : Nat} {t : TypeId} {cs : Array Value} (hb : Blk w q t cs) (h1 : t ≠ 115) (h2 : t ≠ 112) (h3 : t ≠ 3) : ¬ S q := by
  intro hq
  obtain ⟨cs', t', fr, e, ht⟩ := h.types3 hq
  unfold Blk at hb
  rw [hb] at e
  injection e with e
  injection e with e1 e2 e3
  rcases ht with h | h | h
  · exact h1 (e2.trans h)
  · exact h2 (e2.trans h)
  · exact h3 (e2.trans h)

/-- The rope stays where none of its blocks turns. -/
theorem Rp.frame {T : Nat → Prop} (h : Rp w g S M) (hm : Mod T w w') (hd : ∀ k, S k → ¬ T k) : Rp w' g S M := by
  obtain ⟨B, sv, nb, cap, N, ss, h1, h2⟩ := h
  have hg : ¬ T g := hd g ((h2 g).1 (.inl rfl))
  have hn : ¬ T nb := hd nb ((h2 nb).1 (.inr (.inl rfl)))
  have hblk : Blk w' g _ _ := (hm.block g h1.mem.blk.lt hg).trans h1.mem.blk
  refine ⟨B, sv, nb, cap, N, ss, ⟨⟨hblk, h1.mem.nodes.same fun b hb => ?_⟩, h1.ok, h1.few, ?_, h1.small⟩, h2⟩
  · injection hb with hb
    subst hb
    exact hm.block _ h1.mem.lt.2 hn
  · by_cases hs : ss = []
    · rcases h1.seeds with h | h
      · exact .inl h
      · refine .inl ⟨hs, ?_⟩
        rcases h.2.2 with ⟨e, _⟩ | ⟨q, c, cur, e, _⟩
        · exact ⟨none, 0, e⟩
        · rw [hs] at e; exact ⟨_, _, e⟩
    · rcases h1.seeds with h | h
      · exact absurd h.1 hs
      · exact .inr (h.same fun b hb => hm.block b (h.lt b hb).2 (hd b ((h2 b).1 (.inr (.inr ⟨hs, hb⟩)))))

theorem joinA_ok {a b : Nat} (ha : 1 ≤ a ∧ a ≤ M.own.length) (hb : 1 ≤ b ∧ b ≤ M.own.length) (hne : M.rowOf a ≠ M.rowOf b) : M.joinA (a : Int) (b : Int) = M.join a b := by
  have e : M.joinE (a : Int) (b : Int) = 0 := by
    unfold RM.joinE
    rw [if_pos ⟨known_of ha, known_of hb⟩, if_neg (by simpa using hne)]
  unfold RM.joinA
  rw [if_pos e, Int.toNat_natCast, Int.toNat_natCast]

theorem known_zero : M.known ((0 : Nat) : Int) = false := by unfold RM.known; simp

theorem join0_ok {a b : Nat} (ha : a = 0 ∨ 1 ≤ a ∧ a ≤ M.own.length) (hb : b = 0 ∨ 1 ≤ b ∧ b ≤ M.own.length) (hne : a ≠ 0 → b ≠ 0 → M.rowOf a ≠ M.rowOf b) : M.joinA (a : Int) (b : Int) = join0 M a b := by
  unfold join0
  rcases ha with rfl | ha
  · rw [if_pos (.inl rfl)]
    unfold RM.joinA RM.joinE
    rw [known_zero]
    simp
  · rcases hb with rfl | hb
    · rw [if_pos (.inr rfl)]
      unfold RM.joinA RM.joinE
      rw [known_zero]
      simp
    · rw [if_neg (by omega)]
      exact joinA_ok ha hb (hne (by omega) (by omega))

theorem cutA_ok {a : Nat} (ha : 1 ≤ a ∧ a ≤ M.own.length) : M.cutA (a : Int) = M.cut a := by
  unfold RM.cutA; rw [if_pos (known_of ha), Int.toNat_natCast]

theorem cut0_ok {a : Nat} (ha : a = 0 ∨ 1 ≤ a ∧ a ≤ M.own.length) : M.cutA (a : Int) = cut0 M a := by
  unfold cut0
  rcases ha with rfl | ha
  · rw [if_pos rfl]
    unfold RM.cutA
    rw [known_zero]
    simp
  · rw [if_neg (by omega)]
    exact cutA_ok ha

theorem atA_ok {a i : Nat} (ha : 1 ≤ a ∧ a ≤ M.own.length) (hi : i < (M.rowOf a).length) : M.atA (a : Int) (i : Int) = (((M.rowOf a)[i]?).getD 0 : Nat) := by
  unfold RM.atA
  rw [if_pos ⟨known_of ha, by omega, by rw [Int.toNat_natCast]; omega⟩, Int.toNat_natCast, Int.toNat_natCast]

theorem indexA_ok {a : Nat} (ha : 1 ≤ a ∧ a ≤ M.own.length) : M.indexA (a : Int) = ((M.rowOf a).idxOf a : Int) := by
  unfold RM.indexA
  rw [if_pos (known_of ha), Int.toNat_natCast]

theorem next_atA {a : Nat} (ha : 1 ≤ a ∧ a ≤ M.own.length) : M.atA (a : Int) (M.indexA (a : Int) + 1) = (nextN M a : Int) := by
  rw [indexA_ok ha]
  unfold RM.atA nextN
  rw [Int.toNat_natCast]
  by_cases h : (M.rowOf a).idxOf a + 1 < (M.rowOf a).length
  · rw [if_pos ⟨known_of ha, by omega, by omega⟩]
    rw [show (((M.rowOf a).idxOf a : Int) + 1).toNat = (M.rowOf a).idxOf a + 1 by omega]
  · rw [if_neg (by omega), List.getElem?_eq_none (by omega)]
    rfl

theorem prev_atA {a : Nat} (h : M.Ok) (ha : 1 ≤ a ∧ a ≤ M.own.length) : M.atA (a : Int) (M.indexA (a : Int) + -1) = (prevN M a : Int) := by
  have hm := (row_mem h ha).2
  have hl := List.idxOf_lt_length_of_mem hm
  rw [indexA_ok ha]
  unfold RM.atA prevN
  rw [Int.toNat_natCast]
  by_cases h0 : (M.rowOf a).idxOf a = 0
  · rw [if_pos h0, if_neg (by omega)]
    rfl
  · rw [if_neg h0, if_pos ⟨known_of ha, by omega, by omega⟩]
    rw [show (((M.rowOf a).idxOf a : Int) + -1).toNat = (M.rowOf a).idxOf a - 1 by omega]

theorem index_small (h : M.Ok) (hf : M.own.length ≤ 65536) (a : Int) : 0 ≤ M.indexA a ∧ M.indexA a ≤ 65536 := by
  unfold RM.indexA
  split
  · rename_i hk
    obtain ⟨i, rfl, hi⟩ := known_nat hk
    rw [Int.toNat_natCast]
    have h1 := row_mem h hi
    have h2 := List.idxOf_lt_length_of_mem h1.2
    have h3 := row_len h h1.1
    omega
  · omega

theorem Rp.notMap (h : Rp w g S M) {X : KeyX} {p : Value → Prop} {b n : Nat} {f : X.α → Option Value} (hM : MapG X p w b n f) : ¬ S b := by
  intro hs
  obtain ⟨cs, t, fr, e, -⟩ := h.types3 hs
  obtain ⟨D, ⟨es, clock, h1, _⟩, _⟩ := hM
  rw [h1] at e
  cases e

theorem MapG.notBlk {X : KeyX} {p : Value → Prop} {b n : Nat} {f : X.α → Option Value} (hM : MapG X p w b n f) {q t : Nat} {cs : Array Value} (hb : Blk w q t cs) : b ≠ q := by
  rintro rfl
  obtain ⟨D, ⟨es, clock, h1, _⟩, _⟩ := hM
  unfold Blk at hb
  rw [h1] at hb
  cases hb

end

/-! ### Walks -/

/-- Walks' memory: their struct, their rope, the free places' row. -/
structure WkX (w : World) (k g : Nat) (freeV : Value) (S0 : Nat → Prop) (M : RM SV) (free : List Nat) : Prop where
  blk : Blk w k 95 #[.pointer (some ⟨g, 0, none⟩), freeV]
  rope : Rp w g S0 M
  free : OK encI 1 3 w 0 freeV (free.map natI)
  fr : ∀ j, freeV.ownBlock = some j → ¬ S0 j

def ownW (k : Nat) (freeV : Value) (S0 : Nat → Prop) (j : Nat) : Prop := j = k ∨ S0 j ∨ freeV.ownBlock = some j

/-- Walks by their own blocks. -/
def Wk (w : World) (k : Nat) (S : Nat → Prop) (M : RM SV) (free : List Nat) : Prop := ∃ g freeV S0, WkX w k g freeV S0 M free ∧ ∀ j, ownW k freeV S0 j ↔ S j

def WTurn (w : World) (k : Nat) (S : Nat → Prop) (M' : RM SV) (free' : List Nat) (w' : World) : Prop := ∃ S', Wk w' k S' M' free' ∧ Mod S w w' ∧ ∀ j, S' j → S j ∨ w.heap.size ≤ j

section

variable {w w' : World} {k g : Nat} {freeV : Value} {S0 S : Nat → Prop} {M M' : RM SV} {free free' : List Nat}

theorem WkX.kNe (h : WkX w k g freeV S0 M free) : ¬ S0 k ∧ freeV.ownBlock ≠ some k := by
  refine ⟨h.rope.other h.blk (by decide) (by decide) (by decide), fun e => ?_⟩
  obtain ⟨cs, hb⟩ := h.free.blk e
  exact hb.ne_ h.blk (by decide) rfl

theorem WkX.lt (h : WkX w k g freeV S0 M free) {j : Nat} (hj : ownW k freeV S0 j) : j < w.heap.size := by
  rcases hj with rfl | hj | hj
  · exact h.blk.lt
  · exact h.rope.lt hj
  · exact (h.free.lt j hj).2

theorem WkX.frame (h : WkX w k g freeV S0 M free) {T : Nat → Prop} (hm : Mod T w w') (hd : ∀ j, ownW k freeV S0 j → ¬ T j) : WkX w' k g freeV S0 M free :=
  ⟨h.blk.mod hm (hd k (.inl rfl)), h.rope.frame hm fun j hj => hd j (.inr (.inl hj)), h.free.same fun b hb => hm.block b (h.free.lt b hb).2 (hd b (.inr (.inr hb))), h.fr⟩

theorem WkX.below (h : WkX w k g freeV S0 M free) (hb : Below w.heap.size w w') : WkX w' k g freeV S0 M free := h.frame (T := fun _ => False) (Mod.of_below hb _) fun _ _ e => e

theorem Wk.lt (h : Wk w k S M free) {j : Nat} (hj : S j) : j < w.heap.size := by
  obtain ⟨g, freeV, S0, h1, h2⟩ := h
  exact h1.lt ((h2 j).2 hj)

theorem Wk.frame (h : Wk w k S M free) {T : Nat → Prop} (hm : Mod T w w') (hd : ∀ j, S j → ¬ T j) : Wk w' k S M free := by
  obtain ⟨g, freeV, S0, h1, h2⟩ := h
  exact ⟨g, freeV, S0, h1.frame hm fun j hj => hd j ((h2 j).1 hj), h2⟩

theorem Wk.below (h : Wk w k S M free) (hb : Below w.heap.size w w') : Wk w' k S M free := h.frame (T := fun _ => False) (Mod.of_below hb _) fun _ _ e => e

theorem Wk.types4 (h : Wk w k S M free) {j : Nat} (hj : S j) : ∃ cs t fr, w.heap[j]? = some (Obj.cells cs t fr) ∧ (t = 95 ∨ t = 115 ∨ t = 112 ∨ t = 3) := by
  obtain ⟨g, freeV, S0, h1, h2⟩ := h
  rcases (h2 j).2 hj with rfl | hj | hj
  · exact ⟨_, _, _, h1.blk, .inl rfl⟩
  · obtain ⟨cs, t, fr, e, ht⟩ := h1.rope.types3 hj
    exact ⟨cs, t, fr, e, .inr ht⟩
  · obtain ⟨cs, hb⟩ := h1.free.blk hj
    exact ⟨_, _, _, hb, .inr (.inr (.inr rfl))⟩

/-- A block of another type is none of the walks'. -/
theorem Wk.other (h : Wk w k S M free) {q : Nat} {t : TypeId} {cs : Array Value} (hb : Blk w q t cs) (h0 : t ≠ 95) (h1 : t ≠ 115) (h2 : t ≠ 112) (h3 : t ≠ 3) : ¬ S q := by
  intro hq
  obtain ⟨cs', t', fr, e, ht⟩ := h.types4 hq
  unfold Blk at hb
  rw [hb] at e
  injection e with e
  injection e with e1 e2 e3
  rcases ht with h | h | h | h
  · exact h0 (e2.trans h)
  · exact h1 (e2.trans h)
  · exact h2 (e2.trans h)
  · exact h3 (e2.trans h)

theorem Wk.notMap (h : Wk w k S M free) {X : KeyX} {p : Value → Prop} {b n : Nat} {f : X.α → Option Value} (hM : MapG X p w b n f) : ¬ S b := by
  intro hs
  obtain ⟨cs, t, fr, e, -⟩ := h.types4 hs
  obtain ⟨D, ⟨es, clock, h1, _⟩, _⟩ := hM
  rw [h1] at e
  cases e

/-- The rope turns. -/
theorem WkX.turn (h : WkX w k g freeV S0 M free) (hS : ∀ j, ownW k freeV S0 j ↔ S j) (t : Turn w g S0 M' w') : WTurn w k S M' free w' := by
  obtain ⟨S1, r1, m1, n1⟩ := t
  refine ⟨_, ⟨g, freeV, S1, ⟨h.blk.mod m1 h.kNe.1, r1, h.free.same fun b hb => m1.block b (h.free.lt b hb).2 (h.fr b hb), fun j hj hs => ?_⟩, fun _ => Iff.rfl⟩, m1.mono fun j _ hj => (hS j).1 (.inr (.inl hj)), fun j hj => ?_⟩
  · rcases n1 j hs with e | e
    · exact h.fr j hj e
    · have := (h.free.lt j hj).2; omega
  · rcases hj with e | hj | hj
    · exact .inl ((hS j).1 (.inl e))
    · exact (n1 j hj).imp (fun e => (hS j).1 (.inr (.inl e))) id
    · exact .inl ((hS j).1 (.inr (.inr hj)))

theorem WTurn.same (h : Wk w k S M free) (hb : Below w.heap.size w w') : WTurn w k S M free w' := ⟨S, h.below hb, Mod.of_below hb S, fun _ hk => .inl hk⟩

/-- A turn behind one that only made memory. -/
theorem WTurn.behind {w1 : World} (hb : Below w.heap.size w w1) (h : WTurn w1 k S M' free' w') : WTurn w k S M' free' w' := by
  obtain ⟨S2, r2, m2, n2⟩ := h
  refine ⟨S2, r2, (Mod.of_below hb S).trans m2 (fun _ _ e => e), fun j hj => (n2 j hj).imp id fun e => Nat.le_trans hb.size e⟩

/-- The free places' row is another one from now on. -/
theorem WkX.setFree (h : WkX w k g freeV S0 M free) {freeV' : Value} (ho : OK encI 1 3 w' 0 freeV' (free'.map natI)) (hg : w.grownBy w' freeV.ownBlock) (hw : ∀ j, freeV'.ownBlock = some j → w.heap.size ≤ j ∨ freeV.ownBlock = some j) :
    WkX (w'.setCell ⟨k, 1, none⟩ freeV') k g freeV' S0 M free' ∧ Mod (ownW k freeV S0) w (w'.setCell ⟨k, 1, none⟩ freeV') := by
  have m1 : Mod (fun j => some j = freeV.ownBlock) w w' := Mod.of_grown hg
  have kne := h.kNe
  have hbf : Blk w' k _ _ := h.blk.mod m1 (fun e => kne.2 e.symm)
  have m2 : Mod (fun j => j = k) w' (w'.setCell ⟨k, 1, none⟩ freeV') := (Mod.refl (fun j => j = k) _).setCell (p := ⟨k, 1, none⟩) (fun _ => rfl) _
  have nf : freeV'.ownBlock ≠ some k := fun e => by
    obtain ⟨cs, hb⟩ := ho.blk e
    exact hb.ne_ hbf (by decide) rfl
  refine ⟨⟨?_, ?_, ?_, fun j hj hs => ?_⟩, ?_⟩
  · exact hbf.set_ 1 freeV'
  · exact (h.rope.frame m1 fun j hj e => h.fr j e.symm hj).frame m2 fun j hj e => kne.1 (e ▸ hj)
  · exact ho.same fun b hb => m2.block b (ho.lt b hb).2 (fun e => nf (e ▸ hb))
  · rcases hw j hj with e | e
    · have := h.rope.lt hs; omega
    · exact h.fr j e hs
  · exact (m1.mono fun j _ e => .inr (.inr e.symm)).setCell (p := ⟨k, 1, none⟩) (fun _ => .inl rfl) _

end

end Go.Proofs.Ytlakcldgolpaiaa

/-
  The walks of beside and Turn.
-/
namespace Go.Proofs.Ytlakcldgolpaiaa
open Go.RowKit Go.Maps
set_option linter.unusedVariables false

section

variable {w w1 w2 : World} {k g : Nat} {S S1 : Nat → Prop} {M M1 M2 : RM SV}

set_option maxRecDepth 100000 in
set_option maxHeartbeats 1000000 in
theorem beside_any (w : World) (k g : Nat) (S : Nat → Prop) (M : RM SV) (hr : Rp w g S M) (c1 : Value) (hf : Blk w k 95 #[.pointer (some ⟨g, 0, none⟩), c1]) (a d : Int) (hd : -1 ≤ d ∧ d ≤ 1) :
    Calls Try.prog 65 #[.pointer (some ⟨k, 0, none⟩), .int .i64 a, .int .i64 d] w fun e w' => e = .returned (.int .i64 (M.atA a (M.indexA a + d))) ∧ Below w.heap.size w w' := by
  have hs := index_small hr.ok hr.few a
  obtain ⟨x, hx⟩ : ∃ x, x = M.indexA a := ⟨_, rfl⟩
  have hwr : IntKind.i64.wrap (x + d) = x + d := by rw [IntKind.wrap_i64]; omega
  have HR := Lib.hid hr
  have HF := Lib.hid hf
  have HX := Lib.hid hx
  have a0 : w.cell? ⟨k, 0, none⟩ = _ := hf.cell 0
  rw [← hx]
  clear hr hf hs hx hd
  go_enter Try.func65, Try.ntmps65
  go_wp2_with fail
  refine (rIndex w g S M HR.out a).mono ?_
  rw [← HX.out]
  generalize M.errA a = ez
  rintro e w1 ⟨rfl, t1⟩
  have HR1 := Lib.hid (HR.out.below t1)
  have HF1 := Lib.hid (HF.out.below t1 HF.out.lt)
  have T1 := Lib.hid t1
  clear t1 a0
  have a1 : w1.cell? ⟨k, 0, none⟩ = _ := HF1.out.cell 0
  go_wp2_with fail
  refine (rAt w1 g S M HR1.out a (x + d)).mono ?_
  generalize M.atE a (x + d) = ez2
  rintro e w2 ⟨rfl, t2⟩
  have T2 := Lib.hid (T1.out.trans (t2.mono T1.out.size))
  clear t2 a1
  go_wp2_with fail
  go_ret
  exact ⟨rfl, T2.out⟩

theorem beside_next (w : World) (k g : Nat) (S : Nat → Prop) (M : RM SV) (hr : Rp w g S M) (c1 : Value) (hf : Blk w k 95 #[.pointer (some ⟨g, 0, none⟩), c1]) (a : Nat) (ha : 1 ≤ a ∧ a ≤ M.own.length) :
    Calls Try.prog 65 #[.pointer (some ⟨k, 0, none⟩), .int .i64 (a : Int), .int .i64 1] w fun e w' => e = .returned (.int .i64 (nextN M a : Int)) ∧ Below w.heap.size w w' := by
  have := beside_any w k g S M hr c1 hf (a : Int) 1 (by omega)
  rwa [next_atA ha] at this

theorem beside_prev (w : World) (k g : Nat) (S : Nat → Prop) (M : RM SV) (hr : Rp w g S M) (c1 : Value) (hf : Blk w k 95 #[.pointer (some ⟨g, 0, none⟩), c1]) (a : Nat) (ha : 1 ≤ a ∧ a ≤ M.own.length) :
    Calls Try.prog 65 #[.pointer (some ⟨k, 0, none⟩), .int .i64 (a : Int), .int .i64 (-1)] w fun e w' => e = .returned (.int .i64 (prevN M a : Int)) ∧ Below w.heap.size w w' := by
  have := beside_any w k g S M hr c1 hf (a : Int) (-1) (by omega)
  rwa [prev_atA hr.ok ha] at this

set_option maxRecDepth 100000 in
set_option maxHeartbeats 1000000 in
theorem turn_any (w : World) (k g : Nat) (S : Nat → Prop) (M : RM SV) (hr : Rp w g S M) (c1 : Value) (hf : Blk w k 95 #[.pointer (some ⟨g, 0, none⟩), c1]) (a : Nat) (ha : 1 ≤ a ∧ a ≤ M.own.length) :
    Calls Try.prog 64 #[.pointer (some ⟨k, 0, none⟩), .int .i64 (a : Int)] w fun e w' => e = .returned (.tuple #[]) ∧ Turn w g S (turnM M a) w' := by
  have hok := hr.ok
  obtain ⟨hm, hmem⟩ := row_mem hok ha
  obtain ⟨x, hx⟩ : ∃ x, x = (M.rowOf a).headD 0 := ⟨_, rfl⟩
  have hne : 0 < (M.rowOf a).length := List.length_pos_iff.2 (fun e => by rw [e] at hmem; cases hmem)
  have hat : M.atA (a : Int) ((0 : Nat) : Int) = (x : Int) := by
    rw [atA_ok ha hne, hx]
    cases h : M.rowOf a with
    | nil => rw [h] at hne; cases hne
    | cons y r => rfl
  have HAT := Lib.hid hat
  have HR := Lib.hid hr
  have HF := Lib.hid hf
  have HX := Lib.hid hx
  have HA := Lib.hid ha
  have a0 : w.cell? ⟨k, 0, none⟩ = _ := hf.cell 0
  have hhead : (M.rowOf a).head? = some a ↔ x = a := by
    rw [hx]
    cases h : M.rowOf a with
    | nil => rw [h] at hne; cases hne
    | cons y r => simp
  have HH := Lib.hid hhead
  have hp : M.rows.Perm (M.rowOf a :: M.rows.erase (M.rowOf a)) := List.perm_cons_erase hm
  have htn : (M.rowOf a).head? ≠ some a → _ := turn_ne hok hp hmem
  have HTN := Lib.hid htn
  clear hr hf hat hok hm hmem hne hx ha hhead hp htn
  go_enter Try.func64, Try.ntmps64
  go_wp2_with fail
  refine (rAt w g S M HR.out (a : Int) 0).mono ?_
  rw [show M.atA (a : Int) 0 = (x : Int) from HAT.out]
  rintro e w1 ⟨rfl, t1⟩
  have HR1 := Lib.hid (HR.out.below t1)
  have HF1 := Lib.hid (HF.out.below t1 HF.out.lt)
  have T1 := Lib.hid t1
  clear t1 a0
  have a1 : w1.cell? ⟨k, 0, none⟩ = _ := HF1.out.cell 0
  by_cases hxa : x = a
  · have HT : Hid (Turn w g S (turnM M a) w1) := Lib.hid (by
      have e : turnM M a = M := by unfold turnM; rw [if_pos (HH.out.2 hxa)]
      rw [e]
      exact turn_same HR.out T1.out)
    have d1 : ((x : Int) == (a : Int)) = true := by simp [hxa]
    have d2 : (x == a) = true := by simp [hxa]
    clear hxa
    go_wp2_with fail
    try simp only [Exit.inBlock, Exit.then]
    refine bodyPost_ret (results_none Try.results64 _ _ _) rfl ?_
    exact ⟨rfl, HT.out⟩
  · have d1 : ((x : Int) == (a : Int)) = false := by simp; omega
    have d2 : (x == a) = false := by simp; omega
    have hneq : (M.rowOf a).head? ≠ some a := fun e => hxa (HH.out.1 e)
    obtain ⟨x', hx', k1, k2, k3⟩ := HTN.out hneq
    rw [← HX.out] at hx'
    subst hx'
    have HT : Hid (turnM M a = (M.cut a).join a x) := Lib.hid (by unfold turnM; rw [if_neg hneq, HX.out])
    have HK := Lib.hid k2
    have HN := Lib.hid k3
    clear hneq k1 k2 k3
    go_wp2_with fail
    refine (rCut w1 g S M HR1.out (a : Int)).mono ?_
    rw [cutA_ok HA.out]
    rintro e w2 ⟨rfl, t2⟩
    obtain ⟨S2, r2, m2, n2⟩ := t2
    have HR2 := Lib.hid r2
    have HF2 := Lib.hid (HF1.out.mod m2 (HR1.out.other HF1.out (by decide) (by decide) (by decide)))
    have M2 : Hid (Mod S w w2) := Lib.hid ((Mod.of_below T1.out S).trans' m2)
    have N2 : Hid (∀ k, S2 k → S k ∨ w.heap.size ≤ k) := Lib.hid (fun k hk => (n2 k hk).imp id (fun h => Nat.le_trans T1.out.size h))
    clear r2 m2 n2 a1
    have a2 : w2.cell? ⟨k, 0, none⟩ = _ := HF2.out.cell 0
    go_wp2_with fail
    refine (rJoin w2 g S2 (M.cut a) HR2.out (a : Int) (x : Int)).mono ?_
    rw [joinA_ok (M := M.cut a) HA.out HK.out HN.out]
    rintro e w3 ⟨rfl, t3⟩
    have HT3 := Lib.hid (turn_then M2.out N2.out t3)
    rw [← HT.out] at HT3
    clear t3
    go_wp2_with fail
    go_end0
    exact ⟨rfl, HT3.out⟩

end

end Go.Proofs.Ytlakcldgolpaiaa

/-
  The walk of Link: two walks and two places.
-/
namespace Go.Proofs.Ytlakcldgolpaiaa
open Go.RowKit Go.Maps
set_option linter.unusedVariables false

/-- What a region reads of a forest and of a pair of places. -/
def BoxL (f g p p0 p1 : Nat) (w : World) : Prop := w.cell? ⟨f, 0, none⟩ = some (.pointer (some ⟨g, 0, none⟩)) ∧ w.cell? ⟨p, 0, none⟩ = some (.int .i64 (p0 : Int)) ∧ w.cell? ⟨p, 1, none⟩ = some (.int .i64 (p1 : Int))

theorem BoxL.all {f g p p0 p1 : Nat} {w : World} (h : BoxL f g p p0 p1 w) : w.cell? ⟨f, 0, none⟩ = some (.pointer (some ⟨g, 0, none⟩)) ∧ w.cell? ⟨p, 0, none⟩ = some (.int .i64 (p0 : Int)) ∧ w.cell? ⟨p, 1, none⟩ = some (.int .i64 (p1 : Int)) := h

theorem boxL_of {f g p p0 p1 : Nat} {w : World} {c1 : Value} (h1 : Blk w f 95 #[.pointer (some ⟨g, 0, none⟩), c1]) (h2 : Blk w p 79 #[.int .i64 (p0 : Int), .int .i64 (p1 : Int)]) : BoxL f g p p0 p1 w := ⟨h1.cell 0, h2.cell 0, h2.cell 1⟩

set_option maxRecDepth 100000 in
set_option maxHeartbeats 4000000 in
theorem link_any (w : World) (f g : Nat) (S : Nat → Prop) (M : RM SV) (hr : Rp w g S M) (c1 : Value) (hf : Blk w f 95 #[.pointer (some ⟨g, 0, none⟩), c1]) (a b p0 p1 : Nat) {xs ys P Q Z : List Nat} {R : List (List Nat)} (L : LinkOut M xs ys R a b p0 p1 P Q Z) :
    Calls Try.prog 46 #[.pointer (some ⟨f, 0, none⟩), .int .i64 (a : Int), .int .i64 (b : Int), .agg #[.int .i64 (p0 : Int), .int .i64 (p1 : Int)]] w fun e w' => e = .returned (.tuple #[]) ∧ Turn w g S (linkM M a b p0 p1) w' := by
  obtain ⟨p, hp⟩ : ∃ p, p = w.heap.size := ⟨_, rfl⟩
  obtain ⟨W, hW⟩ : ∃ x, x = w.alloc (.cells #[.int .i64 (p0 : Int), .int .i64 (p1 : Int)] 79) := ⟨_, rfl⟩
  have hb : Below w.heap.size w W := by rw [hW]; exact (Below.refl _ _).alloc (Nat.le_refl _) _
  have HP := Lib.hid hp
  have HW := Lib.hid hW
  have B0 : Hid (Blk W p 79 #[.int .i64 (p0 : Int), .int .i64 (p1 : Int)]) := Lib.hid (by rw [hW, hp]; exact Blk.new _ _ _)
  have R0 := Lib.hid (hr.below hb)
  have F0 := Lib.hid (hf.below hb hf.lt)
  have M0 : Hid (Mod S w W) := Lib.hid (Mod.of_below hb S)
  have N0 : Hid (∀ k, S k → S k ∨ w.heap.size ≤ k) := Lib.hid (fun k hk => .inl hk)
  obtain ⟨Ma, ha⟩ : ∃ x, x = turnM M b := ⟨_, rfl⟩
  obtain ⟨r, hr0⟩ : ∃ x, x = nextN Ma a := ⟨_, rfl⟩
  obtain ⟨Mb, hb2⟩ : ∃ x, x = cut0 Ma r := ⟨_, rfl⟩
  obtain ⟨Mc, hc⟩ : ∃ x, x = Mb.join a p0 := ⟨_, rfl⟩
  obtain ⟨Md, hd⟩ : ∃ x, x = Mc.join p0 b := ⟨_, rfl⟩
  obtain ⟨Me, he⟩ : ∃ x, x = Md.join b p1 := ⟨_, rfl⟩
  obtain ⟨Mf, hf2⟩ : ∃ x, x = join0 Me p1 r := ⟨_, rfl⟩
  have hlm : linkM M a b p0 p1 = Mf := by rw [hf2, he, hd, hc, hb2, hr0, ha]; rfl
  have la : Ma.own.length = M.own.length := by rw [ha, turn_own]
  have lb : Mb.own.length = M.own.length := by rw [hb2, cut0_own, la]
  have lc : Mc.own.length = M.own.length := by rw [hc]; exact lb
  have ld : Md.own.length = M.own.length := by rw [hd]; exact lc
  have le : Me.own.length = M.own.length := by rw [he]; exact ld
  have kr : r = 0 ∨ 1 ≤ r ∧ r ≤ M.own.length := by rw [hr0, ha]; exact L.next
  have K1 : Hid (1 ≤ b ∧ b ≤ M.own.length) := Lib.hid L.known.2.1
  have K2 : Hid (1 ≤ a ∧ a ≤ Ma.own.length) := Lib.hid (by rw [la]; exact L.known.1)
  have J0 : Hid (Ma.cutA (r : Int) = Mb) := Lib.hid (by rw [cut0_ok (by rw [la]; exact kr), hb2])
  have J1 : Hid (Mb.joinA (a : Int) (p0 : Int) = Mc) := Lib.hid (by rw [joinA_ok (by rw [lb]; exact L.known.1) (by rw [lb]; exact L.known.2.2.1) (by rw [hb2, hr0, ha]; exact L.ne1), hc])
  have J2 : Hid (Mc.joinA (p0 : Int) (b : Int) = Md) := Lib.hid (by rw [joinA_ok (by rw [lc]; exact L.known.2.2.1) (by rw [lc]; exact L.known.2.1) (by rw [hc, hb2, hr0, ha]; exact L.ne2), hd])
  have J3 : Hid (Md.joinA (b : Int) (p1 : Int) = Me) := Lib.hid (by rw [joinA_ok (by rw [ld]; exact L.known.2.1) (by rw [ld]; exact L.known.2.2.2) (by rw [hd, hc, hb2, hr0, ha]; exact L.ne3), he])
  have J4 : Hid (Me.joinA (p1 : Int) (r : Int) = Mf) := Lib.hid (by rw [join0_ok (by rw [le]; exact .inr L.known.2.2.2) (by rw [le]; exact kr) (fun _ h2 => by rw [he, hd, hc, hb2]; rw [hr0, ha] at h2 ⊢; exact L.ne4 h2), hf2])
  have E1 := Lib.hid ha
  have E2 := Lib.hid hr0
  rw [hlm]
  clear L hr hf hb hp hW hlm ha hb2 hc hd he hf2 hr0 la lb lc ld le kr
  go_enter Try.func46, Try.ntmps46
  go_upto_region 1 with fail
  rw [← HW.out]
  try simp only [← HP.out]
  go_wp2_with fail
  refine (turn_any W f g S M R0.out c1 F0.out b K1.out).mono ?_
  rw [← E1.out]
  rintro e w1 ⟨rfl, t1⟩
  obtain ⟨S1, r1, m1, n1⟩ := t1
  have R1 := Lib.hid r1
  have F1 := Lib.hid (F0.out.mod m1 (R0.out.other F0.out (by decide) (by decide) (by decide)))
  have B1 := Lib.hid (B0.out.mod m1 (R0.out.other B0.out (by decide) (by decide) (by decide)))
  have M1 : Hid (Mod S w w1) := Lib.hid (M0.out.trans m1 (fun k hk hs => (N0.out k hs).resolve_right (by omega)))
  have N1 : Hid (∀ k, S1 k → S k ∨ w.heap.size ≤ k) := Lib.hid (fun k hk => (n1 k hk).elim (N0.out k) (fun h => .inr (Nat.le_trans M0.out.size h)))
  clear r1 m1 n1
  go_wp2_with fail
  refine (beside_next w1 f g S1 Ma R1.out c1 F1.out a K2.out).mono ?_
  rw [← E2.out]
  rintro e wx ⟨rfl, bx⟩
  have RX := Lib.hid (R1.out.below bx)
  have FX := Lib.hid (F1.out.below bx F1.out.lt)
  have BX := Lib.hid (B1.out.below bx B1.out.lt)
  have MX : Hid (Mod S w wx) := Lib.hid (M1.out.trans' (Mod.of_below bx S))
  have NX := N1
  clear bx
  have q0 : wx.cell? ⟨f, 0, none⟩ = _ := FX.out.cell 0
  go_wp2_with fail
  refine (rCut wx g S1 Ma RX.out (r : Int)).mono ?_
  rw [J0.out]
  generalize Ma.errA (r : Int) = ez
  rintro e w2 ⟨rfl, t2⟩
  obtain ⟨S2, r2, m2, n2⟩ := t2
  have R2 := Lib.hid r2
  have F2 := Lib.hid (FX.out.mod m2 (RX.out.other FX.out (by decide) (by decide) (by decide)))
  have B2 := Lib.hid (BX.out.mod m2 (RX.out.other BX.out (by decide) (by decide) (by decide)))
  have M2 : Hid (Mod S w w2) := Lib.hid (MX.out.trans m2 (fun k hk hs => (NX.out k hs).resolve_right (by omega)))
  have N2 : Hid (∀ k, S2 k → S k ∨ w.heap.size ≤ k) := Lib.hid (fun k hk => (n2 k hk).elim (NX.out k) (fun h => .inr (Nat.le_trans MX.out.size h)))
  clear r2 m2 n2 q0
  have X2 := boxL_of F2.out B2.out
  have HX2 := Lib.hid X2
  obtain ⟨q0, q1, q2⟩ := X2
  go_wp2_with fail
  have HD2 : Hid (BoxL f g p p0 p1 w2.drew) := Lib.hid HX2.out
  have RD2 := Lib.hid (R2.out.below ((Below.refl _ _).drew))
  have FD2 := Lib.hid (F2.out.drew)
  have BD2 := Lib.hid (B2.out.drew)
  have MD2 := Lib.hid (M2.out.drew)
  go_region_held3 (fun w' => w'.cell? ⟨f, 0, none⟩ = some (.pointer (some ⟨g, 0, none⟩)) ∧ w'.cell? ⟨p, 0, none⟩ = some (.int .i64 (p0 : Int)) ∧ w'.cell? ⟨p, 1, none⟩ = some (.int .i64 (p1 : Int))) (first | with_reducible exact HD2.out.all | with_reducible exact HC2.out.all | fail)
    ((go_at_call 67; refine (rJoin _ g S2 Mb RD2.out (a : Int) (p0 : Int)).mono ?_; rw [J1.out]; rintro e w3 ⟨rfl, t3⟩; obtain ⟨S3, r3, m3, n3⟩ := t3; have R3 := Lib.hid r3; have F3 := Lib.hid (FD2.out.mod m3 (RD2.out.other FD2.out (by decide) (by decide) (by decide))); have B3 := Lib.hid (BD2.out.mod m3 (RD2.out.other BD2.out (by decide) (by decide) (by decide))); have M3 : Hid (Mod S w w3) := Lib.hid (MD2.out.trans m3 (fun k hk hs => (N2.out k hs).resolve_right (by omega))); have N3 : Hid (∀ k, S3 k → S k ∨ w.heap.size ≤ k) := Lib.hid (fun k hk => (n3 k hk).elim (N2.out k) (fun h => .inr (Nat.le_trans MD2.out.size h))); have HC2 : Hid (BoxL f g p p0 p1 w3) := Lib.hid (boxL_of F3.out B3.out); clear r3 m3 n3))
  clear q0 q1 q2
  have X3 := boxL_of F3.out B3.out
  have HX3 := Lib.hid X3
  obtain ⟨q0, q1, q2⟩ := X3
  go_wp2_with fail
  have HD3 : Hid (BoxL f g p p0 p1 w3.drew) := Lib.hid HX3.out
  have RD3 := Lib.hid (R3.out.below ((Below.refl _ _).drew))
  have FD3 := Lib.hid (F3.out.drew)
  have BD3 := Lib.hid (B3.out.drew)
  have MD3 := Lib.hid (M3.out.drew)
  go_region_held3 (fun w' => w'.cell? ⟨f, 0, none⟩ = some (.pointer (some ⟨g, 0, none⟩)) ∧ w'.cell? ⟨p, 0, none⟩ = some (.int .i64 (p0 : Int)) ∧ w'.cell? ⟨p, 1, none⟩ = some (.int .i64 (p1 : Int))) (first | with_reducible exact HD3.out.all | with_reducible exact HC3.out.all | fail)
    ((go_at_call 67; refine (rJoin _ g S3 Mc RD3.out (p0 : Int) (b : Int)).mono ?_; rw [J2.out]; rintro e w4 ⟨rfl, t4⟩; obtain ⟨S4, r4, m4, n4⟩ := t4; have R4 := Lib.hid r4; have F4 := Lib.hid (FD3.out.mod m4 (RD3.out.other FD3.out (by decide) (by decide) (by decide))); have B4 := Lib.hid (BD3.out.mod m4 (RD3.out.other BD3.out (by decide) (by decide) (by decide))); have M4 : Hid (Mod S w w4) := Lib.hid (MD3.out.trans m4 (fun k hk hs => (N3.out k hs).resolve_right (by omega))); have N4 : Hid (∀ k, S4 k → S k ∨ w.heap.size ≤ k) := Lib.hid (fun k hk => (n4 k hk).elim (N3.out k) (fun h => .inr (Nat.le_trans MD3.out.size h))); have HC3 : Hid (BoxL f g p p0 p1 w4) := Lib.hid (boxL_of F4.out B4.out); clear r4 m4 n4))
  clear q0 q1 q2
  have X4 := boxL_of F4.out B4.out
  have HX4 := Lib.hid X4
  obtain ⟨q0, q1, q2⟩ := X4
  go_wp2_with fail
  have HD4 : Hid (BoxL f g p p0 p1 w4.drew) := Lib.hid HX4.out
  have RD4 := Lib.hid (R4.out.below ((Below.refl _ _).drew))
  have FD4 := Lib.hid (F4.out.drew)
  have BD4 := Lib.hid (B4.out.drew)
  have MD4 := Lib.hid (M4.out.drew)
  go_region_held3 (fun w' => w'.cell? ⟨f, 0, none⟩ = some (.pointer (some ⟨g, 0, none⟩)) ∧ w'.cell? ⟨p, 0, none⟩ = some (.int .i64 (p0 : Int)) ∧ w'.cell? ⟨p, 1, none⟩ = some (.int .i64 (p1 : Int))) (first | with_reducible exact HD4.out.all | with_reducible exact HC4.out.all | fail)
    ((go_at_call 67; refine (rJoin _ g S4 Md RD4.out (b : Int) (p1 : Int)).mono ?_; rw [J3.out]; rintro e w5 ⟨rfl, t5⟩; obtain ⟨S5, r5, m5, n5⟩ := t5; have R5 := Lib.hid r5; have F5 := Lib.hid (FD4.out.mod m5 (RD4.out.other FD4.out (by decide) (by decide) (by decide))); have B5 := Lib.hid (BD4.out.mod m5 (RD4.out.other BD4.out (by decide) (by decide) (by decide))); have M5 : Hid (Mod S w w5) := Lib.hid (MD4.out.trans m5 (fun k hk hs => (N4.out k hs).resolve_right (by omega))); have N5 : Hid (∀ k, S5 k → S k ∨ w.heap.size ≤ k) := Lib.hid (fun k hk => (n5 k hk).elim (N4.out k) (fun h => .inr (Nat.le_trans MD4.out.size h))); have HC4 : Hid (BoxL f g p p0 p1 w5) := Lib.hid (boxL_of F5.out B5.out); clear r5 m5 n5))
  clear q0 q1 q2
  have X5 := boxL_of F5.out B5.out
  have HX5 := Lib.hid X5
  obtain ⟨q0, q1, q2⟩ := X5
  go_wp2_with fail
  have HD5 : Hid (BoxL f g p p0 p1 w5.drew) := Lib.hid HX5.out
  have RD5 := Lib.hid (R5.out.below ((Below.refl _ _).drew))
  have FD5 := Lib.hid (F5.out.drew)
  have BD5 := Lib.hid (B5.out.drew)
  have MD5 := Lib.hid (M5.out.drew)
  go_region_held3 (fun w' => w'.cell? ⟨f, 0, none⟩ = some (.pointer (some ⟨g, 0, none⟩)) ∧ w'.cell? ⟨p, 0, none⟩ = some (.int .i64 (p0 : Int)) ∧ w'.cell? ⟨p, 1, none⟩ = some (.int .i64 (p1 : Int))) (first | with_reducible exact HD5.out.all | with_reducible exact HC5.out.all | fail)
    ((go_at_call 67; refine (rJoin _ g S5 Me RD5.out (p1 : Int) (r : Int)).mono ?_; rw [J4.out]; rintro e w6 ⟨rfl, t6⟩; obtain ⟨S6, r6, m6, n6⟩ := t6; have R6 := Lib.hid r6; have F6 := Lib.hid (FD5.out.mod m6 (RD5.out.other FD5.out (by decide) (by decide) (by decide))); have B6 := Lib.hid (BD5.out.mod m6 (RD5.out.other BD5.out (by decide) (by decide) (by decide))); have M6 : Hid (Mod S w w6) := Lib.hid (MD5.out.trans m6 (fun k hk hs => (N5.out k hs).resolve_right (by omega))); have N6 : Hid (∀ k, S6 k → S k ∨ w.heap.size ≤ k) := Lib.hid (fun k hk => (n6 k hk).elim (N5.out k) (fun h => .inr (Nat.le_trans MD5.out.size h))); have HC5 : Hid (BoxL f g p p0 p1 w6) := Lib.hid (boxL_of F6.out B6.out); clear r6 m6 n6))
  clear q0 q1 q2
  go_wp2_with fail
  go_end0
  exact ⟨rfl, S6, R6.out, M6.out, N6.out⟩

end Go.Proofs.Ytlakcldgolpaiaa

/-
  The walks of inOrder and Part.
-/
namespace Go.Proofs.Ytlakcldgolpaiaa
open Go.RowKit Go.Maps
set_option linter.unusedVariables false

theorem run_ix0 (a b c d : Int) (w : World) : (Instr.index 109 (.agg #[.int .i64 a, .int .i64 b, .int .i64 c, .int .i64 d]) (.int .i64 0)).run Try.prog w = .ok (.int .i64 a) w := by kernel_rfl

theorem run_ix1 (a b c d : Int) (w : World) : (Instr.index 109 (.agg #[.int .i64 a, .int .i64 b, .int .i64 c, .int .i64 d]) (.int .i64 1)).run Try.prog w = .ok (.int .i64 b) w := by kernel_rfl

theorem run_ix2 (a b c d : Int) (w : World) : (Instr.index 109 (.agg #[.int .i64 a, .int .i64 b, .int .i64 c, .int .i64 d]) (.int .i64 2)).run Try.prog w = .ok (.int .i64 c) w := by kernel_rfl

theorem run_ix3 (a b c d : Int) (w : World) : (Instr.index 109 (.agg #[.int .i64 a, .int .i64 b, .int .i64 c, .int .i64 d]) (.int .i64 3)).run Try.prog w = .ok (.int .i64 d) w := by kernel_rfl

set_option maxRecDepth 100000 in
set_option maxHeartbeats 4000000 in
theorem order_any (w : World) (f g : Nat) (S : Nat → Prop) (M : RM SV) (hr : Rp w g S M) (c1 : Value) (hf : Blk w f 95 #[.pointer (some ⟨g, 0, none⟩), c1]) (p0 p1 : Nat) (k0 : 1 ≤ p0 ∧ p0 ≤ M.own.length) (k1 : 1 ≤ p1 ∧ p1 ≤ M.own.length) :
    Calls Try.prog 68 #[.pointer (some ⟨f, 0, none⟩), .agg #[.int .i64 (p0 : Int), .int .i64 (p1 : Int)]] w fun e w' => e = .returned (.tuple #[.int .i64 ((ordM M p0 p1).1 : Int), .int .i64 ((ordM M p0 p1).2 : Int)]) ∧ Below w.heap.size w w' := by
  obtain ⟨p, hp⟩ : ∃ p, p = w.heap.size := ⟨_, rfl⟩
  obtain ⟨W, hW⟩ : ∃ x, x = w.alloc (.cells #[.int .i64 (p0 : Int), .int .i64 (p1 : Int)] 79) := ⟨_, rfl⟩
  have hb : Below w.heap.size w W := by rw [hW]; exact (Below.refl _ _).alloc (Nat.le_refl _) _
  have HP := Lib.hid hp
  have HW := Lib.hid hW
  have B0 : Hid (Blk W p 79 #[.int .i64 (p0 : Int), .int .i64 (p1 : Int)]) := Lib.hid (by rw [hW, hp]; exact Blk.new _ _ _)
  have R0 := Lib.hid (hr.below hb)
  have F0 := Lib.hid (hf.below hb hf.lt)
  have T0 := Lib.hid hb
  obtain ⟨i, hi⟩ : ∃ i, i = (M.rowOf p0).idxOf p0 := ⟨_, rfl⟩
  obtain ⟨j, hj⟩ : ∃ j, j = (M.rowOf p1).idxOf p1 := ⟨_, rfl⟩
  have hor : (decide ((j : Int) < (i : Int)) = true ∧ decide (j < i) = true ∧ ordM M p0 p1 = (p1, p0)) ∨ (decide ((j : Int) < (i : Int)) = false ∧ decide (j < i) = false ∧ ordM M p0 p1 = (p0, p1)) := by
    by_cases h : j < i
    · left
      refine ⟨by simp; omega, by simpa using h, ?_⟩
      unfold ordM
      rw [← hi, ← hj, if_pos h]
    · right
      refine ⟨by simp; omega, by simpa using h, ?_⟩
      unfold ordM
      rw [← hi, ← hj, if_neg h]
  have I0 : Hid (M.indexA (p0 : Int) = (i : Int)) := Lib.hid (by rw [indexA_ok k0, hi])
  have I1 : Hid (M.indexA (p1 : Int) = (j : Int)) := Lib.hid (by rw [indexA_ok k1, hj])
  obtain ⟨x, hx⟩ : ∃ x, x = (ordM M p0 p1).1 := ⟨_, rfl⟩
  obtain ⟨y, hy⟩ : ∃ y, y = (ordM M p0 p1).2 := ⟨_, rfl⟩
  have HOR : Hid ((decide ((j : Int) < (i : Int)) = true ∧ decide (j < i) = true ∧ x = p1 ∧ y = p0) ∨ (decide ((j : Int) < (i : Int)) = false ∧ decide (j < i) = false ∧ x = p0 ∧ y = p1)) := Lib.hid (by
    rcases hor with ⟨h1, h2, h3⟩ | ⟨h1, h2, h3⟩
    · rw [h3] at hx hy; exact .inl ⟨h1, h2, hx, hy⟩
    · rw [h3] at hx hy; exact .inr ⟨h1, h2, hx, hy⟩)
  rw [← hx, ← hy]
  clear hr hf hb hp hW hi hj hor k0 k1 hx hy
  go_enter Try.func68, Try.ntmps68
  go_upto_region 1 with fail
  rw [← HW.out]
  try simp only [← HP.out]
  have X0 := boxL_of F0.out B0.out
  have HX0 := Lib.hid X0
  obtain ⟨q0, q1, q2⟩ := X0
  go_wp2_with fail
  have HD0 : Hid (BoxL f g p p0 p1 W.drew) := Lib.hid HX0.out
  have RD0 := Lib.hid (R0.out.below ((Below.refl _ _).drew))
  have FD0 := Lib.hid (F0.out.drew)
  have BD0 := Lib.hid (B0.out.drew)
  have TD0 := Lib.hid (T0.out.drew)
  go_region_held3 (fun w' => w'.cell? ⟨f, 0, none⟩ = some (.pointer (some ⟨g, 0, none⟩)) ∧ w'.cell? ⟨p, 0, none⟩ = some (.int .i64 (p0 : Int)) ∧ w'.cell? ⟨p, 1, none⟩ = some (.int .i64 (p1 : Int))) (first | with_reducible exact HD0.out.all | with_reducible exact HC0.out.all | fail)
    ((go_at_call 81; refine (rIndex _ g S M RD0.out (p0 : Int)).mono ?_; rw [I0.out]; generalize M.errA (p0 : Int) = ez0; rintro e w1 ⟨rfl, t1⟩; have R1 := Lib.hid (RD0.out.below t1); have F1 := Lib.hid (FD0.out.below t1 FD0.out.lt); have B1 := Lib.hid (BD0.out.below t1 BD0.out.lt); have T1 := Lib.hid (TD0.out.trans (t1.mono TD0.out.size)); have HC0 : Hid (BoxL f g p p0 p1 w1) := Lib.hid (boxL_of F1.out B1.out); clear t1))
  clear q0 q1 q2
  have X1 := boxL_of F1.out B1.out
  have HX1 := Lib.hid X1
  obtain ⟨q0, q1, q2⟩ := X1
  go_wp2_with fail
  have HD1 : Hid (BoxL f g p p0 p1 w1.drew) := Lib.hid HX1.out
  have RD1 := Lib.hid (R1.out.below ((Below.refl _ _).drew))
  have FD1 := Lib.hid (F1.out.drew)
  have BD1 := Lib.hid (B1.out.drew)
  have TD1 := Lib.hid (T1.out.drew)
  go_region_held3 (fun w' => w'.cell? ⟨f, 0, none⟩ = some (.pointer (some ⟨g, 0, none⟩)) ∧ w'.cell? ⟨p, 0, none⟩ = some (.int .i64 (p0 : Int)) ∧ w'.cell? ⟨p, 1, none⟩ = some (.int .i64 (p1 : Int))) (first | with_reducible exact HD1.out.all | with_reducible exact HC1.out.all | fail)
    ((go_at_call 81; refine (rIndex _ g S M RD1.out (p1 : Int)).mono ?_; rw [I1.out]; generalize M.errA (p1 : Int) = ez1; rintro e w2 ⟨rfl, t2⟩; have R2 := Lib.hid (RD1.out.below t2); have F2 := Lib.hid (FD1.out.below t2 FD1.out.lt); have B2 := Lib.hid (BD1.out.below t2 BD1.out.lt); have T2 := Lib.hid (TD1.out.trans (t2.mono TD1.out.size)); have HC1 : Hid (BoxL f g p p0 p1 w2) := Lib.hid (boxL_of F2.out B2.out); clear t2))
  clear q0 q1 q2
  obtain ⟨q0, q1, q2⟩ := boxL_of F2.out B2.out
  rcases HOR.out with ⟨d1, d2, e1, e2⟩ | ⟨d1, d2, e1, e2⟩
  · have E1 := Lib.hid e1
    have E2 := Lib.hid e2
    clear e1 e2 HOR
    go_wp2_with fail
    go_quiet (fail)
    clear q0 q1 q2
    go_wp2_with fail
    go_ret2
    exact ⟨by rw [E1.out, E2.out]; rfl, below_drewN T2.out _⟩
  · have E1 := Lib.hid e1
    have E2 := Lib.hid e2
    clear e1 e2 HOR
    go_wp2_with fail
    go_quiet (fail)
    clear q0 q1 q2
    go_wp2_with fail
    go_ret2
    exact ⟨by rw [E1.out, E2.out]; rfl, below_drewN T2.out _⟩

set_option maxRecDepth 100000 in
set_option maxHeartbeats 4000000 in
theorem part_any (w : World) (f g : Nat) (S : Nat → Prop) (M : RM SV) (hr : Rp w g S M) (c1 : Value) (hf : Blk w f 95 #[.pointer (some ⟨g, 0, none⟩), c1]) (p0 p1 : Nat) {xs X Y : List Nat} {R : List (List Nat)} (L : CutOutM M xs R p0 p1 X Y) :
    Calls Try.prog 47 #[.pointer (some ⟨f, 0, none⟩), .agg #[.int .i64 (p0 : Int), .int .i64 (p1 : Int)]] w fun e w' => e = .returned (.tuple #[]) ∧ Turn w g S (cutM M p0 p1) w' := by
  obtain ⟨p, hp⟩ : ∃ p, p = w.heap.size := ⟨_, rfl⟩
  obtain ⟨W, hW⟩ : ∃ x, x = w.alloc (.cells #[.int .i64 (p0 : Int), .int .i64 (p1 : Int)] 79) := ⟨_, rfl⟩
  have hb : Below w.heap.size w W := by rw [hW]; exact (Below.refl _ _).alloc (Nat.le_refl _) _
  have HP := Lib.hid hp
  have HW := Lib.hid hW
  have B0 : Hid (Blk W p 79 #[.int .i64 (p0 : Int), .int .i64 (p1 : Int)]) := Lib.hid (by rw [hW, hp]; exact Blk.new _ _ _)
  have R0 := Lib.hid (hr.below hb)
  have F0 := Lib.hid (hf.below hb hf.lt)
  have T0 := Lib.hid hb
  obtain ⟨A, B, D⟩ := L.part
  obtain ⟨x, hx⟩ : ∃ x, x = (ordM M p0 p1).1 := ⟨_, rfl⟩
  obtain ⟨y, hy⟩ : ∃ y, y = (ordM M p0 p1).2 := ⟨_, rfl⟩
  have hcm : cutM M p0 p1 = partM M x y := by rw [hx, hy]; rfl
  rw [← hx, ← hy] at D
  obtain ⟨h, hh⟩ : ∃ h, h = prevN M x := ⟨_, rfl⟩
  obtain ⟨r, hr2⟩ : ∃ r, r = nextN M y := ⟨_, rfl⟩
  obtain ⟨n, hn⟩ : ∃ n, n = nextN M x := ⟨_, rfl⟩
  obtain ⟨Ma, ha⟩ : ∃ q, q = M.cut x := ⟨_, rfl⟩
  obtain ⟨Mb, hb2⟩ : ∃ q, q = Ma.cut n := ⟨_, rfl⟩
  obtain ⟨Mc, hc⟩ : ∃ q, q = Mb.cut y := ⟨_, rfl⟩
  obtain ⟨Md, hd⟩ : ∃ q, q = cut0 Mc r := ⟨_, rfl⟩
  obtain ⟨Me, he⟩ : ∃ q, q = join0 Md h r := ⟨_, rfl⟩
  have hlm : cutM M p0 p1 = Me := by rw [hcm, he, hd, hc, hb2, ha, hn, hr2, hh]; rfl
  have la : Ma.own.length = M.own.length := by rw [ha]; rfl
  have lb : Mb.own.length = M.own.length := by rw [hb2]; exact la
  have lc : Mc.own.length = M.own.length := by rw [hc]; exact lb
  have ld : Md.own.length = M.own.length := by rw [hd, cut0_own]; exact lc
  have kh : h = 0 ∨ 1 ≤ h ∧ h ≤ M.own.length := by rw [hh]; exact D.kh
  have kr : r = 0 ∨ 1 ≤ r ∧ r ≤ M.own.length := by rw [hr2]; exact D.kr
  have kn : 1 ≤ n ∧ n ≤ M.own.length := by rw [hn]; exact D.kn
  have K0 : Hid ((1 ≤ p0 ∧ p0 ≤ M.own.length) ∧ (1 ≤ p1 ∧ p1 ≤ M.own.length)) := Lib.hid ⟨L.k0, L.k1⟩
  have KX := Lib.hid D.kf
  have KY := Lib.hid D.kl
  have J1 : Hid (M.cutA (x : Int) = Ma) := Lib.hid (by rw [cutA_ok D.kf, ha])
  have J2 : Hid (Ma.cutA (n : Int) = Mb) := Lib.hid (by rw [cutA_ok (by rw [la]; exact kn), hb2])
  have J3 : Hid (Mb.cutA (y : Int) = Mc) := Lib.hid (by rw [cutA_ok (by rw [lb]; exact D.kl), hc])
  have J4 : Hid (Mc.cutA (r : Int) = Md) := Lib.hid (by rw [cut0_ok (by rw [lc]; exact kr), hd])
  have J5 : Hid (Md.joinA (h : Int) (r : Int) = Me) := Lib.hid (by rw [join0_ok (by rw [ld]; exact kh) (by rw [ld]; exact kr) (fun h1 h2 => by rw [hd, hc, hb2, ha, hn]; rw [hh] at h1 ⊢; rw [hr2] at h2 ⊢; exact D.ne h1 h2), he])
  have EX := Lib.hid hx
  have EY := Lib.hid hy
  have EH := Lib.hid hh
  have ER := Lib.hid hr2
  have EN := Lib.hid hn
  rw [hlm]
  have HI0 := run_ix0
  have HI1 := run_ix1
  have HI2 := run_ix2
  have HI3 := run_ix3
  clear L D hr hf hb hp hW hlm hcm hx hy hh hr2 hn ha hb2 hc hd he la lb lc ld kh kr kn
  go_enter Try.func47, Try.ntmps47
  go_upto_region 1 with fail
  rw [← HW.out]
  try simp only [← HP.out]
  have q1 := B0.out.cell 0
  have q2 := B0.out.cell 1
  go_wp2_with fail
  clear q1 q2
  refine (order_any W f g S M R0.out c1 F0.out p0 p1 K0.out.1 K0.out.2).mono ?_
  rw [← EX.out, ← EY.out]
  rintro e w1 ⟨rfl, t1⟩
  have R1 := Lib.hid (R0.out.below t1)
  have F1 := Lib.hid (F0.out.below t1 F0.out.lt)
  have T1 := Lib.hid (T0.out.trans (t1.mono T0.out.size))
  clear t1
  go_wp2_with fail
  refine (beside_prev w1 f g S M R1.out c1 F1.out x KX.out).mono ?_
  rw [← EH.out]
  rintro e w2 ⟨rfl, t2⟩
  have R2 := Lib.hid (R1.out.below t2)
  have F2 := Lib.hid (F1.out.below t2 F1.out.lt)
  have T2 := Lib.hid (T1.out.trans (t2.mono T1.out.size))
  clear t2
  go_wp2_with fail
  refine (beside_next w2 f g S M R2.out c1 F2.out y KY.out).mono ?_
  rw [← ER.out]
  rintro e w3 ⟨rfl, t3⟩
  have R3 := Lib.hid (R2.out.below t3)
  have F3 := Lib.hid (F2.out.below t3 F2.out.lt)
  have T3 := Lib.hid (T2.out.trans (t3.mono T2.out.size))
  clear t3
  go_wp2_with fail
  refine (beside_next w3 f g S M R3.out c1 F3.out x KX.out).mono ?_
  rw [← EN.out]
  rintro e w4 ⟨rfl, t4⟩
  have R4 := Lib.hid (R3.out.below t4)
  have F4 := Lib.hid (F3.out.below t4 F3.out.lt)
  have M4 : Hid (Mod S w w4) := Lib.hid (Mod.of_below (T3.out.trans (t4.mono T3.out.size)) S)
  have N4 : Hid (∀ k, S k → S k ∨ w.heap.size ≤ k) := Lib.hid (fun k hk => .inl hk)
  clear t4
  go_wp2_with fail
  go_loopw [29] (fun i wr => ∃ (S3 : Nat → Prop) (M3 : RM SV), ((i = .int .i64 0 ∧ M3 = M) ∨ (i = .int .i64 1 ∧ M3 = Ma) ∨ (i = .int .i64 2 ∧ M3 = Mb) ∨ (i = .int .i64 3 ∧ M3 = Mc) ∨ (i = .int .i64 4 ∧ M3 = Md)) ∧ Hid (Rp wr g S3 M3) ∧ Hid (Blk wr f 95 #[.pointer (some ⟨g, 0, none⟩), c1]) ∧ Hid (Mod S w wr) ∧ Hid (∀ k, S3 k → S k ∨ w.heap.size ≤ k)) (fun i _ => 4 - (intOf i).toNat)
  case atStart => exact ⟨S, M, .inl ⟨rfl, rfl⟩, R4, F4, M4, N4⟩
  case round =>
    obtain ⟨Sr, Mr, hor, Rr, Fr, Mr', Nr⟩ := hrel
    rcases hor with ⟨rfl, rfl⟩ | ⟨rfl, rfl⟩ | ⟨rfl, rfl⟩ | ⟨rfl, rfl⟩ | ⟨rfl, rfl⟩
    · have a0 : wr.cell? ⟨f, 0, none⟩ = _ := Fr.out.cell 0
      go_wp2_with fail
      refine (rCut wr g Sr Mr Rr.out (x : Int)).mono ?_
      rw [J1.out]
      generalize Mr.errA (x : Int) = ez
      rintro e w5 ⟨rfl, t5⟩
      obtain ⟨S5, r5, m5, n5⟩ := t5
      have R5 := Lib.hid r5
      have F5 := Lib.hid (Fr.out.mod m5 (Rr.out.other Fr.out (by decide) (by decide) (by decide)))
      have M5 : Hid (Mod S w w5) := Lib.hid (Mr'.out.trans m5 (fun k hk hs => (Nr.out k hs).resolve_right (by omega)))
      have N5 : Hid (∀ k, S5 k → S k ∨ w.heap.size ≤ k) := Lib.hid (fun k hk => (n5 k hk).elim (Nr.out k) (fun h => .inr (Nat.le_trans Mr'.out.size h)))
      clear r5 m5 n5 a0
      go_wp2_with fail
      go_roundw
      case rel => exact ⟨S5, Ma, .inr (.inl ⟨rfl, rfl⟩), R5, F5, M5, N5⟩
      case measure => simp [intOf]
    · have a0 : wr.cell? ⟨f, 0, none⟩ = _ := Fr.out.cell 0
      go_wp2_with fail
      refine (rCut wr g Sr Mr Rr.out (n : Int)).mono ?_
      rw [J2.out]
      generalize Mr.errA (n : Int) = ez
      rintro e w5 ⟨rfl, t5⟩
      obtain ⟨S5, r5, m5, n5⟩ := t5
      have R5 := Lib.hid r5
      have F5 := Lib.hid (Fr.out.mod m5 (Rr.out.other Fr.out (by decide) (by decide) (by decide)))
      have M5 : Hid (Mod S w w5) := Lib.hid (Mr'.out.trans m5 (fun k hk hs => (Nr.out k hs).resolve_right (by omega)))
      have N5 : Hid (∀ k, S5 k → S k ∨ w.heap.size ≤ k) := Lib.hid (fun k hk => (n5 k hk).elim (Nr.out k) (fun h => .inr (Nat.le_trans Mr'.out.size h)))
      clear r5 m5 n5 a0
      go_wp2_with fail
      go_roundw
      case rel => exact ⟨S5, Mb, .inr (.inr (.inl ⟨rfl, rfl⟩)), R5, F5, M5, N5⟩
      case measure => simp [intOf]
    · have a0 : wr.cell? ⟨f, 0, none⟩ = _ := Fr.out.cell 0
      go_wp2_with fail
      refine (rCut wr g Sr Mr Rr.out (y : Int)).mono ?_
      rw [J3.out]
      generalize Mr.errA (y : Int) = ez
      rintro e w5 ⟨rfl, t5⟩
      obtain ⟨S5, r5, m5, n5⟩ := t5
      have R5 := Lib.hid r5
      have F5 := Lib.hid (Fr.out.mod m5 (Rr.out.other Fr.out (by decide) (by decide) (by decide)))
      have M5 : Hid (Mod S w w5) := Lib.hid (Mr'.out.trans m5 (fun k hk hs => (Nr.out k hs).resolve_right (by omega)))
      have N5 : Hid (∀ k, S5 k → S k ∨ w.heap.size ≤ k) := Lib.hid (fun k hk => (n5 k hk).elim (Nr.out k) (fun h => .inr (Nat.le_trans Mr'.out.size h)))
      clear r5 m5 n5 a0
      go_wp2_with fail
      go_roundw
      case rel => exact ⟨S5, Mc, .inr (.inr (.inr (.inl ⟨rfl, rfl⟩))), R5, F5, M5, N5⟩
      case measure => simp [intOf]
    · have a0 : wr.cell? ⟨f, 0, none⟩ = _ := Fr.out.cell 0
      go_wp2_with fail
      refine (rCut wr g Sr Mr Rr.out (r : Int)).mono ?_
      rw [J4.out]
      generalize Mr.errA (r : Int) = ez
      rintro e w5 ⟨rfl, t5⟩
      obtain ⟨S5, r5, m5, n5⟩ := t5
      have R5 := Lib.hid r5
      have F5 := Lib.hid (Fr.out.mod m5 (Rr.out.other Fr.out (by decide) (by decide) (by decide)))
      have M5 : Hid (Mod S w w5) := Lib.hid (Mr'.out.trans m5 (fun k hk hs => (Nr.out k hs).resolve_right (by omega)))
      have N5 : Hid (∀ k, S5 k → S k ∨ w.heap.size ≤ k) := Lib.hid (fun k hk => (n5 k hk).elim (Nr.out k) (fun h => .inr (Nat.le_trans Mr'.out.size h)))
      clear r5 m5 n5 a0
      go_wp2_with fail
      go_roundw
      case rel => exact ⟨S5, Md, .inr (.inr (.inr (.inr ⟨rfl, rfl⟩))), R5, F5, M5, N5⟩
      case measure => simp [intOf]
    · have a0 : wr.cell? ⟨f, 0, none⟩ = _ := Fr.out.cell 0
      go_wp2_with fail
      refine (rJoin wr g Sr Mr Rr.out (h : Int) (r : Int)).mono ?_
      rw [J5.out]
      rintro e w5 ⟨rfl, t5⟩
      obtain ⟨S5, r5, m5, n5⟩ := t5
      have R5 := Lib.hid r5
      have M5 : Hid (Mod S w w5) := Lib.hid (Mr'.out.trans m5 (fun k hk hs => (Nr.out k hs).resolve_right (by omega)))
      have N5 : Hid (∀ k, S5 k → S k ∨ w.heap.size ≤ k) := Lib.hid (fun k hk => (n5 k hk).elim (Nr.out k) (fun h => .inr (Nat.le_trans Mr'.out.size h)))
      clear r5 m5 n5 a0
      go_wp2_with fail
      go_end0
      exact ⟨rfl, S5, R5.out, M5.out, N5.out⟩

end Go.Proofs.Ytlakcldgolpaiaa

/-
  A forest in memory; the walks of count, isId, Has, Len, Joined.
-/
namespace Go.Proofs.Ytlakcldgolpaiaa
open Go.RowKit Go.Maps
set_option linter.unusedVariables false

def pN (v : Value) : Prop := ∃ t : Int, v = .int .i64 t

def pP (v : Value) : Prop := ∃ x : Int × Int, v = .agg #[.int .i64 x.1, .int .i64 x.2]

theorem pN_zero : pN (.int .i64 0) := ⟨0, rfl⟩

theorem pP_zero : pP (.agg #[.int .i64 0, .int .i64 0]) := ⟨(0, 0), rfl⟩

theorem zeroI (w : World) : (zeroValue 3).run Try.prog w = .ok (.int .i64 0) w := by kernel_rfl

theorem zeroP (w : World) : (zeroValue 79).run Try.prog w = .ok (.agg #[.int .i64 0, .int .i64 0]) w := by kernel_rfl

def encTk (t : Tok) : List Value := [.bool t.1, .int .i64 t.2]

theorem encTk_len (t : Tok) : (encTk t).length = 2 := rfl

/-- A forest's memory: its struct, its walks, its maps and rows. -/
structure FAt (w : World) (f g B : Nat) (S : Nat → Prop) (bv be : Nat) (whoV : Value) (M : RM SV) (pv : Int → Option Nat) (pe : Int → Option (Nat × Nat)) (who : List Tok) (free : List Nat) : Prop where
  blk : Blk w f 73 #[.pointer (some ⟨g, 0, none⟩), .map (some bv), .map (some be), whoV]
  rope : Wk w g S M free
  verts : MapG kI pN w bv 4096 (fun i : Int => (pv i).map fun a => .int .i64 (a : Int))
  edges : MapG kI pP w be 4096 (fun i : Int => (pe i).map fun x => .agg #[.int .i64 (x.1 : Int), .int .i64 (x.2 : Int)])
  who : OK encTk 2 85 w B whoV who

def isIdI (i : Int) : Bool := decide (1 ≤ i ∧ i ≤ 2147483647)

set_option maxRecDepth 100000 in
theorem isId_any (i : Int) (w : World) : Calls Try.prog 44 #[.int .i64 i] w fun e w' => e = .returned (.bool (isIdI i)) ∧ w' = w := by
  by_cases h0 : 1 ≤ i
  · have d0 : decide (1 ≤ i) = true := by simpa using h0
    by_cases h1 : i ≤ 2147483647
    · have d1 : decide (i ≤ 2147483647) = true := by simpa using h1
      have e : isIdI i = true := by unfold isIdI; simp; omega
      rw [e]
      go_enter Try.func44, Try.ntmps44
      go_wp2_with fail
      go_ret
      exact ⟨rfl, rfl⟩
    · have d1 : decide (i ≤ 2147483647) = false := by simpa using h1
      have e : isIdI i = false := by unfold isIdI; simp; omega
      rw [e]
      go_enter Try.func44, Try.ntmps44
      go_wp2_with fail
      go_ret
      exact ⟨rfl, rfl⟩
  · have d0 : decide (1 ≤ i) = false := by simpa using h0
    have e : isIdI i = false := by unfold isIdI; simp; omega
    rw [e]
    go_enter Try.func44, Try.ntmps44
    go_wp2_with fail
    go_ret
    exact ⟨rfl, rfl⟩

set_option maxRecDepth 100000 in
theorem count_any (b : Bool) (w : World) : Calls Try.prog 52 #[.bool b] w fun e w' => e = .returned (.int .i64 (if b then 1 else 0)) ∧ w' = w := by
  cases b
  · go_enter Try.func52, Try.ntmps52
    go_wp2_with fail
    go_ret
    exact ⟨rfl, rfl⟩
  · go_enter Try.func52, Try.ntmps52
    go_wp2_with fail
    go_ret
    exact ⟨rfl, rfl⟩

section

variable {f g B bv be : Nat} {S : Nat → Prop} {whoV : Value} {M : RM SV} {pv : Int → Option Nat} {pe : Int → Option (Nat × Nat)} {who : List Tok} {free : List Nat}

set_option maxRecDepth 100000 in
set_option maxHeartbeats 1000000 in
theorem fHas (w : World) (h : FAt w f g B S bv be whoV M pv pe who free) (id : Int) (hi : I64 id) :
    Calls Try.prog 13 #[.pointer (some ⟨f, 0, none⟩), .int .i64 id] w fun e w' => e = .returned (.bool (pe id).isSome) ∧ Below w.heap.size w w' := by
  have a2 : w.cell? ⟨f, 2, none⟩ = some (.map (some be)) := h.blk.cell 2
  obtain ⟨u1, u2, hv⟩ : ∃ u1 u2 : Int, ((pe id).map fun x => Value.agg #[.int .i64 (x.1 : Int), .int .i64 (x.2 : Int)]).getD (.agg #[.int .i64 0, .int .i64 0]) = .agg #[.int .i64 u1, .int .i64 u2] := by
    cases pe id with
    | none => exact ⟨0, 0, rfl⟩
    | some x => exact ⟨_, _, rfl⟩
  obtain ⟨y, hy⟩ : ∃ y, y = (pe id).isSome := ⟨_, rfl⟩
  have hs : ((pe id).map fun x => Value.agg #[.int .i64 (x.1 : Int), .int .i64 (x.2 : Int)]).isSome = y := by rw [hy]; cases pe id <;> rfl
  rw [← hy]
  have HM := Lib.hid h.edges
  have HV := Lib.hid hv
  have HS := Lib.hid hs
  clear h hv hs hy
  go_enter Try.func13, Try.ntmps13
  go_wp2_with (at_lookup; refine wpList_lookG (X := kI) rfl _ _ _ rfl _ Try.underlying70 (zeroP _) pP_zero be 4096 rfl HM.out id rfl hi _ _ HV.out HS.out ?_)
  go_ret
  exact ⟨rfl, (Below.refl _ _).alloc (Nat.le_refl _) _⟩

set_option maxRecDepth 100000 in
set_option maxHeartbeats 1000000 in
theorem fLen (w : World) (h : FAt w f g B S bv be whoV M pv pe who free) {L : List Int} (hL : L.Nodup) (hin : ∀ i, i ∈ L ↔ I64 i ∧ (pv i).isSome = true) :
    Calls Try.prog 12 #[.pointer (some ⟨f, 0, none⟩)] w fun e w' => e = .returned (.int .i64 (L.length : Nat)) ∧ w' = w := by
  have a1 : w.cell? ⟨f, 1, none⟩ = some (.map (some bv)) := h.blk.cell 1
  have hin2 : ∀ i, i ∈ L ↔ I64 i ∧ ((pv i).map fun a => Value.int .i64 (a : Int)).isSome = true := fun i => by rw [hin]; cases pv i <;> simp
  have hlen := fun ty => MapG.len (X := kI) h.verts Try.underlying69 hL hin2 ty
  clear h
  go_enter Try.func12, Try.ntmps12
  go_wp2_with fail
  go_ret
  exact ⟨rfl, rfl⟩

set_option maxRecDepth 100000 in
set_option maxHeartbeats 1000000 in
theorem fJoined (w : World) (h : FAt w f g B S bv be whoV M pv pe who free) (u v : Int) (hu : I64 u) (hv : I64 v) :
    Calls Try.prog 25 #[.pointer (some ⟨f, 0, none⟩), .int .i64 u, .int .i64 v] w fun e w' => (match pv u, pv v with
      | some a, some b => e = .returned (.tuple #[.bool (M.sameA (a : Int) (b : Int)), .int .i64 (M.errAB (a : Int) (b : Int))])
      | _, _ => e = .returned (.tuple #[.bool false, .int .i64 51])) ∧ w' = w := by
  have a0 : w.cell? ⟨f, 0, none⟩ = _ := h.blk.cell 0
  have a1 : w.cell? ⟨f, 1, none⟩ = some (.map (some bv)) := h.blk.cell 1
  have HM := Lib.hid h.verts
  obtain ⟨gr, fv, Sr, hK, -⟩ := h.rope
  have b0 : w.cell? ⟨g, 0, none⟩ = _ := hK.blk.cell 0
  have hsame := fun a b => rSame w gr Sr M hK.rope a b
  have HSAME := Lib.hid hsame
  clear hK
  clear h hsame
  cases eu : pv u with
  | none =>
    have HV : Hid (((pv u).map fun a => Value.int .i64 (a : Int)).getD (.int .i64 0) = .int .i64 0 ∧ ((pv u).map fun a => Value.int .i64 (a : Int)).isSome = false) := Lib.hid (by rw [eu]; exact ⟨rfl, rfl⟩)
    obtain ⟨x, y, hx⟩ : ∃ (x : Int) (y : Bool), ((pv v).map fun a => Value.int .i64 (a : Int)).getD (.int .i64 0) = .int .i64 x ∧ ((pv v).map fun a => Value.int .i64 (a : Int)).isSome = y := by
      cases pv v with
      | none => exact ⟨0, false, rfl, rfl⟩
      | some b => exact ⟨_, true, rfl, rfl⟩
    have HX := Lib.hid hx
    clear hx eu
    go_enter Try.func25, Try.ntmps25
    go_wp2_with (first
      | (at_lookup; refine wpList_lookG (X := kI) rfl _ _ _ rfl _ Try.underlying69 (zeroI _) pN_zero bv 4096 rfl HM.out u rfl hu _ _ HV.out.1 HV.out.2 ?_)
      | (at_lookup; refine wpList_lookG (X := kI) rfl _ _ _ rfl _ Try.underlying69 (zeroI _) pN_zero bv 4096 rfl HM.out v rfl hv _ _ HX.out.1 HX.out.2 ?_))
    go_ret2
    exact ⟨rfl, rfl⟩
  | some a =>
    have HV : Hid (((pv u).map fun a => Value.int .i64 (a : Int)).getD (.int .i64 0) = .int .i64 (a : Int) ∧ ((pv u).map fun a => Value.int .i64 (a : Int)).isSome = true) := Lib.hid (by rw [eu]; exact ⟨rfl, rfl⟩)
    clear eu
    cases ev : pv v with
    | none =>
      have HX : Hid (((pv v).map fun a => Value.int .i64 (a : Int)).getD (.int .i64 0) = .int .i64 0 ∧ ((pv v).map fun a => Value.int .i64 (a : Int)).isSome = false) := Lib.hid (by rw [ev]; exact ⟨rfl, rfl⟩)
      clear ev
      go_enter Try.func25, Try.ntmps25
      go_wp2_with (first
        | (at_lookup; refine wpList_lookG (X := kI) rfl _ _ _ rfl _ Try.underlying69 (zeroI _) pN_zero bv 4096 rfl HM.out u rfl hu _ _ HV.out.1 HV.out.2 ?_)
        | (at_lookup; refine wpList_lookG (X := kI) rfl _ _ _ rfl _ Try.underlying69 (zeroI _) pN_zero bv 4096 rfl HM.out v rfl hv _ _ HX.out.1 HX.out.2 ?_))
      go_ret2
      exact ⟨rfl, rfl⟩
    | some b =>
      have HX : Hid (((pv v).map fun a => Value.int .i64 (a : Int)).getD (.int .i64 0) = .int .i64 (b : Int) ∧ ((pv v).map fun a => Value.int .i64 (a : Int)).isSome = true) := Lib.hid (by rw [ev]; exact ⟨rfl, rfl⟩)
      clear ev
      go_enter Try.func25, Try.ntmps25
      go_wp2_with (first
        | (at_lookup; refine wpList_lookG (X := kI) rfl _ _ _ rfl _ Try.underlying69 (zeroI _) pN_zero bv 4096 rfl HM.out u rfl hu _ _ HV.out.1 HV.out.2 ?_)
        | (at_lookup; refine wpList_lookG (X := kI) rfl _ _ _ rfl _ Try.underlying69 (zeroI _) pN_zero bv 4096 rfl HM.out v rfl hv _ _ HX.out.1 HX.out.2 ?_))
      refine (HSAME.out (a : Int) (b : Int)).mono ?_
      rintro e w1 ⟨rfl, h1⟩
      subst w1
      go_wp2_with fail
      go_ret2
      exact ⟨rfl, rfl⟩

end

end Go.Proofs.Ytlakcldgolpaiaa
