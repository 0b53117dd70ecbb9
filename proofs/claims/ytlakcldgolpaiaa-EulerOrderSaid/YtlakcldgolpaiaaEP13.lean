/-
  A rope by its own blocks; what its calls answer, in plain words. No walk.
-/
import Derived.Test.YtlakcldgolpaiaaEP12
namespace Go.Proofs.Ytlakcldgolpaiaa
open Go.RowKit
set_option linter.unusedVariables false

def SeedAt (w : World) (B : Nat) (sv : Value) (ss : List Int) : Prop := (ss = [] ∧ ∃ A c, sv = .slice A 0 c) ∨ OK encI 1 3 w B sv ss

theorem SeedAt.modNode {w w' : World} {B B2 : Nat} {sv : Value} {ss : List Int} {nb n cap : Nat} {E : TypeId} {α : Type} {enc : α → List Value} {k : Nat} {xs : List α} (h : SeedAt w B sv ss) (hn : OK enc k E w B2 (.slice (some ⟨nb, 0, none⟩) n cap) xs) (hE : (3 : TypeId) ≠ E) (hm : Mod (fun k => k = nb) w w') : SeedAt w' B sv ss := by
  rcases h with h | h
  · exact .inl h
  · refine .inr ⟨h.1, h.2.1, ?_⟩
    rcases h.2.2 with h3 | ⟨q, c, cur, e, hq, hh, r⟩
    · exact .inl h3
    · refine .inr ⟨q, c, cur, e, hq, ?_, r⟩
      rw [hm.block q (Array.getElem?_eq_some_iff.1 hh).1 (fun e2 => ?_)]
      · exact hh
      · have e2 : q = nb := e2
        subst e2
        have hb : Blk w q 3 cur := hh
        rcases hn.2.2 with ⟨e4, _⟩ | ⟨q2, c2, cur2, e4, _, hh2, _⟩
        · cases e4
        · injection e4 with e5
          injection e5 with e5
          injection e5 with e5
          subst e5
          exact hb.ne_ (t' := E) (cs' := cur2) hh2 hE rfl

theorem SeedAt.below {w w' : World} {B : Nat} {sv : Value} {ss : List Int} (h : SeedAt w B sv ss) (hb : Below w.heap.size w w') : SeedAt w' B sv ss := by
  rcases h with h | h
  · exact .inl h
  · exact .inr (h.below hb)

structure RpX (w : World) (g B : Nat) (sv : Value) (nb cap : Nat) (N : Nodes SV) (ss : List Int) (M : RM SV) : Prop where
  mem : Mem w g B sv nb (M.own.length + 1) cap N
  ok : RopeOk N M
  few : M.own.length ≤ 65536
  seeds : SeedAt w B sv ss
  small : ss.length ≤ 65536

def Rp (w : World) (g : Nat) (S : Nat → Prop) (M : RM SV) : Prop := ∃ B sv nb cap N ss, RpX w g B sv nb cap N ss M ∧ ∀ k, (k = g ∨ k = nb ∨ (ss ≠ [] ∧ sv.ownBlock = some k)) ↔ S k

def Turn (w : World) (g : Nat) (S : Nat → Prop) (M' : RM SV) (w' : World) : Prop := ∃ S', Rp w' g S' M' ∧ Mod S w w' ∧ ∀ k, S' k → S k ∨ w.heap.size ≤ k

section

variable {w w' : World} {g : Nat} {S : Nat → Prop} {M : RM SV}

theorem RpX.below {B : Nat} {sv : Value} {nb cap : Nat} {N : Nodes SV} {ss : List Int} (h : RpX w g B sv nb cap N ss M) (hb : Below w.heap.size w w') : RpX w' g B sv nb cap N ss M := ⟨h.mem.below hb, h.ok, h.few, h.seeds.below hb, h.small⟩

theorem Rp.below (h : Rp w g S M) (hb : Below w.heap.size w w') : Rp w' g S M := by
  obtain ⟨B, sv, nb, cap, N, ss, h1, h2⟩ := h
  exact ⟨B, sv, nb, cap, N, ss, h1.below hb, h2⟩

theorem Rp.lt (h : Rp w g S M) {k : Nat} (hk : S k) : k < w.heap.size := by
  obtain ⟨B, sv, nb, cap, N, ss, h1, h2⟩ := h
  rcases (h2 k).2 hk with rfl | rfl | ⟨e1, e2⟩
  · exact h1.mem.lt.1
  · exact h1.mem.lt.2
  · rcases h1.seeds with ⟨e, _⟩ | h
    · exact absurd e e1
    · exact (h.lt k e2).2

theorem Rp.ok (h : Rp w g S M) : M.Ok := by obtain ⟨B, sv, nb, cap, N, ss, h1, h2⟩ := h; exact h1.ok.ok

theorem Rp.few (h : Rp w g S M) : M.own.length ≤ 65536 := by obtain ⟨B, sv, nb, cap, N, ss, h1, h2⟩ := h; exact h1.few

theorem turn_same (h : Rp w g S M) (hb : Below w.heap.size w w') : Turn w g S M w' := ⟨S, h.below hb, Mod.of_below hb S, fun k hk => .inl hk⟩

theorem turn_of {B : Nat} {sv : Value} {nb cap : Nat} {N N' : Nodes SV} {ss : List Int} {M' : RM SV} (h : RpX w g B sv nb cap N ss M) (hS : ∀ k, (k = g ∨ k = nb ∨ (ss ≠ [] ∧ sv.ownBlock = some k)) ↔ S k) (hlen : M'.own.length = M.own.length) (hm : Mem w' g B sv nb (M.own.length + 1) cap N') (hmod : Mod (fun k => k = nb) w w') (hok : RopeOk N' M') : Turn w g S M' w' :=
  ⟨S, ⟨B, sv, nb, cap, N', ss, ⟨by rw [hlen]; exact hm, hok, by rw [hlen]; exact h.few, h.seeds.modNode h.mem.nodes (by decide) hmod, h.small⟩, hS⟩, hmod.mono fun k _ e => (hS k).1 (.inr (.inl e)), fun k hk => .inl hk⟩

end

/-! ### Answers -/

def RM.known (M : RM SV) (a : Int) : Bool := decide (0 < a ∧ a < (M.own.length : Int) + 1)

theorem known_nat {M : RM SV} {a : Int} (h : M.known a = true) : ∃ i : Nat, a = (i : Int) ∧ 1 ≤ i ∧ i ≤ M.own.length := by
  unfold RM.known at h
  have := of_decide_eq_true h
  exact ⟨a.toNat, by omega, by omega, by omega⟩

theorem known_of {M : RM SV} {i : Nat} (h : 1 ≤ i ∧ i ≤ M.own.length) : M.known (i : Int) = true := by
  unfold RM.known
  exact decide_eq_true (by omega)

def RM.rowA (M : RM SV) (a : Int) : List Nat := if M.known a = true then M.rowOf a.toNat else []

def RM.errA (M : RM SV) (a : Int) : Int := if M.known a = true then 0 else 150

def RM.valA (M : RM SV) (a : Int) : SV := if M.known a = true then M.val a.toNat else ⟨0, 0, 0⟩

def RM.allA (M : RM SV) (a : Int) : SV := if M.known a = true then bears M.val (M.rowOf a.toNat) else ⟨0, 0, 0⟩

def RM.indexA (M : RM SV) (a : Int) : Int := if M.known a = true then ((M.rowOf a.toNat).idxOf a.toNat : Int) else 0

def RM.sameA (M : RM SV) (a b : Int) : Bool := if M.known a = true ∧ M.known b = true then decide (M.rowOf a.toNat = M.rowOf b.toNat) else false

def RM.errAB (M : RM SV) (a b : Int) : Int := if M.known a = true ∧ M.known b = true then 0 else 150

def RM.atA (M : RM SV) (a i : Int) : Int := if M.known a = true ∧ 0 ≤ i ∧ i < ((M.rowOf a.toNat).length : Int) then (((M.rowOf a.toNat)[i.toNat]?).getD 0 : Nat) else 0

def RM.atE (M : RM SV) (a i : Int) : Int := if M.known a = true then (if 0 ≤ i ∧ i < ((M.rowOf a.toNat).length : Int) then 0 else 1) else 150

def RM.joinE (M : RM SV) (a b : Int) : Int := if M.known a = true ∧ M.known b = true then (if M.rowOf a.toNat = M.rowOf b.toNat then 151 else 0) else 150

def RM.joinA (M : RM SV) (a b : Int) : RM SV := if M.joinE a b = 0 then M.join a.toNat b.toNat else M

def RM.cutA (M : RM SV) (a : Int) : RM SV := if M.known a = true then M.cut a.toNat else M

def RM.setA (M : RM SV) (a : Int) (v : SV) : RM SV := if M.known a = true then M.set a.toNat v else M

def RM.makeA (M : RM SV) (v : SV) : RM SV := if M.own.length < 65536 then M.make v else M

def RM.makeN (M : RM SV) : Int := if M.own.length < 65536 then (M.own.length : Int) + 1 else 0

def RM.makeE (M : RM SV) : Int := if M.own.length < 65536 then 0 else 55

/-- What a walk wants of a node that is known. -/
theorem RpX.at_ {w : World} {g B : Nat} {sv : Value} {nb cap : Nat} {N : Nodes SV} {ss : List Int} {M : RM SV} (h : RpX w g B sv nb cap N ss M) {i : Nat} (hi : 1 ≤ i ∧ i ≤ M.own.length) :
    ∃ t l r fs, t.list = M.rowOf i ∧ Laid N t ∧ (N t.root).up = 0 ∧ t ≠ .nil ∧ Laid N (.node l i r) ∧ Zip N i fs ∧ (N i).up = nextP fs ∧ before l.list fs ++ i :: behind r.list fs = M.rowOf i ∧ topP i fs = t.root ∧ fs.length ≤ M.own.length ∧
      (l.list ++ i :: r.list ++ around fs).Nodup ∧ (∀ j ∈ l.list ++ i :: r.list ++ around fs, 0 < j ∧ j < M.own.length + 1) ∧ (∀ j ∈ t.list, 0 < j ∧ j < M.own.length + 1) := by
  obtain ⟨t, l, r, fs, k1, k2, k3, k4, k5, k6, k7, k8, k9, k10, k11, k12⟩ := h.ok.at_ hi
  have hrow := row_mem h.ok.ok hi
  have hk : ∀ j ∈ M.rowOf i, 0 < j ∧ j < M.own.length + 1 := fun j hj => by
    have := row_known h.ok.ok hrow.1 hj
    omega
  exact ⟨t, l, r, fs, k1, k2, k3, k4, k5, k6, k7, k8, k9, k10, k11, fun j hj => hk j (k12 j hj), fun j hj => hk j (by rw [← k1]; exact hj)⟩

/-- The top of a node's tree. -/
theorem topX {w : World} {g B : Nat} {sv : Value} {nb cap : Nat} {N : Nodes SV} {ss : List Int} {M : RM SV} (h : RpX w g B sv nb cap N ss M) {i : Nat} (hi : 1 ≤ i ∧ i ≤ M.own.length) : ∃ t : Tr, t.list = M.rowOf i ∧ Laid N t ∧ (N t.root).up = 0 ∧ t ≠ .nil ∧ (∀ j ∈ t.list, 0 < j ∧ j < M.own.length + 1) ∧
    ∀ W, Mem W g B sv nb (M.own.length + 1) cap N → Calls Try.prog 71 #[.pointer (some ⟨g, 0, none⟩), .int .i64 (i : Int)] W fun e w' => e = .returned (.int .i64 (t.root : Nat)) ∧ w' = W := by
  obtain ⟨t, l, r, fs, k1, k2, k3, k4, k5, k6, k7, k8, k9, k10, k11, k12, k13⟩ := h.at_ hi
  refine ⟨t, k1, k2, k3, k4, k13, fun W hW => ?_⟩
  rw [← k9]
  exact top_any W g B sv nb _ cap N hW (by have := h.few; omega) i fs (by omega) k6 k7 (fun j hj => k12 j (List.mem_append_right _ hj))

end Go.Proofs.Ytlakcldgolpaiaa
