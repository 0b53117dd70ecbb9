/-
  The walk of AddV.
-/
import Derived.Test.YtlhkajlkapoabaaLK23
namespace Go.Proofs.Ytlhkajlkapoabaa
open Go.RowKit Go.Maps
set_option linter.unusedVariables false

theorem MapG.notBlk {w : World} {X : KeyX} {p : Value → Prop} {b n : Nat} {f : X.α → Option Value} (hM : MapG X p w b n f) {q t : Nat} {cs : Array Value} (hb : Blk w q t cs) : b ≠ q := by
  rintro rfl
  obtain ⟨D, ⟨es, clock, h1, _⟩, _⟩ := hM
  unfold Blk at hb
  rw [h1] at hb
  cases hb

def isIdI (i : Int) : Bool := decide (1 ≤ i ∧ i ≤ 2147483647)

set_option maxRecDepth 100000 in
theorem isId_any (i : Int) (w : World) : Calls Try.prog 29 #[.int .i64 i] w fun e w' => e = .returned (.bool (isIdI i)) ∧ w' = w := by
  by_cases h0 : 1 ≤ i
  · have d0 : decide (1 ≤ i) = true := by simpa using h0
    by_cases h1 : i ≤ 2147483647
    · have d1 : decide (i ≤ 2147483647) = true := by simpa using h1
      have e : isIdI i = true := by unfold isIdI; simp; omega
      rw [e]
      go_enter Try.func29, Try.ntmps29
      go_wp2_with fail
      go_ret
      exact ⟨rfl, rfl⟩
    · have d1 : decide (i ≤ 2147483647) = false := by simpa using h1
      have e : isIdI i = false := by unfold isIdI; simp; omega
      rw [e]
      go_enter Try.func29, Try.ntmps29
      go_wp2_with fail
      go_ret
      exact ⟨rfl, rfl⟩
  · have d0 : decide (1 ≤ i) = false := by simpa using h0
    have e : isIdI i = false := by unfold isIdI; simp; omega
    rw [e]
    go_enter Try.func29, Try.ntmps29
    go_wp2_with fail
    go_ret
    exact ⟨rfl, rfl⟩

theorem isIdI_yes {v : Int} (h : 1 ≤ v ∧ v ≤ 2147483647) : isIdI v = true := decide_eq_true h

theorem isIdI_no {v : Int} (h : ¬ (1 ≤ v ∧ v ≤ 2147483647)) : isIdI v = false := decide_eq_false h

theorem I64_of {u : Int} (h : 1 ≤ u ∧ u ≤ 2147483647) : I64 u := by unfold I64; omega

/-- A forest in memory. -/
structure LFAt (w : World) (f bv be : Nat) (S : Nat → Prop) (P : Nat → Option Nat) (N : Nat → NdL) (K : List (ST × Option Nat)) (vs es : Int → Option Nat) (F : LF) : Prop where
  at_ : LAt w f bv be S P N K vs es
  gd : Gd S P N F vs es
  few : F.vs.length ≤ 2048
  ids : ∀ v ∈ F.vs, 1 ≤ v ∧ v ≤ 2147483647
  eids : ∀ e ∈ F.es, 1 ≤ e.id ∧ e.id ≤ 2147483647 ∧ e.w ≤ 1099511627776

theorem LFAt.vkeys {w : World} {f bv be : Nat} {S : Nat → Prop} {P : Nat → Option Nat} {N : Nat → NdL} {K : List (ST × Option Nat)} {vs es : Int → Option Nat} {F : LF} (h : LFAt w f bv be S P N K vs es F) (k : Int) : k ∈ F.vs ↔ I64 k ∧ (ptrO (vs k)).isSome = true := by
  rw [← h.gd.vk k]
  constructor
  · rintro ⟨a, e⟩
    have := h.ids k ((h.gd.vk k).1 ⟨a, e⟩)
    exact ⟨by unfold I64; omega, by rw [e]; rfl⟩
  · rintro ⟨-, e⟩
    cases hk : vs k with
    | none => rw [hk] at e; cases e
    | some a => exact ⟨a, rfl⟩

theorem LFAt.ekeys {w : World} {f bv be : Nat} {S : Nat → Prop} {P : Nat → Option Nat} {N : Nat → NdL} {K : List (ST × Option Nat)} {vs es : Int → Option Nat} {F : LF} (h : LFAt w f bv be S P N K vs es F) (k : Int) : k ∈ F.es.map Eg.id ↔ I64 k ∧ (ptrO (es k)).isSome = true := by
  rw [List.mem_map, ← h.gd.ek k]
  constructor
  · rintro ⟨a, e⟩
    obtain ⟨x, hx, hk⟩ := (h.gd.ek k).1 ⟨a, e⟩
    have := h.eids x hx
    exact ⟨I64_of (by rw [← hk]; exact ⟨this.1, this.2.1⟩), by rw [e]; rfl⟩
  · rintro ⟨-, e⟩
    cases hk : es k with
    | none => rw [hk] at e; cases e
    | some a => exact ⟨a, rfl⟩

/-- AddV's answer where it refuses. -/
def LF.addE (F : LF) (v : Int) : Int := if 1 ≤ v ∧ v ≤ 2147483647 then (if v ∈ F.vs then 50 else if 2048 ≤ F.vs.length then 55 else 0) else 1

section

variable {w w' : World} {f bv be : Nat} {S : Nat → Prop} {P : Nat → Option Nat} {N : Nat → NdL} {K : List (ST × Option Nat)} {vs es : Int → Option Nat} {F : LF}

set_option maxRecDepth 100000 in
set_option maxHeartbeats 4000000 in
theorem addV_no (h : LFAt w f bv be S P N K vs es F) (v : Int) (hv : I64 v) (hn : F.addE v ≠ 0) :
    Calls Try.prog 23 #[.pointer (some ⟨f, 0, none⟩), .int .i64 v] w fun e w' => e = .returned (.int .i64 (F.addE v)) ∧ w' = w := by
  have hid := fun w => isId_any v w
  by_cases h0 : 1 ≤ v ∧ v ≤ 2147483647
  · rw [isIdI_yes h0] at hid
    have K1 := Lib.hid hid
    have c0 : w.cell? ⟨f, 0, none⟩ = some (.map (some bv)) := h.at_.blk.cell 0
    have HM := Lib.hid h.at_.verts
    by_cases h1 : v ∈ F.vs
    · have e : F.addE v = 50 := by unfold LF.addE; rw [if_pos h0, if_pos h1]
      rw [e]
      obtain ⟨a, ha⟩ := (h.gd.vk v).2 h1
      have HV : Hid ((ptrO (vs v)).getD (.pointer none) = .pointer (some ⟨a, 0, none⟩) ∧ (ptrO (vs v)).isSome = true) := Lib.hid (by rw [ha]; exact ⟨rfl, rfl⟩)
      clear h hid h0 h1 e ha hn
      go_enter Try.func23, Try.ntmps23
      go_wp2_with fail
      refine (K1.out w).mono ?_
      rintro e w1 ⟨rfl, hw⟩
      subst w1
      go_wp2_with (at_lookup; refine wpList_lookG (X := kI) rfl _ _ _ rfl _ Try.underlying62 (zeroQ _) pQ_zero bv 4096 rfl HM.out v rfl hv _ _ HV.out.1 HV.out.2 ?_)
      go_ret
      exact ⟨rfl, rfl⟩
    · have h2 : 2048 ≤ F.vs.length := by
        by_cases h2 : 2048 ≤ F.vs.length
        · exact h2
        · exact absurd (by unfold LF.addE; rw [if_pos h0, if_neg h1, if_neg h2]) hn
      have e : F.addE v = 55 := by unfold LF.addE; rw [if_pos h0, if_neg h1, if_pos h2]
      rw [e]
      have hvn : vs v = none := by
        cases hk : vs v with
        | none => rfl
        | some a => exact absurd ((h.gd.vk v).1 ⟨a, hk⟩) h1
      have HV : Hid ((ptrO (vs v)).getD (.pointer none) = .pointer none ∧ (ptrO (vs v)).isSome = false) := Lib.hid (by rw [hvn]; exact ⟨rfl, rfl⟩)
      have HL := Lib.hid (And.intro h.gd.vnd h.vkeys)
      have hlen : F.vs.length = 2048 := by have := h.few; omega
      have HLN := Lib.hid hlen
      clear h hid h0 h1 h2 e hvn hn hlen
      go_enter Try.func23, Try.ntmps23
      go_wp2_with fail
      refine (K1.out w).mono ?_
      rintro e w1 ⟨rfl, hw⟩
      subst w1
      go_wp2_with (first | (at_lookup; refine wpList_lookG (X := kI) rfl _ _ _ rfl _ Try.underlying62 (zeroQ _) pQ_zero bv 4096 rfl HM.out v rfl hv _ _ HV.out.1 HV.out.2 ?_) | (at_len; refine wpList_lenG (X := kI) rfl _ _ rfl _ Try.underlying62 bv 4096 rfl HM.out F.vs HL.out.1 HL.out.2 2048 HLN.out ?_))
      go_ret
      exact ⟨rfl, rfl⟩
  · rw [isIdI_no h0] at hid
    have e : F.addE v = 1 := by unfold LF.addE; rw [if_neg h0]
    rw [e]
    have K1 := Lib.hid hid
    clear h hid h0 e hn
    go_enter Try.func23, Try.ntmps23
    go_wp2_with fail
    refine (K1.out w).mono ?_
    rintro e w1 ⟨rfl, hw⟩
    subst w1
    go_wp2_with fail
    go_ret
    exact ⟨rfl, rfl⟩

theorem new_cells : encL (madeL Eg.zero) = #[.pointer none, .pointer none, .pointer none, .bool false, .int .i64 0, .int .i64 0, .int .i64 0, .int .i64 0, .int .i64 0, .int .i64 0, .int .i64 0, .int .i64 0, .int .i64 0, .complex .f64 0 0] := by
  unfold encL madeL
  dsimp only
  rw [fl_zero']
  rfl

set_option maxRecDepth 100000 in
set_option maxHeartbeats 4000000 in
theorem addV_yes (h : LFAt w f bv be S P N K vs es F) (v : Int) (hv : I64 v) (hn : F.addE v = 0) :
    Calls Try.prog 23 #[.pointer (some ⟨f, 0, none⟩), .int .i64 v] w fun e w' => e = .returned (.int .i64 0) ∧ Mod (fun k => k = bv) w w' ∧ LFAt w' f bv be (fun k => S k ∨ k = w.heap.size) (setP P w.heap.size none) (updL N w.heap.size (toldL Eg.zero 0)) ((.node .nil w.heap.size false .nil, none) :: K) (fun u => if u = v then some w.heap.size else vs u) es ⟨F.vs ++ [v], F.es⟩ := by
  have hid := fun w => isId_any v w
  have h0 : 1 ≤ v ∧ v ≤ 2147483647 := by
    by_cases h0 : 1 ≤ v ∧ v ≤ 2147483647
    · exact h0
    · unfold LF.addE at hn; rw [if_neg h0] at hn; cases hn
  have h1 : v ∉ F.vs := by
    intro h1
    unfold LF.addE at hn; rw [if_pos h0, if_pos h1] at hn; cases hn
  have h2 : F.vs.length < 2048 := by
    by_cases h2 : 2048 ≤ F.vs.length
    · unfold LF.addE at hn; rw [if_pos h0, if_neg h1, if_pos h2] at hn; cases hn
    · omega
  rw [isIdI_yes h0] at hid
  have K1 := Lib.hid hid
  have c0 : w.cell? ⟨f, 0, none⟩ = some (.map (some bv)) := h.at_.blk.cell 0
  have HM := Lib.hid h.at_.verts
  have hvn : vs v = none := by
    cases hk : vs v with
    | none => rfl
    | some a => exact absurd ((h.gd.vk v).1 ⟨a, hk⟩) h1
  have HV : Hid ((ptrO (vs v)).getD (.pointer none) = .pointer none ∧ (ptrO (vs v)).isSome = false) := Lib.hid (by rw [hvn]; exact ⟨rfl, rfl⟩)
  have HL := Lib.hid (And.intro h.gd.vnd h.vkeys)
  obtain ⟨len, hlen⟩ : ∃ n, n = F.vs.length := ⟨_, rfl⟩
  have HLN := Lib.hid hlen
  have d1 : decide ((len : Int) ≥ 2048) = false := by simp; omega
  obtain ⟨W, hW⟩ : ∃ W, W = w.alloc (.cells #[.pointer none, .pointer none, .pointer none, .bool false, .int .i64 0, .int .i64 0, .int .i64 0, .int .i64 0, .int .i64 0, .int .i64 0, .int .i64 0, .int .i64 0, .int .i64 0, .complex .f64 0 0] 71) := ⟨_, rfl⟩
  have hbW : Below w.heap.size w W := by rw [hW]; exact (Below.refl _ _).alloc (Nat.le_refl _) _
  have hS : ¬ S w.heap.size := fun hs => Nat.lt_irrefl _ (h.at_.at_ _ hs).lt
  obtain ⟨w2, hrun, m2, t2⟩ := MapG.store (X := kI) (h.at_.verts.same (hbW.block _ h.at_.verts.lt)) Try.underlying62 (by omega) (a := v) hv (v := .pointer (some ⟨w.heap.size, 0, none⟩)) ⟨_, rfl⟩
  have hm2 : Mod (fun k => k = bv) W w2 := (Mod.refl _ W).turned t2 (fun _ => rfl)
  have hmw : Mod (fun k => k = bv) w w2 := (Mod.of_below hbW _).trans' hm2
  have hgd := h.gd.addV h.at_.fs hS h1
  have hfs := h.at_.fs.add hS Eg.zero 0 (by have := h.at_.fs.bs; unfold Eg.stepS; rw [if_pos rfl]; omega) (by have := h.at_.fs.bk; unfold Eg.stepK; rw [if_pos rfl]; omega)
  have hbv : bv ≠ w.heap.size := Nat.ne_of_lt h.at_.verts.lt
  have hbe : be ≠ w.heap.size := Nat.ne_of_lt h.at_.edges.lt
  have hfb : f ≠ bv := fun e => h.at_.verts.notBlk h.at_.blk e.symm
  have HFIN : Hid (LFAt w2 f bv be (fun k => S k ∨ k = w.heap.size) (setP P w.heap.size none) (updL N w.heap.size (toldL Eg.zero 0)) ((.node .nil w.heap.size false .nil, none) :: K) (fun u => if u = v then some w.heap.size else vs u) es ⟨F.vs ++ [v], F.es⟩) := Lib.hid (by
    refine ⟨⟨h.at_.blk.mod hmw hfb, ?_, h.at_.edges.mod hmw (fun e => h.at_.ne e.symm), ?_, hfs, fun u a hu => (hgd.full a).2 (.inl ⟨u, hu⟩), fun i a hi => (hgd.full a).2 (.inr ⟨i, hi⟩), ?_, ?_, h.at_.ne⟩, hgd, ?_, ?_, h.eids⟩
    · have hk := MapG.cast (X := kI) m2 (f' := fun u => ptrO (if u = v then some w.heap.size else vs u)) (fun u _ => by
        by_cases hu : u = v
        · rw [if_pos hu, if_pos hu]; rfl
        · rw [if_neg hu, if_neg hu])
      refine hk.bound (L := F.vs ++ [v]) hgd.vnd (fun u => ?_) |>.mono (by rw [List.length_append]; simp; omega)
      rw [← hgd.vk u]
      constructor
      · rintro ⟨a, e⟩
        have hu := (hgd.vk u).1 ⟨a, e⟩
        have hr : 1 ≤ u ∧ u ≤ 2147483647 := by
          rcases List.mem_append.1 hu with hu | hu
          · exact h.ids u hu
          · rw [List.mem_singleton.1 hu]; exact h0
        refine ⟨I64_of hr, ?_⟩
        rw [e]; rfl
      · rintro ⟨-, e⟩
        cases hk : (if u = v then some w.heap.size else vs u) with
        | none => rw [hk] at e; cases e
        | some a => exact ⟨a, rfl⟩
    · rintro k (hk | hk)
      · rw [updL_ne N _ (fun e : k = w.heap.size => hS (e ▸ hk))]
        exact (h.at_.at_ k hk).mod hmw (fun e => h.at_.bvS (e ▸ hk))
      · subst hk
        rw [updL_same, ← made_vertex]
        have hb : Blk W w.heap.size 71 (encL (madeL Eg.zero)) := by rw [hW, new_cells]; exact Blk.new w _ _
        exact hb.mod hm2 (fun e => hbv e.symm)
    · rintro (hk | hk)
      · exact h.at_.bvS hk
      · exact hbv hk
    · rintro (hk | hk)
      · exact h.at_.beS hk
      · exact hbe hk
    · show (F.vs ++ [v]).length ≤ 2048
      rw [List.length_append]
      simp
      omega
    · intro u hu
      rcases List.mem_append.1 hu with hu | hu
      · exact h.ids u hu
      · rw [List.mem_singleton.1 hu]; exact h0)
  have HMW := Lib.hid hmw
  rw [hW] at hrun
  clear h hid h0 h1 h2 hvn hn hlen hbW hS m2 t2 hm2 hmw hgd hfs hbv hbe hfb hW
  go_enter Try.func23, Try.ntmps23
  go_wp2_with fail
  refine (K1.out w).mono ?_
  rintro e w1 ⟨rfl, hw⟩
  subst w1
  go_wp2_with (first | (at_lookup; refine wpList_lookG (X := kI) rfl _ _ _ rfl _ Try.underlying62 (zeroQ _) pQ_zero bv 4096 rfl HM.out v rfl hv _ _ HV.out.1 HV.out.2 ?_) | (at_len; refine wpList_lenG (X := kI) rfl _ _ rfl _ Try.underlying62 bv 4096 rfl HM.out F.vs HL.out.1 HL.out.2 len HLN.out.symm ?_))
  go_ret
  exact ⟨rfl, HMW.out, HFIN.out⟩

end

end Go.Proofs.Ytlhkajlkapoabaa
